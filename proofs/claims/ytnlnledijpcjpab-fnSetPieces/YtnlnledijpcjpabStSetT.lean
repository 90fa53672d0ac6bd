/-
  Chapter 5: the specification's SetPiece. Own work.
-/
import Derived.Test.YtnlnledijpcjpabStCopy
import Derived.Test.YtnlnledijpcjpabStAt
import Derived.Deep.RegionHeld
namespace Go.Proofs.Ytnlnledijpcjpab
open Go.ChangeShapes Go.WideShapes Go.ChangeAt Go.RowKit
set_option maxRecDepth 100000
set_option linter.unusedVariables false
set_option linter.unusedSimpArgs false
/-- a piece put in at place k, in place of the one at k -/
def ins (k : Nat) (p : Pc) (f : Nat → Pc) : Nat → Pc := fun i => if i < k then f i else if i = k then p else f (i - 1)
def put1 (k : Nat) (p : Pc) (f : Nat → Pc) : Nat → Pc := fun i => if i = k then p else f i
def spN (s : Stt) (p : Pc) : Nat := if paI s.pn s.ps p.id < 0 then s.pn + 1 else s.pn
def spF (s : Stt) (p : Pc) : Nat → Pc := if paI s.pn s.ps p.id < 0 then ins (pnN s.pn s.ps p.id) p s.ps else put1 (paI s.pn s.ps p.id).toNat p s.ps
def spS (s : Stt) (p : Pc) : Stt := { s with pn := spN s p, ps := spF s p }
theorem paI_cases (n : Nat) (f : Nat → Pc) (id : Int) : paI n f id = -1 ∨ ∃ k : Nat, k < n ∧ paI n f id = (k : Int) := by
  unfold paI
  cases h : (List.range n).find? (fun i => decide ((f i).id = id)) with
  | none => exact .inl rfl
  | some i => exact .inr ⟨i, List.mem_range.1 (List.mem_of_find?_eq_some h), rfl⟩
theorem pnN_at {n k : Nat} {f : Nat → Pc} {id : Int} (hk : k < n) (h : id < (f k).id) (h0 : ∀ j, j < k → (f j).id ≤ id) : pnN n f id = k := by
  have : (List.range n).find? (fun i => decide (id < (f i).id)) = some k := by
    rw [List.find?_range_eq_some]
    exact ⟨by simpa using h, List.mem_range.2 hk, fun j hj => by have := h0 j hj; simpa using this⟩
  unfold pnN
  rw [this]
theorem pnN_all {n : Nat} {f : Nat → Pc} {id : Int} (h0 : ∀ j, j < n → (f j).id ≤ id) : pnN n f id = n := by
  have : (List.range n).find? (fun i => decide (id < (f i).id)) = none := by
    rw [List.find?_eq_none]
    exact fun j hj => by have := h0 j (List.mem_range.1 hj); simpa using this
  unfold pnN
  rw [this]
theorem there_own {w : World} {B b n : Nat} {f : Nat → Pc} (h : OwnE pcC 13 w B b (some ⟨b, 0, none⟩) n f) {k : Nat} (hk : k < n) : w.there b (k * 13) 13 := by
  intro j hj
  refine ⟨?_, h.2.2.2 _⟩
  rcases h.rd with h3 | ⟨o, e, hc⟩
  · omega
  simp only [Option.some.injEq, Addr.mk.injEq, and_true, true_and] at e
  subst e
  have := hc k hk j _ (List.getElem?_eq_getElem (by rw [pcC_len]; exact hj))
  rw [Nat.zero_add] at this
  rw [this]
  rfl
theorem step_appendE {P : Program} {ops : Array Oper} {o : Oper} {a : Act} {w : World} {K : Act → World → Prop} {Q : Exit → Act → World → Prop} {E : Prop} (hgd : o.guard = none) (s x : Operand) (t : TypeId)
    (ho : o.op = .call { callee := .builtin .append, args := #[s, x], argTypes := #[t, t] })
    (base : Nat) (e : TypeId) (i : TypeInfo) (z : Value) (size bytes : Nat) (ht : P.underlying t = some (.slice e)) (hi : P.info? e = some i) (hz : i.zero = some z)
    (hsize : i.size = size) (hby : i.bytes = bytes) (hzs : z.cells.size = size) (hsz : 0 < size)
    (v : Value) (n : Nat) (xs : List Value) (hs : a.eval s = v) (hown : w.ownsRow base e size v n xs)
    (ad : Addr) (m c : Nat) (news : List Value) (hx : a.eval x = .slice (some ad) m c) (hl : news.length = m * size) (hnews : ∀ j u, news[j]? = some u → w.cell? (ad.add j) = some u) (h1 : ∀ u ∈ news, u.oneCell' = true)
    (h63 : n + m ≤ maxLen) (hbytes : (n + m) * bytes ≤ 140737488355328) (hbase : base ≤ w.heap.size)
    (h : ∀ v' w', w'.ownsRow base e size v' (n + m) (xs ++ news) → w.grownBy w' v.ownBlock → (v' = .slice none 0 0 ↔ v = .slice none 0 0 ∧ m = 0) → K (a.put o.dst v') w') : if Region.wanted o (yielded ops a.tmps) = true then Oper.wp P o a w K Q else E := by
  have hw : Region.wanted o (yielded ops a.tmps) = true := by simp [Region.wanted, hgd]
  rw [if_pos hw]
  exact wp_append_own w s x t ho base e i z size bytes ht hi hz hsize hby hzs hsz v n xs hs hown ad m c news hx hl hnews h1 h63 hbytes hbase h
theorem RdE.from' {w : World} {b n k m : Nat} {f : Nat → Pc} (h : RdE pcC 13 w b (some ⟨b, 0, none⟩) n f) (hm : k + m ≤ n) : RdE pcC 13 w b (some ⟨b, k * 13, none⟩) m (fun j => f (k + j)) := by
  by_cases h0 : m = 0
  · exact .inl h0
  rcases h with h | ⟨off, e, hc⟩
  · omega
  simp only [Option.some.injEq, Addr.mk.injEq, and_true, true_and] at e
  subst e
  refine .inr ⟨k * 13, rfl, fun i hi j v hv => ?_⟩
  have := hc (k + i) (by omega) j v hv
  rwa [show 0 + (k + i) * 13 + j = k * 13 + i * 13 + j by omega] at this
theorem ins_vals {n k : Nat} {p : Pc} {f : Nat → Pc} (hk : k ≤ n) : valsE pcC (n + 1) (ins k p f) = valsE pcC k f ++ pcC p ++ valsE pcC (n - k) (fun j => f (k + j)) := by
  symm
  refine valsE_ext pcC_len (by simp only [List.length_append, valsE_len pcC_len, pcC_len]; omega) (fun i j hi hj => ?_)
  by_cases h1 : i < k
  · have h2 : i * 13 + j < k * 13 := by omega
    rw [List.append_assoc, List.getElem?_append_left (by rw [valsE_len pcC_len]; exact h2), valsE_get pcC_len k f i j h1 hj]
    unfold ins
    rw [if_pos h1]
  · by_cases h2 : i = k
    · subst h2
      rw [List.append_assoc, List.getElem?_append_right (by rw [valsE_len pcC_len]; omega), valsE_len pcC_len, List.getElem?_append_left (by rw [pcC_len]; omega), show i * 13 + j - i * 13 = j by omega]
      unfold ins
      rw [if_neg h1, if_pos rfl]
    · rw [List.append_assoc, List.getElem?_append_right (by rw [valsE_len pcC_len]; omega), valsE_len pcC_len, List.getElem?_append_right (by rw [pcC_len]; omega), pcC_len, show i * 13 + j - k * 13 - 13 = (i - k - 1) * 13 + j by omega, valsE_get pcC_len _ _ (i - k - 1) j (by omega) hj]
      unfold ins
      rw [if_neg h1, if_neg h2, show k + (i - k - 1) = i - 1 by omega]
theorem news_at {w w' : World} {b t : Nat} {p : Pc} (e : w'.heap[b]? = w.heap[b]?) (h : BoxP w b t p) : ∀ j u, (pcC p)[j]? = some u → w'.cell? ((⟨b, 0, none⟩ : Addr).add j) = some u := fun j u hu => by
  rw [Go.WideShapes.add_plain, Nat.zero_add, cell_of_row w' b j _ t (0, 0) (e.trans h)]
  rw [List.getElem?_toArray]
  exact hu
set_option maxHeartbeats 16000000 in
theorem specSetPiece_any (s : Stt) (p : Pc) (w : World) (hok : s.ok w) (hf : Full s) (hn : s.pn ≤ 1048576) (hn2 : s.sn ≤ 1048576) : Calls Try.prog 65 #[(.agg #[.slice s.pa s.pn s.pcap, .slice s.sa s.sn s.scap, .int .i64 s.ac, .int .i64 s.cl]), (.agg #[.int .i64 p.id, .int .i64 p.ow, .int .i64 p.si, .int .i64 p.zo, .int .i64 p.st, .int .i64 p.po, .int .i64 p.to, .int .i64 p.tr, .int .i64 p.pl, .int .i64 p.mi, .int .i64 p.ma, .bool p.de, .bool p.be])] w fun e w' => AnsF (spS s p) w e w' := by
  have hb0 := (((Below.refl _ w).alloc (Nat.le_refl _) (.cells #[.slice s.pa s.pn s.pcap, .slice s.sa s.sn s.scap, .int .i64 s.ac, .int .i64 s.cl] 56)).alloc (by simp) (.cells #[.int .i64 p.id, .int .i64 p.ow, .int .i64 p.si, .int .i64 p.zo, .int .i64 p.st, .int .i64 p.po, .int .i64 p.to, .int .i64 p.tr, .int .i64 p.pl, .int .i64 p.mi, .int .i64 p.ma, .bool p.de, .bool p.be] 31)).alloc (by simp; omega) (.cells #[.slice none 0 0, .slice none 0 0, .int .i64 0, .int .i64 0] 56)
  have x1 := ((boxR_new w 56 #[.slice s.pa s.pn s.pcap, .slice s.sa s.sn s.scap, .int .i64 s.ac, .int .i64 s.cl]).alloc (.cells #[.int .i64 p.id, .int .i64 p.ow, .int .i64 p.si, .int .i64 p.zo, .int .i64 p.st, .int .i64 p.po, .int .i64 p.to, .int .i64 p.tr, .int .i64 p.pl, .int .i64 p.mi, .int .i64 p.ma, .bool p.de, .bool p.be] 31)).alloc (.cells #[.slice none 0 0, .slice none 0 0, .int .i64 0, .int .i64 0] 56)
  have x2 : BoxP _ (w.heap.size + 1) _ _ := (show BoxP ((w.alloc (.cells #[.slice s.pa s.pn s.pcap, .slice s.sa s.sn s.scap, .int .i64 s.ac, .int .i64 s.cl] 56)).alloc (.cells #[.int .i64 p.id, .int .i64 p.ow, .int .i64 p.si, .int .i64 p.zo, .int .i64 p.st, .int .i64 p.po, .int .i64 p.to, .int .i64 p.tr, .int .i64 p.pl, .int .i64 p.mi, .int .i64 p.ma, .bool p.de, .bool p.be] 31)) (w.heap.size + 1) 31 p from heap_alloc2_new _ _ _).alloc (.cells #[.slice none 0 0, .slice none 0 0, .int .i64 0, .int .i64 0] 56)
  have x3 := boxR_new ((w.alloc (.cells #[.slice s.pa s.pn s.pcap, .slice s.sa s.sn s.scap, .int .i64 s.ac, .int .i64 s.cl] 56)).alloc (.cells #[.int .i64 p.id, .int .i64 p.ow, .int .i64 p.si, .int .i64 p.zo, .int .i64 p.st, .int .i64 p.po, .int .i64 p.to, .int .i64 p.tr, .int .i64 p.pl, .int .i64 p.mi, .int .i64 p.ma, .bool p.de, .bool p.be] 31)) 56 #[.slice none 0 0, .slice none 0 0, .int .i64 0, .int .i64 0]
  rw [World.size_alloc, World.size_alloc] at x3
  generalize hW : ((w.alloc (.cells #[.slice s.pa s.pn s.pcap, .slice s.sa s.sn s.scap, .int .i64 s.ac, .int .i64 s.cl] 56)).alloc (.cells #[.int .i64 p.id, .int .i64 p.ow, .int .i64 p.si, .int .i64 p.zo, .int .i64 p.st, .int .i64 p.po, .int .i64 p.to, .int .i64 p.tr, .int .i64 p.pl, .int .i64 p.mi, .int .i64 p.ma, .bool p.de, .bool p.be] 31)).alloc (.cells #[.slice none 0 0, .slice none 0 0, .int .i64 0, .int .i64 0] 56) = W at hb0 x1 x2 x3
  have hokW := stt_grew hok hb0
  have c0 := x1.cell 0
  have c1 := x1.cell 1
  have c2 := x1.cell 2
  have c3 := x1.cell 3
  simp at c0 c1 c2 c3
  have hWs := hb0.size
  have hx3W : w.heap.size + 1 + 1 < W.heap.size := x3.lt
  go_enter Try.func65, Try.ntmps65
  go_wp2_with fail
  refine (l5Copy_any s W hokW hf (by omega) (by omega)).mono ?_
  rintro e u1 ⟨t, rfl, hb, o, al, fl⟩
  clear c0 c1 c2 c3 hW
  have htl : t.pn ≠ 0 → t.pb < u1.heap.size := fun h => (o.p.lt h).2
  have htl2 : t.sn ≠ 0 → t.sb < u1.heap.size := fun h => (o.s.lt h).2
  replace x1 := x1.grew hb
  replace x2 := x2.grew hb
  replace x3 := x3.grew hb
  have hB := below_app hb0 hb hb0.size
  have hlu : w.heap.size + 1 + 1 < u1.heap.size := x3.lt
  have xo := boxR_new u1 56 #[.slice t.pa t.pn t.pcap, .slice t.sa t.sn t.scap, .int .i64 t.ac, .int .i64 t.cl]
  have hbo := below_new2'' u1 (.cells #[.slice t.pa t.pn t.pcap, .slice t.sa t.sn t.scap, .int .i64 t.ac, .int .i64 t.cl] 56)
  generalize hV : u1.alloc (.cells #[.slice t.pa t.pn t.pcap, .slice t.sa t.sn t.scap, .int .i64 t.ac, .int .i64 t.cl] 56) = V at xo hbo
  replace x1 := x1.grew hbo
  replace x2 := x2.grew hbo
  replace x3 := x3.grew hbo
  replace o := o.grew hbo
  replace hB := below_app hB hbo hB.size
  have c0 := x1.cell 0
  have c1 := x1.cell 1
  have c2 := x1.cell 2
  have c3 := x1.cell 3
  simp at c0 c1 c2 c3
  obtain ⟨k0, _⟩ : Cells13 _ _ _ := x2.cells
  go_wp2_with fail
  refine (specPieceAt_any s p.id V (stt_grew hok hB) hn).mono ?_
  rintro e u2 ⟨rfl, hb2⟩
  clear c0 c1 c2 c3 k0 hV
  replace x1 := x1.grew hb2
  replace x2 := x2.grew hb2
  replace x3 := x3.grew hb2
  replace xo := xo.grew hb2
  replace o := o.grew hb2
  replace hB := below_app hB hb2 hB.size
  clear hb hbo hb2
  have hOB : W.heap.size ≤ t.pb ∨ t.pn = 0 := by
    by_cases h0 : t.pn = 0
    · exact .inr h0
    · exact .inl (o.p.lt h0).1
  rcases paI_cases s.pn s.ps p.id with hk | ⟨k, hk1, hk⟩
  rotate_left
  · have HN : Hid (spN s p = s.pn ∧ spF s p = put1 k p s.ps) := show _ ∧ _ by unfold spN spF; rw [hk, if_neg (by omega), if_neg (by omega)]; exact ⟨rfl, by simp⟩
    rw [hk]
    have hpt : t.pn = s.pn := al.pn
    have ho : OwnE pcC 13 u2 W.heap.size t.pb (some ⟨t.pb, 0, none⟩) t.pn t.ps := by
      rcases o.p with h | h
      · omega
      · have := fl.1; rw [this] at h; exact h
    have hkt : k < t.pn := by omega
    have HPT : Hid (t.pn = s.pn) := hpt
    clear hpt
    have ht := there_own ho hkt
    have hput := ho.putE pcC_len k hkt p
    rw [Nat.zero_add] at hput
    have hpl := ho.2.1
    have e0 : u2.cell? ⟨u1.heap.size, 0, none⟩ = some (.slice (some ⟨t.pb, 0, none⟩) t.pn t.pcap) := by have := xo.cell 0; rw [fl.1] at this; exact this
    obtain ⟨k0, k1, k2, k3, k4, k5, k6, k7, k8, k9, k10, k11, k12⟩ : Cells13 _ _ _ := x2.cells
    have y1 : (0 : Int) ≤ (k : Int) := by omega
    have y2 : (k : Int) < (t.pn : Int) := by omega
    have hoB := ho.1
    have ht0 := htl (by omega)
    have z3 : BoxR (u2.setCells t.pb (k * 13) (pcC p)) (w.heap.size + 1 + 1) 56 #[.slice none 0 0, .slice none 0 0, .int .i64 0, .int .i64 0] := (heap_setCells_ne t.pb (w.heap.size + 1 + 1) (by omega) (pcC p) (k * 13) u2).trans x3
    have zo : BoxR (u2.setCells t.pb (k * 13) (pcC p)) u1.heap.size 56 #[.slice t.pa t.pn t.pcap, .slice t.sa t.sn t.scap, .int .i64 t.ac, .int .i64 t.cl] := (heap_setCells_ne t.pb u1.heap.size (by omega) (pcC p) (k * 13) u2).trans xo
    have zs : OwnZ sdC 3 (u2.setCells t.pb (k * 13) (pcC p)) W.heap.size t.sb t.sa t.sn t.ss := o.s.same (fun h => heap_setCells_ne t.pb t.sb (fun e => o.ne (by omega) h e.symm) (pcC p) (k * 13) u2) (by rw [size_setCells]; exact Nat.le_refl _)
    have hB2 := below_setCells' (g := t.pb) (show w.heap.size ≤ t.pb by omega) (pcC p) (k * 13) u2 hB
    generalize hU : u2.setCells t.pb (k * 13) (pcC p) = U at hput z3 zo zs hB2
    have m0 := zo.cell 0
    have m1 := zo.cell 1
    have m2 := zo.cell 2
    have m3 := zo.cell 3
    simp at m0 m1 m2 m3
    go_wp2_with first | (refine wpList_store_row rfl 56 (.tmp 4) (.tmp 20) rfl (w.heap.size + 1 + 1) _ (by rfl) (by rfl) _ _ z3 (by kernel_rfl) (by rfl) (by simp [Value.oneCell']) ?_) | (refine wpList_store_mid rfl 31 (.tmp 19) (.tmp 18) rfl t.pb (k * 13) #[.int .i64 p.id, .int .i64 p.ow, .int .i64 p.si, .int .i64 p.zo, .int .i64 p.st, .int .i64 p.po, .int .i64 p.to, .int .i64 p.tr, .int .i64 p.pl, .int .i64 p.mi, .int .i64 p.ma, .bool p.de, .bool p.be] (by first | rfl | simp [Act.eval]) rfl ht (by kernel_rfl) (by simp [Value.oneCell']) ?_; generalize hU2 : u2.setCells t.pb (k * 13) _ = U2; obtain rfl : U = U2 := hU.symm.trans hU2)
    (try simp only [Exit.inBlock, Exit.then]); refine bodyPost_ret (results_cell_row rfl _ _ (w.heap.size + 1 + 1) _ _ _ _ rfl (setRow_heap _ _ _ _ _ _ z3) Try.underlying56 rfl (by kernel_rfl)) rfl ?_
    have hr : OwnE pcC 13 (U.setRow (w.heap.size + 1 + 1) #[.slice t.pa t.pn t.pcap, .slice t.sa t.sn t.scap, .int .i64 t.ac, .int .i64 t.cl]) w.heap.size t.pb t.pa t.pn (put1 k p t.ps) := by
      rw [fl.1]
      exact (hput.setRow (by omega) _).downTo (by omega)
    refine ⟨{ t with ps := put1 k p t.ps }, rfl, below_setRow hB2 (by omega) _, ⟨.inr hr, (zs.same (fun h => heap_setRow_ne' _ _ _ _ (by have := (zs.lt h).1; omega)) (by rw [size_setRow']; exact Nat.le_refl _)).down (by omega), o.ne, o.pc, o.pm, o.sc, o.sm⟩, ⟨by show t.pn = spN s p; rw [HN.out.1, HPT.out], by show put1 k p t.ps = spF s p; rw [HN.out.2, al.ps], al.sn, al.ss, al.ac, al.cl⟩, fl⟩
  · have HN : Hid (spN s p = s.pn + 1 ∧ spF s p = ins (pnN s.pn s.ps p.id) p s.ps) := show _ ∧ _ by unfold spN spF; rw [hk, if_pos (by omega), if_pos (by omega)]; exact ⟨rfl, rfl⟩
    rw [hk]
    obtain ⟨i0, hi, hz0, hz1, hz2⟩ := info_parts Try.infoPc
    have hsw := hok
    obtain ⟨hpc, hpm, r1, _⟩ := hsw
    go_wp2
    go_loopw [6] (fun i wr => ∃ k : Nat, k ≤ s.pn ∧ i = .int .i64 k ∧ Below u2.heap.size u2 wr ∧ Hid (∀ j, j < k → (s.ps j).id ≤ p.id)) (fun i _ => s.pn - (intOf i).toNat)
    case atStart => exact ⟨0, Nat.zero_le _, rfl, Below.refl _ _, fun j hj => by omega⟩
    case round =>
      obtain ⟨k, hkl, rfl, hb, hall⟩ := hrel
      have z1 := x1.grew hb
      have z2 := x2.grew hb
      have hBr := below_app hB hb hB.size
      have c0 : wr.cell? ⟨w.heap.size, 0, none⟩ = some (.slice (some ⟨s.pb, 0, none⟩) s.pn s.pcap) := by have := z1.cell 0; rw [hf.1] at this; exact this
      obtain ⟨k0, k1, k2, k3, k4, k5, k6, k7, k8, k9, k10, k11, k12⟩ : Cells13 _ _ _ := z2.cells
      by_cases hlt : k < s.pn
      · by_cases hle : (s.ps k).id ≤ p.id
        · have HA : Hid (∀ j, j < k + 1 → (s.ps j).id ≤ p.id) := fun j hj => by
            by_cases e : j = k
            · subst e; exact hle
            · exact hall.out j (by omega)
          have hid : wr.cell? ⟨s.pb, k * 13, none⟩ = some (.int .i64 (s.ps k).id) := by
            rcases r1.grew pcC_ne hBr with h3 | ⟨o1, e, h3⟩
            · omega
            rw [hf.1] at e
            simp only [Option.some.injEq, Addr.mk.injEq, and_true, true_and] at e
            subst e
            have := h3 k hlt 0 _ rfl
            rwa [Nat.zero_add, Nat.add_zero] at this
          have y1 : (0 : Int) ≤ (k : Int) := by omega
          have y2 : (k : Int) < (s.pn : Int) := by omega
          clear hall
          go_wp2
          go_quiet (fail)
          go_wp2
          go_roundw
          case rel => first | exact ⟨k + 1, by omega, by go_num, below_drewN hb _, HA⟩ | ((repeat apply Exists.intro); exact ⟨⟨k + 1, by omega, by go_num, below_drewN hb _, HA⟩, rfl⟩)
          case measure => simp [intOf]; omega
        · have hgt : p.id < (s.ps k).id := by omega
          have HK : Hid (pnN s.pn s.ps p.id = k) := pnN_at hlt hgt hall.out
          have hid : wr.cell? ⟨s.pb, k * 13, none⟩ = some (.int .i64 (s.ps k).id) := by
            rcases r1.grew pcC_ne hBr with h3 | ⟨o1, e, h3⟩
            · omega
            rw [hf.1] at e
            simp only [Option.some.injEq, Addr.mk.injEq, and_true, true_and] at e
            subst e
            have := h3 k hlt 0 _ rfl
            rwa [Nat.zero_add, Nat.add_zero] at this
          have y1 : (0 : Int) ≤ (k : Int) := by omega
          have y2 : (k : Int) < (s.pn : Int) := by omega
          have y3 : decide ((s.ps k).id ≤ p.id) = false := decide_eq_false hle
          clear hall hle hgt
          go_wp2
          go_quiet (fail)
          go_wp2
          have hbX := below_drewN hb nq
          have hBX := below_app hB hbX hB.size
          have r1X : RdE pcC 13 (wr.drewN nq) s.pb (some ⟨s.pb, 0, none⟩) s.pn s.ps := by have := r1.grew pcC_ne hBX; rw [hf.1] at this; exact this
          have x1X := x1.grew hbX
          have x2X := x2.grew hbX
          have x3X := x3.grew hbX
          have xoX := xo.grew hbX
          have oX := o.grew hbX
          have hXl : w.heap.size + 1 + 1 < u1.heap.size := hlu
          have hXo := xoX.lt
          generalize hX : wr.drewN nq = X at hbX hBX r1X x1X x2X x3X xoX oX hXo ⊢
          clear k0 k1 k2 k3 k4 k5 k6 k7 k8 k9 k10 k11 k12 c0
          have c0 : X.cell? ⟨w.heap.size, 0, none⟩ = some (.slice (some ⟨s.pb, 0, none⟩) s.pn s.pcap) := by have := x1X.cell 0; rw [hf.1] at this; exact this
          obtain ⟨k0, k1, k2, k3, k4, k5, k6, k7, k8, k9, k10, k11, k12⟩ : Cells13 _ _ _ := x2X.cells
          have SK : ∀ u : World, Below X.heap.size X u → u.cell? ⟨w.heap.size, 0, none⟩ = some (.slice (some ⟨s.pb, 0, none⟩) s.pn s.pcap) ∧ u.cell? ⟨w.heap.size + 1, 0, none⟩ = some (.int .i64 p.id) ∧ u.cell? ⟨w.heap.size + 1, 1, none⟩ = some (.int .i64 p.ow) ∧ u.cell? ⟨w.heap.size + 1, 2, none⟩ = some (.int .i64 p.si) ∧ u.cell? ⟨w.heap.size + 1, 3, none⟩ = some (.int .i64 p.zo) ∧ u.cell? ⟨w.heap.size + 1, 4, none⟩ = some (.int .i64 p.st) ∧ u.cell? ⟨w.heap.size + 1, 5, none⟩ = some (.int .i64 p.po) ∧ u.cell? ⟨w.heap.size + 1, 6, none⟩ = some (.int .i64 p.to) ∧ u.cell? ⟨w.heap.size + 1, 7, none⟩ = some (.int .i64 p.tr) ∧ u.cell? ⟨w.heap.size + 1, 8, none⟩ = some (.int .i64 p.pl) ∧ u.cell? ⟨w.heap.size + 1, 9, none⟩ = some (.int .i64 p.mi) ∧ u.cell? ⟨w.heap.size + 1, 10, none⟩ = some (.int .i64 p.ma) ∧ u.cell? ⟨w.heap.size + 1, 11, none⟩ = some (.bool p.de) ∧ u.cell? ⟨w.heap.size + 1, 12, none⟩ = some (.bool p.be) := fun u hu => ⟨(hu.cell (World.block_lt_of_cell? _ _ c0)).trans c0, (hu.cell (World.block_lt_of_cell? _ _ k0)).trans k0, (hu.cell (World.block_lt_of_cell? _ _ k1)).trans k1, (hu.cell (World.block_lt_of_cell? _ _ k2)).trans k2, (hu.cell (World.block_lt_of_cell? _ _ k3)).trans k3, (hu.cell (World.block_lt_of_cell? _ _ k4)).trans k4, (hu.cell (World.block_lt_of_cell? _ _ k5)).trans k5, (hu.cell (World.block_lt_of_cell? _ _ k6)).trans k6, (hu.cell (World.block_lt_of_cell? _ _ k7)).trans k7, (hu.cell (World.block_lt_of_cell? _ _ k8)).trans k8, (hu.cell (World.block_lt_of_cell? _ _ k9)).trans k9, (hu.cell (World.block_lt_of_cell? _ _ k10)).trans k10, (hu.cell (World.block_lt_of_cell? _ _ k11)).trans k11, (hu.cell (World.block_lt_of_cell? _ _ k12)).trans k12⟩
          have SKs : ∀ (u : World) (v : Value), (u.cell? ⟨w.heap.size, 0, none⟩ = some (.slice (some ⟨s.pb, 0, none⟩) s.pn s.pcap) ∧ u.cell? ⟨w.heap.size + 1, 0, none⟩ = some (.int .i64 p.id) ∧ u.cell? ⟨w.heap.size + 1, 1, none⟩ = some (.int .i64 p.ow) ∧ u.cell? ⟨w.heap.size + 1, 2, none⟩ = some (.int .i64 p.si) ∧ u.cell? ⟨w.heap.size + 1, 3, none⟩ = some (.int .i64 p.zo) ∧ u.cell? ⟨w.heap.size + 1, 4, none⟩ = some (.int .i64 p.st) ∧ u.cell? ⟨w.heap.size + 1, 5, none⟩ = some (.int .i64 p.po) ∧ u.cell? ⟨w.heap.size + 1, 6, none⟩ = some (.int .i64 p.to) ∧ u.cell? ⟨w.heap.size + 1, 7, none⟩ = some (.int .i64 p.tr) ∧ u.cell? ⟨w.heap.size + 1, 8, none⟩ = some (.int .i64 p.pl) ∧ u.cell? ⟨w.heap.size + 1, 9, none⟩ = some (.int .i64 p.mi) ∧ u.cell? ⟨w.heap.size + 1, 10, none⟩ = some (.int .i64 p.ma) ∧ u.cell? ⟨w.heap.size + 1, 11, none⟩ = some (.bool p.de) ∧ u.cell? ⟨w.heap.size + 1, 12, none⟩ = some (.bool p.be)) → (u.setCell ⟨u1.heap.size, 0, none⟩ v).cell? ⟨w.heap.size, 0, none⟩ = some (.slice (some ⟨s.pb, 0, none⟩) s.pn s.pcap) ∧ (u.setCell ⟨u1.heap.size, 0, none⟩ v).cell? ⟨w.heap.size + 1, 0, none⟩ = some (.int .i64 p.id) ∧ (u.setCell ⟨u1.heap.size, 0, none⟩ v).cell? ⟨w.heap.size + 1, 1, none⟩ = some (.int .i64 p.ow) ∧ (u.setCell ⟨u1.heap.size, 0, none⟩ v).cell? ⟨w.heap.size + 1, 2, none⟩ = some (.int .i64 p.si) ∧ (u.setCell ⟨u1.heap.size, 0, none⟩ v).cell? ⟨w.heap.size + 1, 3, none⟩ = some (.int .i64 p.zo) ∧ (u.setCell ⟨u1.heap.size, 0, none⟩ v).cell? ⟨w.heap.size + 1, 4, none⟩ = some (.int .i64 p.st) ∧ (u.setCell ⟨u1.heap.size, 0, none⟩ v).cell? ⟨w.heap.size + 1, 5, none⟩ = some (.int .i64 p.po) ∧ (u.setCell ⟨u1.heap.size, 0, none⟩ v).cell? ⟨w.heap.size + 1, 6, none⟩ = some (.int .i64 p.to) ∧ (u.setCell ⟨u1.heap.size, 0, none⟩ v).cell? ⟨w.heap.size + 1, 7, none⟩ = some (.int .i64 p.tr) ∧ (u.setCell ⟨u1.heap.size, 0, none⟩ v).cell? ⟨w.heap.size + 1, 8, none⟩ = some (.int .i64 p.pl) ∧ (u.setCell ⟨u1.heap.size, 0, none⟩ v).cell? ⟨w.heap.size + 1, 9, none⟩ = some (.int .i64 p.mi) ∧ (u.setCell ⟨u1.heap.size, 0, none⟩ v).cell? ⟨w.heap.size + 1, 10, none⟩ = some (.int .i64 p.ma) ∧ (u.setCell ⟨u1.heap.size, 0, none⟩ v).cell? ⟨w.heap.size + 1, 11, none⟩ = some (.bool p.de) ∧ (u.setCell ⟨u1.heap.size, 0, none⟩ v).cell? ⟨w.heap.size + 1, 12, none⟩ = some (.bool p.be) := fun u v hS => by
            obtain ⟨q0, q1, q2, q3, q4, q5, q6, q7, q8, q9, q10, q11, q12, q13⟩ := hS
            exact ⟨(World.cell?_setCell_other _ _ _ _ (by intro e; simp at e; try omega)).trans q0, (World.cell?_setCell_other _ _ _ _ (by intro e; simp at e; try omega)).trans q1, (World.cell?_setCell_other _ _ _ _ (by intro e; simp at e; try omega)).trans q2, (World.cell?_setCell_other _ _ _ _ (by intro e; simp at e; try omega)).trans q3, (World.cell?_setCell_other _ _ _ _ (by intro e; simp at e; try omega)).trans q4, (World.cell?_setCell_other _ _ _ _ (by intro e; simp at e; try omega)).trans q5, (World.cell?_setCell_other _ _ _ _ (by intro e; simp at e; try omega)).trans q6, (World.cell?_setCell_other _ _ _ _ (by intro e; simp at e; try omega)).trans q7, (World.cell?_setCell_other _ _ _ _ (by intro e; simp at e; try omega)).trans q8, (World.cell?_setCell_other _ _ _ _ (by intro e; simp at e; try omega)).trans q9, (World.cell?_setCell_other _ _ _ _ (by intro e; simp at e; try omega)).trans q10, (World.cell?_setCell_other _ _ _ _ (by intro e; simp at e; try omega)).trans q11, (World.cell?_setCell_other _ _ _ _ (by intro e; simp at e; try omega)).trans q12, (World.cell?_setCell_other _ _ _ _ (by intro e; simp at e; try omega)).trans q13⟩
          clear k0 k1 k2 k3 k4 k5 k6 k7 k8 k9 k10 k11 k12 c0 hX
          have g1 : (k : Int) ≤ (s.pcap : Int) := by omega
          have g2 : (k : Int) ≤ (s.pn : Int) := by omega
          have g3 : (0 : Int) ≤ (k : Int) := by omega
          have hkc : k < s.pcap := by omega
          have g4 : ¬ s.pcap = k := by omega
          refine wp_region_held_drew (S := fun u : World => u.cell? ⟨w.heap.size, 0, none⟩ = some (.slice (some ⟨s.pb, 0, none⟩) s.pn s.pcap) ∧ u.cell? ⟨w.heap.size + 1, 0, none⟩ = some (.int .i64 p.id) ∧ u.cell? ⟨w.heap.size + 1, 1, none⟩ = some (.int .i64 p.ow) ∧ u.cell? ⟨w.heap.size + 1, 2, none⟩ = some (.int .i64 p.si) ∧ u.cell? ⟨w.heap.size + 1, 3, none⟩ = some (.int .i64 p.zo) ∧ u.cell? ⟨w.heap.size + 1, 4, none⟩ = some (.int .i64 p.st) ∧ u.cell? ⟨w.heap.size + 1, 5, none⟩ = some (.int .i64 p.po) ∧ u.cell? ⟨w.heap.size + 1, 6, none⟩ = some (.int .i64 p.to) ∧ u.cell? ⟨w.heap.size + 1, 7, none⟩ = some (.int .i64 p.tr) ∧ u.cell? ⟨w.heap.size + 1, 8, none⟩ = some (.int .i64 p.pl) ∧ u.cell? ⟨w.heap.size + 1, 9, none⟩ = some (.int .i64 p.mi) ∧ u.cell? ⟨w.heap.size + 1, 10, none⟩ = some (.int .i64 p.ma) ∧ u.cell? ⟨w.heap.size + 1, 11, none⟩ = some (.bool p.de) ∧ u.cell? ⟨w.heap.size + 1, 12, none⟩ = some (.bool p.be)) (by kernel_rfl) (SK _ ((Below.refl _ X).drew)) (fun hHeld => ?_)
          refine wpAnyH_take (i := 1) (v := .pointer (some ⟨w.heap.size, 0, none⟩)) rfl (by kernel_rfl) (by kernel_rfl) (by kernel_rfl) (fun _ _ _ h => h) (Or.inl ⟨by rfl, fun u hSu => by (try dsimp only at hSu); go_simp⟩) hHeld ?_
          try simp only [Act.put, List.setIfInBounds_toArray, List.set_cons_zero, List.set_cons_succ]
          refine wpAnyH_take (i := 2) (v := .slice (some ⟨s.pb, 0, none⟩) s.pn s.pcap) rfl (by kernel_rfl) (by kernel_rfl) (by kernel_rfl) (fun _ _ _ h => h) (Or.inl ⟨by rfl, fun u hSu => by (try dsimp only at hSu); go_simp⟩) hHeld ?_
          try simp only [Act.put, List.setIfInBounds_toArray, List.set_cons_zero, List.set_cons_succ]
          refine wpAnyH_take (i := 3) (v := .int .i64 k) rfl (by kernel_rfl) (by kernel_rfl) (by kernel_rfl) (fun _ _ _ h => h) (Or.inl ⟨by rfl, fun u hSu => by (try dsimp only at hSu); go_simp⟩) hHeld ?_
          try simp only [Act.put, List.setIfInBounds_toArray, List.set_cons_zero, List.set_cons_succ]
          refine wpAnyH_take (i := 4) (v := .slice (some ⟨s.pb, 0, none⟩) k s.pcap) rfl (by kernel_rfl) (by kernel_rfl) (by kernel_rfl) (fun _ _ _ h => h) (Or.inl ⟨by rfl, fun u hSu => by (try dsimp only at hSu); go_simp⟩) hHeld ?_
          try simp only [Act.put, List.setIfInBounds_toArray, List.set_cons_zero, List.set_cons_succ]
          refine wpAnyH_take (i := 6) (v := (.agg #[.int .i64 p.id, .int .i64 p.ow, .int .i64 p.si, .int .i64 p.zo, .int .i64 p.st, .int .i64 p.po, .int .i64 p.to, .int .i64 p.tr, .int .i64 p.pl, .int .i64 p.mi, .int .i64 p.ma, .bool p.de, .bool p.be])) rfl (by kernel_rfl) (by kernel_rfl) (by kernel_rfl) (fun _ _ _ h => h) (Or.inl ⟨by rfl, fun u hSu => by (try dsimp only at hSu); go_simp⟩) hHeld ?_
          try simp only [Act.put, List.setIfInBounds_toArray, List.set_cons_zero, List.set_cons_succ]
          refine wpAnyH_take (i := 9) (v := .pointer (some ⟨w.heap.size, 0, none⟩)) rfl (by kernel_rfl) (by kernel_rfl) (by kernel_rfl) (fun _ _ _ h => h) (Or.inl ⟨by rfl, fun u hSu => by (try dsimp only at hSu); go_simp⟩) hHeld ?_
          try simp only [Act.put, List.setIfInBounds_toArray, List.set_cons_zero, List.set_cons_succ]
          refine wpAnyH_take (i := 10) (v := .slice (some ⟨s.pb, 0, none⟩) s.pn s.pcap) rfl (by kernel_rfl) (by kernel_rfl) (by kernel_rfl) (fun _ _ _ h => h) (Or.inl ⟨by rfl, fun u hSu => by (try dsimp only at hSu); go_simp⟩) hHeld ?_
          try simp only [Act.put, List.setIfInBounds_toArray, List.set_cons_zero, List.set_cons_succ]
          refine wpAnyH_take (i := 11) (v := .int .i64 k) rfl (by kernel_rfl) (by kernel_rfl) (by kernel_rfl) (fun _ _ _ h => h) (Or.inl ⟨by rfl, fun u hSu => by (try dsimp only at hSu); go_simp⟩) hHeld ?_
          try simp only [Act.put, List.setIfInBounds_toArray, List.set_cons_zero, List.set_cons_succ]
          refine wpAnyH_take (i := 12) (v := .slice (some ⟨s.pb, k * 13, none⟩) (s.pn - k) (s.pcap - k)) rfl (by kernel_rfl) (by kernel_rfl) (by kernel_rfl) (fun _ _ _ h => h) (Or.inl ⟨by rfl, fun u hSu => by (try dsimp only at hSu); go_simp⟩) hHeld ?_
          try simp only [Act.put, List.setIfInBounds_toArray, List.set_cons_zero, List.set_cons_succ]
          have hD : Below X.heap.size X X.drew := (Below.refl _ X).drew
          have hA := hD.alloc (Nat.le_refl X.heap.size) (.cells #[] 31)
          have hP := hD.alloc (Nat.le_refl X.heap.size) (.cells #[.int .i64 p.id, .int .i64 p.ow, .int .i64 p.si, .int .i64 p.zo, .int .i64 p.st, .int .i64 p.po, .int .i64 p.to, .int .i64 p.tr, .int .i64 p.pl, .int .i64 p.mi, .int .i64 p.ma, .bool p.de, .bool p.be] 31)
          have hAP := hA.alloc hA.size (.cells #[.int .i64 p.id, .int .i64 p.ow, .int .i64 p.si, .int .i64 p.zo, .int .i64 p.st, .int .i64 p.po, .int .i64 p.to, .int .i64 p.tr, .int .i64 p.pl, .int .i64 p.mi, .int .i64 p.ma, .bool p.de, .bool p.be] 31)
          have hPA := hP.alloc hP.size (.cells #[] 31)
          have oA : (X.drew.alloc (.cells #[] 31)).ownsRow X.heap.size 31 13 (.slice (some ⟨X.heap.size, 0, none⟩) 0 0) 0 [] := World.ownsRow_lit X.drew #[] 0 (Nat.le_refl _) (by decide) rfl
          have oPA : ((X.drew.alloc (.cells #[.int .i64 p.id, .int .i64 p.ow, .int .i64 p.si, .int .i64 p.zo, .int .i64 p.st, .int .i64 p.po, .int .i64 p.to, .int .i64 p.tr, .int .i64 p.pl, .int .i64 p.mi, .int .i64 p.ma, .bool p.de, .bool p.be] 31)).alloc (.cells #[] 31)).ownsRow X.heap.size 31 13 (.slice (some ⟨X.heap.size + 1, 0, none⟩) 0 0) 0 [] := by have := World.ownsRow_lit (base := X.heap.size) (e := 31) (size := 13) (X.drew.alloc (.cells #[.int .i64 p.id, .int .i64 p.ow, .int .i64 p.si, .int .i64 p.zo, .int .i64 p.st, .int .i64 p.po, .int .i64 p.to, .int .i64 p.tr, .int .i64 p.pl, .int .i64 p.mi, .int .i64 p.ma, .bool p.de, .bool p.be] 31)) #[] 0 (by simp) (by decide) rfl; rwa [World.size_alloc] at this
          refine wpAnyH_ready (rs := [0, 7]) (by kernel_rfl) (by simp) ?_
          refine AllReadyH.cons rfl (fun K hK => ?_) (AllReadyH.cons rfl (fun K hK => ?_) AllReadyH.nil)
          · go_simp
            refine hK.out _ _ (SK _ hA) (fun hHeld => ?_)
            clear hK
            try simp only [Act.put, List.setIfInBounds_toArray, List.set_cons_zero, List.set_cons_succ]
            refine wpAnyH_ready (rs := [5, 7]) (by kernel_rfl) (by simp) ?_
            refine AllReadyH.cons rfl (fun K hK => ?_) (AllReadyH.cons rfl (fun K hK => ?_) AllReadyH.nil)
            · refine step_appendE rfl (.tmp 39) (.tmp 43) 53 rfl X.heap.size 31 i0 _ 13 96 Try.underlying53 hi hz0 hz1 hz2 rfl (by decide) (.slice (some ⟨X.heap.size, 0, none⟩) 0 0) 0 [] rfl oA ⟨s.pb, 0, none⟩ k s.pcap (valsE pcC k s.ps) rfl (by rw [valsE_len pcC_len]) ((((r1X.first hkl).grew pcC_ne hA)).newsE pcC_len) (pcC_one _ _) (by unfold maxLen; omega) (by omega) hA.size ?_
              intro v4 w4 hown4 hgr4 hnil4
              have hv4 : v4 ≠ .slice none 0 0 := fun e => by first | exact hnil4 e | (have h9 := (hnil4.1 e).1; simp at h9)
              have hb4 : Below X.heap.size X w4 := hA.grown hgr4 hA.size (fun k' hk' => by simp [Value.ownBlock] at hk'; omega)
              (try simp only [Nat.zero_add, List.nil_append] at hown4)
              refine hK.out _ _ (SK _ hb4) (fun hHeld => ?_)
              clear hK
              try simp only [Act.put, List.setIfInBounds_toArray, List.set_cons_zero, List.set_cons_succ]
              refine wpAnyH_ready (rs := [7]) (by kernel_rfl) (by simp) ?_
              refine AllReadyH.cons rfl (fun K hK => ?_) AllReadyH.nil
              go_simp
              refine hK.out _ _ (SK _ (hb4.alloc hb4.size (.cells #[.int .i64 p.id, .int .i64 p.ow, .int .i64 p.si, .int .i64 p.zo, .int .i64 p.st, .int .i64 p.po, .int .i64 p.to, .int .i64 p.tr, .int .i64 p.pl, .int .i64 p.mi, .int .i64 p.ma, .bool p.de, .bool p.be] 31))) (fun hHeld => ?_)
              clear hK
              try simp only [Act.put, List.setIfInBounds_toArray, List.set_cons_zero, List.set_cons_succ]
              refine wpAnyH_ready (rs := [8]) (by kernel_rfl) (by simp) ?_
              refine AllReadyH.cons rfl (fun K hK => ?_) AllReadyH.nil
              refine step_appendE rfl (.tmp 44) (.tmp 46) 53 rfl X.heap.size 31 i0 _ 13 96 Try.underlying53 hi hz0 hz1 hz2 rfl (by decide) v4 k _ rfl (hown4.alloc _) ⟨w4.heap.size, 0, none⟩ 1 1 (pcC p) rfl rfl (cells_new w4 (pcC p) _) (by intro u hu; simp only [pcC, List.mem_cons, List.mem_nil_iff, or_false] at hu; rcases hu with rfl | rfl | rfl | rfl | rfl | rfl | rfl | rfl | rfl | rfl | rfl | rfl | rfl <;> rfl) (by unfold maxLen; omega) (by omega) (hb4.alloc hb4.size (.cells #[.int .i64 p.id, .int .i64 p.ow, .int .i64 p.si, .int .i64 p.zo, .int .i64 p.st, .int .i64 p.po, .int .i64 p.to, .int .i64 p.tr, .int .i64 p.pl, .int .i64 p.mi, .int .i64 p.ma, .bool p.de, .bool p.be] 31)).size ?_
              intro v5 w5 hown5 hgr5 hnil5
              have hv5 : v5 ≠ .slice none 0 0 := fun e => by first | exact hnil5 e | exact hv4 (hnil5.1 e).1
              have hb5 : Below X.heap.size X w5 := (hb4.alloc hb4.size (.cells #[.int .i64 p.id, .int .i64 p.ow, .int .i64 p.si, .int .i64 p.zo, .int .i64 p.st, .int .i64 p.po, .int .i64 p.to, .int .i64 p.tr, .int .i64 p.pl, .int .i64 p.mi, .int .i64 p.ma, .bool p.de, .bool p.be] 31)).grown hgr5 (hb4.alloc hb4.size (.cells #[.int .i64 p.id, .int .i64 p.ow, .int .i64 p.si, .int .i64 p.zo, .int .i64 p.st, .int .i64 p.po, .int .i64 p.to, .int .i64 p.tr, .int .i64 p.pl, .int .i64 p.mi, .int .i64 p.ma, .bool p.de, .bool p.be] 31)).size (fun k' hk' => (hown4.lt k' hk').1)
              refine hK.out _ _ (SK _ hb5) (fun hHeld => ?_)
              clear hK
              try simp only [Act.put, List.setIfInBounds_toArray, List.set_cons_zero, List.set_cons_succ]
              refine wpAnyH_ready (rs := [13]) (by kernel_rfl) (by simp) ?_
              refine AllReadyH.cons rfl (fun K hK => ?_) AllReadyH.nil
              refine step_appendE rfl (.tmp 47) (.tmp 51) 53 rfl X.heap.size 31 i0 _ 13 96 Try.underlying53 hi hz0 hz1 hz2 rfl (by decide) v5 (k + 1) _ rfl hown5 ⟨s.pb, k * 13, none⟩ (s.pn - k) (s.pcap - k) (valsE pcC (s.pn - k) (fun j => s.ps (k + j))) rfl (by rw [valsE_len pcC_len]) (((r1X.from' (by omega)).grew pcC_ne hb5).newsE pcC_len) (pcC_one _ _) (by unfold maxLen; omega) (by omega) hb5.size ?_
              intro v6 w6 hown6 hgr6 hnil6
              have hv6 : v6 ≠ .slice none 0 0 := fun e => by first | exact hnil6 e | exact hv5 (hnil6.1 e).1
              have hb6 : Below X.heap.size X w6 := hb5.grown hgr6 hb5.size (fun k' hk' => (hown5.lt k' hk').1)
              refine hK.out _ _ (SK _ hb6) (fun hHeld => ?_)
              clear hK
              try simp only [Act.put, List.setIfInBounds_toArray, List.set_cons_zero, List.set_cons_succ]
              have hrow : w6.ownsRow X.heap.size 31 13 v6 (s.pn + 1) (valsE pcC (s.pn + 1) (ins k p s.ps)) := by
                rw [ins_vals hkl]
                have e8 : k + 1 + (s.pn - k) = s.pn + 1 := by omega
                rw [← e8]
                first | exact hown6 | (simpa [Nat.sub_self, valsE] using hown6)
              obtain ⟨q6, cap6, rfl, hc6, o6⟩ := own_ofE pcC_len hrow hv6
              obtain ⟨cur6, hcur6, hm6⟩ := row_type hrow
              refine wpAnyH_take (i := 14) (v := .pointer (some ⟨u1.heap.size, 0, none⟩)) rfl (by kernel_rfl) (by kernel_rfl) (by kernel_rfl) (fun _ _ _ h => h) (Or.inl ⟨by rfl, fun u hSu => by (try dsimp only at hSu); go_simp⟩) hHeld ?_
              try simp only [Act.put, List.setIfInBounds_toArray, List.set_cons_zero, List.set_cons_succ]
              have zo := xoX.grew hb6
              have zr := x3X.grew hb6
              have oz := oX.grew hb6
              have f0 := zo.froz 0
              have g0 : w6.cell? ⟨u1.heap.size, 0, none⟩ = some (.slice t.pa t.pn t.pcap) := zo.cell 0
              have ao := zo.put 0 (.slice (some ⟨q6, 0, none⟩) (s.pn + 1) cap6)
              have ar := zr.other (q := ⟨u1.heap.size, 0, none⟩) (by simp; omega) (.slice (some ⟨q6, 0, none⟩) (s.pn + 1) cap6)
              have aq := o6.setCell (q := ⟨u1.heap.size, 0, none⟩) (by simp; have := o6.1; omega) (.slice (some ⟨q6, 0, none⟩) (s.pn + 1) cap6)
              have as_ : OwnZ sdC 3 (w6.setCell ⟨u1.heap.size, 0, none⟩ (.slice (some ⟨q6, 0, none⟩) (s.pn + 1) cap6)) W.heap.size t.sb t.sa t.sn t.ss := oz.s.same (fun h => Below.heap_setCell _ _ _ _ (by simp; have := htl2 h; omega)) (by simp [World.setCell])
              have hB7 := (below_app hBX hb6 hBX.size).setCell (p := ⟨u1.heap.size, 0, none⟩) (by simp; omega) (.slice (some ⟨q6, 0, none⟩) (s.pn + 1) cap6)
              refine wpAnyH_ready (rs := [15]) (by kernel_rfl) (by simp) ?_
              refine AllReadyH.cons rfl (fun K hK => ?_) AllReadyH.nil
              go_simp
              refine hK.out _ _ (SKs _ _ hHeld) (fun hHeld => ?_)
              clear hK
              refine wpAnyH_done (by kernel_rfl) ?_ _
              generalize hV : w6.setCell ⟨u1.heap.size, 0, none⟩ (.slice (some ⟨q6, 0, none⟩) (s.pn + 1) cap6) = V at ao ar aq as_ hB7 ⊢
              have m0 : V.cell? ⟨u1.heap.size, 0, none⟩ = some (.slice (some ⟨q6, 0, none⟩) (s.pn + 1) cap6) := ao.cell 0
              have m1 : V.cell? ⟨u1.heap.size, 1, none⟩ = some (.slice t.sa t.sn t.scap) := ao.cell 1
              have m2 : V.cell? ⟨u1.heap.size, 2, none⟩ = some (.int .i64 t.ac) := ao.cell 2
              have m3 : V.cell? ⟨u1.heap.size, 3, none⟩ = some (.int .i64 t.cl) := ao.cell 3
              clear hHeld SK SKs hV hown4 hgr4 hnil4 hown5 hgr5 hnil5 hown6 hgr6 hnil6 hrow hcur6
              go_wp2_with (refine wpList_store_row rfl 56 (.tmp 4) (.tmp 54) rfl (w.heap.size + 1 + 1) _ (by rfl) (by rfl) _ _ ar (by kernel_rfl) (by rfl) (by simp [Value.oneCell']) ?_)
              (try simp only [Exit.inBlock, Exit.then]); refine bodyPost_ret (results_cell_row rfl _ _ (w.heap.size + 1 + 1) _ _ _ _ rfl (setRow_heap _ _ _ _ _ _ ar) Try.underlying56 rfl (by kernel_rfl)) rfl ?_
              have hq6 := o6.1
              refine ⟨⟨some ⟨q6, 0, none⟩, s.pn + 1, cap6, q6, ins k p s.ps, t.sa, t.sn, t.scap, t.sb, t.ss, t.ac, t.cl⟩, rfl, below_setRow hB7 (by omega) _, ⟨.inr ((aq.setRow (by omega) _).downTo (by omega)), (as_.same (fun h => heap_setRow_ne' _ _ _ _ (by have := (as_.lt h).1; omega)) (by rw [size_setRow']; exact Nat.le_refl _)).down (by omega), fun _ h => (by have := htl2 h; show q6 ≠ t.sb; omega), hc6, hm6, o.sc, o.sm⟩, ⟨by show s.pn + 1 = spN s p; rw [HN.out.1], by show ins k p s.ps = spF s p; rw [HN.out.2, HK.out], al.sn, al.ss, al.ac, al.cl⟩, ⟨rfl, fl.2⟩⟩
            · go_simp
              refine hK.out _ _ (SK _ hAP) (fun hHeld => ?_)
              clear hK
              try simp only [Act.put, List.setIfInBounds_toArray, List.set_cons_zero, List.set_cons_succ]
              refine wpAnyH_ready (rs := [5]) (by kernel_rfl) (by simp) ?_
              refine AllReadyH.cons rfl (fun K hK => ?_) AllReadyH.nil
              refine step_appendE rfl (.tmp 39) (.tmp 43) 53 rfl X.heap.size 31 i0 _ 13 96 Try.underlying53 hi hz0 hz1 hz2 rfl (by decide) (.slice (some ⟨X.heap.size, 0, none⟩) 0 0) 0 [] rfl (oA.alloc _) ⟨s.pb, 0, none⟩ k s.pcap (valsE pcC k s.ps) rfl (by rw [valsE_len pcC_len]) ((((r1X.first hkl).grew pcC_ne hAP)).newsE pcC_len) (pcC_one _ _) (by unfold maxLen; omega) (by omega) hAP.size ?_
              intro v4 w4 hown4 hgr4 hnil4
              have hv4 : v4 ≠ .slice none 0 0 := fun e => by first | exact hnil4 e | (have h9 := (hnil4.1 e).1; simp at h9)
              have hb4 : Below X.heap.size X w4 := hAP.grown hgr4 hAP.size (fun k' hk' => by simp [Value.ownBlock] at hk'; omega)
              (try simp only [Nat.zero_add, List.nil_append] at hown4)
              refine hK.out _ _ (SK _ hb4) (fun hHeld => ?_)
              clear hK
              try simp only [Act.put, List.setIfInBounds_toArray, List.set_cons_zero, List.set_cons_succ]
              refine wpAnyH_ready (rs := [8]) (by kernel_rfl) (by simp) ?_
              refine AllReadyH.cons rfl (fun K hK => ?_) AllReadyH.nil
              refine step_appendE rfl (.tmp 44) (.tmp 46) 53 rfl X.heap.size 31 i0 _ 13 96 Try.underlying53 hi hz0 hz1 hz2 rfl (by decide) v4 k _ rfl hown4 ⟨X.heap.size + 1, 0, none⟩ 1 1 (pcC p) rfl rfl (news_at (hgr4.block (X.heap.size + 1) (by simp) (by simp [Value.ownBlock])) (show BoxP _ (X.heap.size + 1) 31 p from heap_alloc2_new _ _ _)) (by intro u hu; simp only [pcC, List.mem_cons, List.mem_nil_iff, or_false] at hu; rcases hu with rfl | rfl | rfl | rfl | rfl | rfl | rfl | rfl | rfl | rfl | rfl | rfl | rfl <;> rfl) (by unfold maxLen; omega) (by omega) hb4.size ?_
              intro v5 w5 hown5 hgr5 hnil5
              have hv5 : v5 ≠ .slice none 0 0 := fun e => by first | exact hnil5 e | exact hv4 (hnil5.1 e).1
              have hb5 : Below X.heap.size X w5 := hb4.grown hgr5 hb4.size (fun k' hk' => (hown4.lt k' hk').1)
              refine hK.out _ _ (SK _ hb5) (fun hHeld => ?_)
              clear hK
              try simp only [Act.put, List.setIfInBounds_toArray, List.set_cons_zero, List.set_cons_succ]
              refine wpAnyH_ready (rs := [13]) (by kernel_rfl) (by simp) ?_
              refine AllReadyH.cons rfl (fun K hK => ?_) AllReadyH.nil
              refine step_appendE rfl (.tmp 47) (.tmp 51) 53 rfl X.heap.size 31 i0 _ 13 96 Try.underlying53 hi hz0 hz1 hz2 rfl (by decide) v5 (k + 1) _ rfl hown5 ⟨s.pb, k * 13, none⟩ (s.pn - k) (s.pcap - k) (valsE pcC (s.pn - k) (fun j => s.ps (k + j))) rfl (by rw [valsE_len pcC_len]) (((r1X.from' (by omega)).grew pcC_ne hb5).newsE pcC_len) (pcC_one _ _) (by unfold maxLen; omega) (by omega) hb5.size ?_
              intro v6 w6 hown6 hgr6 hnil6
              have hv6 : v6 ≠ .slice none 0 0 := fun e => by first | exact hnil6 e | exact hv5 (hnil6.1 e).1
              have hb6 : Below X.heap.size X w6 := hb5.grown hgr6 hb5.size (fun k' hk' => (hown5.lt k' hk').1)
              refine hK.out _ _ (SK _ hb6) (fun hHeld => ?_)
              clear hK
              try simp only [Act.put, List.setIfInBounds_toArray, List.set_cons_zero, List.set_cons_succ]
              have hrow : w6.ownsRow X.heap.size 31 13 v6 (s.pn + 1) (valsE pcC (s.pn + 1) (ins k p s.ps)) := by
                rw [ins_vals hkl]
                have e8 : k + 1 + (s.pn - k) = s.pn + 1 := by omega
                rw [← e8]
                first | exact hown6 | (simpa [Nat.sub_self, valsE] using hown6)
              obtain ⟨q6, cap6, rfl, hc6, o6⟩ := own_ofE pcC_len hrow hv6
              obtain ⟨cur6, hcur6, hm6⟩ := row_type hrow
              refine wpAnyH_take (i := 14) (v := .pointer (some ⟨u1.heap.size, 0, none⟩)) rfl (by kernel_rfl) (by kernel_rfl) (by kernel_rfl) (fun _ _ _ h => h) (Or.inl ⟨by rfl, fun u hSu => by (try dsimp only at hSu); go_simp⟩) hHeld ?_
              try simp only [Act.put, List.setIfInBounds_toArray, List.set_cons_zero, List.set_cons_succ]
              have zo := xoX.grew hb6
              have zr := x3X.grew hb6
              have oz := oX.grew hb6
              have f0 := zo.froz 0
              have g0 : w6.cell? ⟨u1.heap.size, 0, none⟩ = some (.slice t.pa t.pn t.pcap) := zo.cell 0
              have ao := zo.put 0 (.slice (some ⟨q6, 0, none⟩) (s.pn + 1) cap6)
              have ar := zr.other (q := ⟨u1.heap.size, 0, none⟩) (by simp; omega) (.slice (some ⟨q6, 0, none⟩) (s.pn + 1) cap6)
              have aq := o6.setCell (q := ⟨u1.heap.size, 0, none⟩) (by simp; have := o6.1; omega) (.slice (some ⟨q6, 0, none⟩) (s.pn + 1) cap6)
              have as_ : OwnZ sdC 3 (w6.setCell ⟨u1.heap.size, 0, none⟩ (.slice (some ⟨q6, 0, none⟩) (s.pn + 1) cap6)) W.heap.size t.sb t.sa t.sn t.ss := oz.s.same (fun h => Below.heap_setCell _ _ _ _ (by simp; have := htl2 h; omega)) (by simp [World.setCell])
              have hB7 := (below_app hBX hb6 hBX.size).setCell (p := ⟨u1.heap.size, 0, none⟩) (by simp; omega) (.slice (some ⟨q6, 0, none⟩) (s.pn + 1) cap6)
              refine wpAnyH_ready (rs := [15]) (by kernel_rfl) (by simp) ?_
              refine AllReadyH.cons rfl (fun K hK => ?_) AllReadyH.nil
              go_simp
              refine hK.out _ _ (SKs _ _ hHeld) (fun hHeld => ?_)
              clear hK
              refine wpAnyH_done (by kernel_rfl) ?_ _
              generalize hV : w6.setCell ⟨u1.heap.size, 0, none⟩ (.slice (some ⟨q6, 0, none⟩) (s.pn + 1) cap6) = V at ao ar aq as_ hB7 ⊢
              have m0 : V.cell? ⟨u1.heap.size, 0, none⟩ = some (.slice (some ⟨q6, 0, none⟩) (s.pn + 1) cap6) := ao.cell 0
              have m1 : V.cell? ⟨u1.heap.size, 1, none⟩ = some (.slice t.sa t.sn t.scap) := ao.cell 1
              have m2 : V.cell? ⟨u1.heap.size, 2, none⟩ = some (.int .i64 t.ac) := ao.cell 2
              have m3 : V.cell? ⟨u1.heap.size, 3, none⟩ = some (.int .i64 t.cl) := ao.cell 3
              clear hHeld SK SKs hV hown4 hgr4 hnil4 hown5 hgr5 hnil5 hown6 hgr6 hnil6 hrow hcur6
              go_wp2_with (refine wpList_store_row rfl 56 (.tmp 4) (.tmp 54) rfl (w.heap.size + 1 + 1) _ (by rfl) (by rfl) _ _ ar (by kernel_rfl) (by rfl) (by simp [Value.oneCell']) ?_)
              (try simp only [Exit.inBlock, Exit.then]); refine bodyPost_ret (results_cell_row rfl _ _ (w.heap.size + 1 + 1) _ _ _ _ rfl (setRow_heap _ _ _ _ _ _ ar) Try.underlying56 rfl (by kernel_rfl)) rfl ?_
              have hq6 := o6.1
              refine ⟨⟨some ⟨q6, 0, none⟩, s.pn + 1, cap6, q6, ins k p s.ps, t.sa, t.sn, t.scap, t.sb, t.ss, t.ac, t.cl⟩, rfl, below_setRow hB7 (by omega) _, ⟨.inr ((aq.setRow (by omega) _).downTo (by omega)), (as_.same (fun h => heap_setRow_ne' _ _ _ _ (by have := (as_.lt h).1; omega)) (by rw [size_setRow']; exact Nat.le_refl _)).down (by omega), fun _ h => (by have := htl2 h; show q6 ≠ t.sb; omega), hc6, hm6, o.sc, o.sm⟩, ⟨by show s.pn + 1 = spN s p; rw [HN.out.1], by show ins k p s.ps = spF s p; rw [HN.out.2, HK.out], al.sn, al.ss, al.ac, al.cl⟩, ⟨rfl, fl.2⟩⟩
          · go_simp
            refine hK.out _ _ (SK _ hP) (fun hHeld => ?_)
            clear hK
            try simp only [Act.put, List.setIfInBounds_toArray, List.set_cons_zero, List.set_cons_succ]
            refine wpAnyH_ready (rs := [0]) (by kernel_rfl) (by simp) ?_
            refine AllReadyH.cons rfl (fun K hK => ?_) AllReadyH.nil
            go_simp
            refine hK.out _ _ (SK _ hPA) (fun hHeld => ?_)
            clear hK
            try simp only [Act.put, List.setIfInBounds_toArray, List.set_cons_zero, List.set_cons_succ]
            refine wpAnyH_ready (rs := [5]) (by kernel_rfl) (by simp) ?_
            refine AllReadyH.cons rfl (fun K hK => ?_) AllReadyH.nil
            refine step_appendE rfl (.tmp 39) (.tmp 43) 53 rfl X.heap.size 31 i0 _ 13 96 Try.underlying53 hi hz0 hz1 hz2 rfl (by decide) (.slice (some ⟨X.heap.size + 1, 0, none⟩) 0 0) 0 [] rfl oPA ⟨s.pb, 0, none⟩ k s.pcap (valsE pcC k s.ps) rfl (by rw [valsE_len pcC_len]) ((((r1X.first hkl).grew pcC_ne hPA)).newsE pcC_len) (pcC_one _ _) (by unfold maxLen; omega) (by omega) hPA.size ?_
            intro v4 w4 hown4 hgr4 hnil4
            have hv4 : v4 ≠ .slice none 0 0 := fun e => by first | exact hnil4 e | (have h9 := (hnil4.1 e).1; simp at h9)
            have hb4 : Below X.heap.size X w4 := hPA.grown hgr4 hPA.size (fun k' hk' => by simp [Value.ownBlock] at hk'; omega)
            (try simp only [Nat.zero_add, List.nil_append] at hown4)
            refine hK.out _ _ (SK _ hb4) (fun hHeld => ?_)
            clear hK
            try simp only [Act.put, List.setIfInBounds_toArray, List.set_cons_zero, List.set_cons_succ]
            refine wpAnyH_ready (rs := [8]) (by kernel_rfl) (by simp) ?_
            refine AllReadyH.cons rfl (fun K hK => ?_) AllReadyH.nil
            refine step_appendE rfl (.tmp 44) (.tmp 46) 53 rfl X.heap.size 31 i0 _ 13 96 Try.underlying53 hi hz0 hz1 hz2 rfl (by decide) v4 k _ rfl hown4 ⟨X.heap.size, 0, none⟩ 1 1 (pcC p) rfl rfl (news_at (hgr4.block X.heap.size (by simp; omega) (by simp [Value.ownBlock])) ((show BoxP (X.drew.alloc (.cells #[.int .i64 p.id, .int .i64 p.ow, .int .i64 p.si, .int .i64 p.zo, .int .i64 p.st, .int .i64 p.po, .int .i64 p.to, .int .i64 p.tr, .int .i64 p.pl, .int .i64 p.mi, .int .i64 p.ma, .bool p.de, .bool p.be] 31)) X.heap.size 31 p from box_new X.drew 31 p).alloc _)) (by intro u hu; simp only [pcC, List.mem_cons, List.mem_nil_iff, or_false] at hu; rcases hu with rfl | rfl | rfl | rfl | rfl | rfl | rfl | rfl | rfl | rfl | rfl | rfl | rfl <;> rfl) (by unfold maxLen; omega) (by omega) hb4.size ?_
            intro v5 w5 hown5 hgr5 hnil5
            have hv5 : v5 ≠ .slice none 0 0 := fun e => by first | exact hnil5 e | exact hv4 (hnil5.1 e).1
            have hb5 : Below X.heap.size X w5 := hb4.grown hgr5 hb4.size (fun k' hk' => (hown4.lt k' hk').1)
            refine hK.out _ _ (SK _ hb5) (fun hHeld => ?_)
            clear hK
            try simp only [Act.put, List.setIfInBounds_toArray, List.set_cons_zero, List.set_cons_succ]
            refine wpAnyH_ready (rs := [13]) (by kernel_rfl) (by simp) ?_
            refine AllReadyH.cons rfl (fun K hK => ?_) AllReadyH.nil
            refine step_appendE rfl (.tmp 47) (.tmp 51) 53 rfl X.heap.size 31 i0 _ 13 96 Try.underlying53 hi hz0 hz1 hz2 rfl (by decide) v5 (k + 1) _ rfl hown5 ⟨s.pb, k * 13, none⟩ (s.pn - k) (s.pcap - k) (valsE pcC (s.pn - k) (fun j => s.ps (k + j))) rfl (by rw [valsE_len pcC_len]) (((r1X.from' (by omega)).grew pcC_ne hb5).newsE pcC_len) (pcC_one _ _) (by unfold maxLen; omega) (by omega) hb5.size ?_
            intro v6 w6 hown6 hgr6 hnil6
            have hv6 : v6 ≠ .slice none 0 0 := fun e => by first | exact hnil6 e | exact hv5 (hnil6.1 e).1
            have hb6 : Below X.heap.size X w6 := hb5.grown hgr6 hb5.size (fun k' hk' => (hown5.lt k' hk').1)
            refine hK.out _ _ (SK _ hb6) (fun hHeld => ?_)
            clear hK
            try simp only [Act.put, List.setIfInBounds_toArray, List.set_cons_zero, List.set_cons_succ]
            have hrow : w6.ownsRow X.heap.size 31 13 v6 (s.pn + 1) (valsE pcC (s.pn + 1) (ins k p s.ps)) := by
              rw [ins_vals hkl]
              have e8 : k + 1 + (s.pn - k) = s.pn + 1 := by omega
              rw [← e8]
              first | exact hown6 | (simpa [Nat.sub_self, valsE] using hown6)
            obtain ⟨q6, cap6, rfl, hc6, o6⟩ := own_ofE pcC_len hrow hv6
            obtain ⟨cur6, hcur6, hm6⟩ := row_type hrow
            refine wpAnyH_take (i := 14) (v := .pointer (some ⟨u1.heap.size, 0, none⟩)) rfl (by kernel_rfl) (by kernel_rfl) (by kernel_rfl) (fun _ _ _ h => h) (Or.inl ⟨by rfl, fun u hSu => by (try dsimp only at hSu); go_simp⟩) hHeld ?_
            try simp only [Act.put, List.setIfInBounds_toArray, List.set_cons_zero, List.set_cons_succ]
            have zo := xoX.grew hb6
            have zr := x3X.grew hb6
            have oz := oX.grew hb6
            have f0 := zo.froz 0
            have g0 : w6.cell? ⟨u1.heap.size, 0, none⟩ = some (.slice t.pa t.pn t.pcap) := zo.cell 0
            have ao := zo.put 0 (.slice (some ⟨q6, 0, none⟩) (s.pn + 1) cap6)
            have ar := zr.other (q := ⟨u1.heap.size, 0, none⟩) (by simp; omega) (.slice (some ⟨q6, 0, none⟩) (s.pn + 1) cap6)
            have aq := o6.setCell (q := ⟨u1.heap.size, 0, none⟩) (by simp; have := o6.1; omega) (.slice (some ⟨q6, 0, none⟩) (s.pn + 1) cap6)
            have as_ : OwnZ sdC 3 (w6.setCell ⟨u1.heap.size, 0, none⟩ (.slice (some ⟨q6, 0, none⟩) (s.pn + 1) cap6)) W.heap.size t.sb t.sa t.sn t.ss := oz.s.same (fun h => Below.heap_setCell _ _ _ _ (by simp; have := htl2 h; omega)) (by simp [World.setCell])
            have hB7 := (below_app hBX hb6 hBX.size).setCell (p := ⟨u1.heap.size, 0, none⟩) (by simp; omega) (.slice (some ⟨q6, 0, none⟩) (s.pn + 1) cap6)
            refine wpAnyH_ready (rs := [15]) (by kernel_rfl) (by simp) ?_
            refine AllReadyH.cons rfl (fun K hK => ?_) AllReadyH.nil
            go_simp
            refine hK.out _ _ (SKs _ _ hHeld) (fun hHeld => ?_)
            clear hK
            refine wpAnyH_done (by kernel_rfl) ?_ _
            generalize hV : w6.setCell ⟨u1.heap.size, 0, none⟩ (.slice (some ⟨q6, 0, none⟩) (s.pn + 1) cap6) = V at ao ar aq as_ hB7 ⊢
            have m0 : V.cell? ⟨u1.heap.size, 0, none⟩ = some (.slice (some ⟨q6, 0, none⟩) (s.pn + 1) cap6) := ao.cell 0
            have m1 : V.cell? ⟨u1.heap.size, 1, none⟩ = some (.slice t.sa t.sn t.scap) := ao.cell 1
            have m2 : V.cell? ⟨u1.heap.size, 2, none⟩ = some (.int .i64 t.ac) := ao.cell 2
            have m3 : V.cell? ⟨u1.heap.size, 3, none⟩ = some (.int .i64 t.cl) := ao.cell 3
            clear hHeld SK SKs hV hown4 hgr4 hnil4 hown5 hgr5 hnil5 hown6 hgr6 hnil6 hrow hcur6
            go_wp2_with (refine wpList_store_row rfl 56 (.tmp 4) (.tmp 54) rfl (w.heap.size + 1 + 1) _ (by rfl) (by rfl) _ _ ar (by kernel_rfl) (by rfl) (by simp [Value.oneCell']) ?_)
            (try simp only [Exit.inBlock, Exit.then]); refine bodyPost_ret (results_cell_row rfl _ _ (w.heap.size + 1 + 1) _ _ _ _ rfl (setRow_heap _ _ _ _ _ _ ar) Try.underlying56 rfl (by kernel_rfl)) rfl ?_
            have hq6 := o6.1
            refine ⟨⟨some ⟨q6, 0, none⟩, s.pn + 1, cap6, q6, ins k p s.ps, t.sa, t.sn, t.scap, t.sb, t.ss, t.ac, t.cl⟩, rfl, below_setRow hB7 (by omega) _, ⟨.inr ((aq.setRow (by omega) _).downTo (by omega)), (as_.same (fun h => heap_setRow_ne' _ _ _ _ (by have := (as_.lt h).1; omega)) (by rw [size_setRow']; exact Nat.le_refl _)).down (by omega), fun _ h => (by have := htl2 h; show q6 ≠ t.sb; omega), hc6, hm6, o.sc, o.sm⟩, ⟨by show s.pn + 1 = spN s p; rw [HN.out.1], by show ins k p s.ps = spF s p; rw [HN.out.2, HK.out], al.sn, al.ss, al.ac, al.cl⟩, ⟨rfl, fl.2⟩⟩
      · obtain rfl : k = s.pn := by omega
        have HK : Hid (pnN s.pn s.ps p.id = s.pn) := pnN_all hall.out
        clear hall
        go_wp2
        go_quiet (fail)
        go_wp2
        have hbX := below_drewN hb nq
        have hBX := below_app hB hbX hB.size
        have r1X : RdE pcC 13 (wr.drewN nq) s.pb (some ⟨s.pb, 0, none⟩) s.pn s.ps := by have := r1.grew pcC_ne hBX; rw [hf.1] at this; exact this
        have x1X := x1.grew hbX
        have x2X := x2.grew hbX
        have x3X := x3.grew hbX
        have xoX := xo.grew hbX
        have oX := o.grew hbX
        have hXl : w.heap.size + 1 + 1 < u1.heap.size := hlu
        have hXo := xoX.lt
        generalize hX : wr.drewN nq = X at hbX hBX r1X x1X x2X x3X xoX oX hXo ⊢
        clear k0 k1 k2 k3 k4 k5 k6 k7 k8 k9 k10 k11 k12 c0
        have c0 : X.cell? ⟨w.heap.size, 0, none⟩ = some (.slice (some ⟨s.pb, 0, none⟩) s.pn s.pcap) := by have := x1X.cell 0; rw [hf.1] at this; exact this
        obtain ⟨k0, k1, k2, k3, k4, k5, k6, k7, k8, k9, k10, k11, k12⟩ : Cells13 _ _ _ := x2X.cells
        have SK : ∀ u : World, Below X.heap.size X u → u.cell? ⟨w.heap.size, 0, none⟩ = some (.slice (some ⟨s.pb, 0, none⟩) s.pn s.pcap) ∧ u.cell? ⟨w.heap.size + 1, 0, none⟩ = some (.int .i64 p.id) ∧ u.cell? ⟨w.heap.size + 1, 1, none⟩ = some (.int .i64 p.ow) ∧ u.cell? ⟨w.heap.size + 1, 2, none⟩ = some (.int .i64 p.si) ∧ u.cell? ⟨w.heap.size + 1, 3, none⟩ = some (.int .i64 p.zo) ∧ u.cell? ⟨w.heap.size + 1, 4, none⟩ = some (.int .i64 p.st) ∧ u.cell? ⟨w.heap.size + 1, 5, none⟩ = some (.int .i64 p.po) ∧ u.cell? ⟨w.heap.size + 1, 6, none⟩ = some (.int .i64 p.to) ∧ u.cell? ⟨w.heap.size + 1, 7, none⟩ = some (.int .i64 p.tr) ∧ u.cell? ⟨w.heap.size + 1, 8, none⟩ = some (.int .i64 p.pl) ∧ u.cell? ⟨w.heap.size + 1, 9, none⟩ = some (.int .i64 p.mi) ∧ u.cell? ⟨w.heap.size + 1, 10, none⟩ = some (.int .i64 p.ma) ∧ u.cell? ⟨w.heap.size + 1, 11, none⟩ = some (.bool p.de) ∧ u.cell? ⟨w.heap.size + 1, 12, none⟩ = some (.bool p.be) := fun u hu => ⟨(hu.cell (World.block_lt_of_cell? _ _ c0)).trans c0, (hu.cell (World.block_lt_of_cell? _ _ k0)).trans k0, (hu.cell (World.block_lt_of_cell? _ _ k1)).trans k1, (hu.cell (World.block_lt_of_cell? _ _ k2)).trans k2, (hu.cell (World.block_lt_of_cell? _ _ k3)).trans k3, (hu.cell (World.block_lt_of_cell? _ _ k4)).trans k4, (hu.cell (World.block_lt_of_cell? _ _ k5)).trans k5, (hu.cell (World.block_lt_of_cell? _ _ k6)).trans k6, (hu.cell (World.block_lt_of_cell? _ _ k7)).trans k7, (hu.cell (World.block_lt_of_cell? _ _ k8)).trans k8, (hu.cell (World.block_lt_of_cell? _ _ k9)).trans k9, (hu.cell (World.block_lt_of_cell? _ _ k10)).trans k10, (hu.cell (World.block_lt_of_cell? _ _ k11)).trans k11, (hu.cell (World.block_lt_of_cell? _ _ k12)).trans k12⟩
        have SKs : ∀ (u : World) (v : Value), (u.cell? ⟨w.heap.size, 0, none⟩ = some (.slice (some ⟨s.pb, 0, none⟩) s.pn s.pcap) ∧ u.cell? ⟨w.heap.size + 1, 0, none⟩ = some (.int .i64 p.id) ∧ u.cell? ⟨w.heap.size + 1, 1, none⟩ = some (.int .i64 p.ow) ∧ u.cell? ⟨w.heap.size + 1, 2, none⟩ = some (.int .i64 p.si) ∧ u.cell? ⟨w.heap.size + 1, 3, none⟩ = some (.int .i64 p.zo) ∧ u.cell? ⟨w.heap.size + 1, 4, none⟩ = some (.int .i64 p.st) ∧ u.cell? ⟨w.heap.size + 1, 5, none⟩ = some (.int .i64 p.po) ∧ u.cell? ⟨w.heap.size + 1, 6, none⟩ = some (.int .i64 p.to) ∧ u.cell? ⟨w.heap.size + 1, 7, none⟩ = some (.int .i64 p.tr) ∧ u.cell? ⟨w.heap.size + 1, 8, none⟩ = some (.int .i64 p.pl) ∧ u.cell? ⟨w.heap.size + 1, 9, none⟩ = some (.int .i64 p.mi) ∧ u.cell? ⟨w.heap.size + 1, 10, none⟩ = some (.int .i64 p.ma) ∧ u.cell? ⟨w.heap.size + 1, 11, none⟩ = some (.bool p.de) ∧ u.cell? ⟨w.heap.size + 1, 12, none⟩ = some (.bool p.be)) → (u.setCell ⟨u1.heap.size, 0, none⟩ v).cell? ⟨w.heap.size, 0, none⟩ = some (.slice (some ⟨s.pb, 0, none⟩) s.pn s.pcap) ∧ (u.setCell ⟨u1.heap.size, 0, none⟩ v).cell? ⟨w.heap.size + 1, 0, none⟩ = some (.int .i64 p.id) ∧ (u.setCell ⟨u1.heap.size, 0, none⟩ v).cell? ⟨w.heap.size + 1, 1, none⟩ = some (.int .i64 p.ow) ∧ (u.setCell ⟨u1.heap.size, 0, none⟩ v).cell? ⟨w.heap.size + 1, 2, none⟩ = some (.int .i64 p.si) ∧ (u.setCell ⟨u1.heap.size, 0, none⟩ v).cell? ⟨w.heap.size + 1, 3, none⟩ = some (.int .i64 p.zo) ∧ (u.setCell ⟨u1.heap.size, 0, none⟩ v).cell? ⟨w.heap.size + 1, 4, none⟩ = some (.int .i64 p.st) ∧ (u.setCell ⟨u1.heap.size, 0, none⟩ v).cell? ⟨w.heap.size + 1, 5, none⟩ = some (.int .i64 p.po) ∧ (u.setCell ⟨u1.heap.size, 0, none⟩ v).cell? ⟨w.heap.size + 1, 6, none⟩ = some (.int .i64 p.to) ∧ (u.setCell ⟨u1.heap.size, 0, none⟩ v).cell? ⟨w.heap.size + 1, 7, none⟩ = some (.int .i64 p.tr) ∧ (u.setCell ⟨u1.heap.size, 0, none⟩ v).cell? ⟨w.heap.size + 1, 8, none⟩ = some (.int .i64 p.pl) ∧ (u.setCell ⟨u1.heap.size, 0, none⟩ v).cell? ⟨w.heap.size + 1, 9, none⟩ = some (.int .i64 p.mi) ∧ (u.setCell ⟨u1.heap.size, 0, none⟩ v).cell? ⟨w.heap.size + 1, 10, none⟩ = some (.int .i64 p.ma) ∧ (u.setCell ⟨u1.heap.size, 0, none⟩ v).cell? ⟨w.heap.size + 1, 11, none⟩ = some (.bool p.de) ∧ (u.setCell ⟨u1.heap.size, 0, none⟩ v).cell? ⟨w.heap.size + 1, 12, none⟩ = some (.bool p.be) := fun u v hS => by
          obtain ⟨q0, q1, q2, q3, q4, q5, q6, q7, q8, q9, q10, q11, q12, q13⟩ := hS
          exact ⟨(World.cell?_setCell_other _ _ _ _ (by intro e; simp at e; try omega)).trans q0, (World.cell?_setCell_other _ _ _ _ (by intro e; simp at e; try omega)).trans q1, (World.cell?_setCell_other _ _ _ _ (by intro e; simp at e; try omega)).trans q2, (World.cell?_setCell_other _ _ _ _ (by intro e; simp at e; try omega)).trans q3, (World.cell?_setCell_other _ _ _ _ (by intro e; simp at e; try omega)).trans q4, (World.cell?_setCell_other _ _ _ _ (by intro e; simp at e; try omega)).trans q5, (World.cell?_setCell_other _ _ _ _ (by intro e; simp at e; try omega)).trans q6, (World.cell?_setCell_other _ _ _ _ (by intro e; simp at e; try omega)).trans q7, (World.cell?_setCell_other _ _ _ _ (by intro e; simp at e; try omega)).trans q8, (World.cell?_setCell_other _ _ _ _ (by intro e; simp at e; try omega)).trans q9, (World.cell?_setCell_other _ _ _ _ (by intro e; simp at e; try omega)).trans q10, (World.cell?_setCell_other _ _ _ _ (by intro e; simp at e; try omega)).trans q11, (World.cell?_setCell_other _ _ _ _ (by intro e; simp at e; try omega)).trans q12, (World.cell?_setCell_other _ _ _ _ (by intro e; simp at e; try omega)).trans q13⟩
        clear k0 k1 k2 k3 k4 k5 k6 k7 k8 k9 k10 k11 k12 c0 hX
        have g1 : (s.pn : Int) ≤ (s.pcap : Int) := by omega
        have g2 : (s.pn : Int) ≤ (s.pn : Int) := by omega
        have g3 : (0 : Int) ≤ (s.pn : Int) := by omega
        by_cases hkc : s.pcap = s.pn
        · have g4 : (s.pcap = s.pn) = True := eq_true hkc
          have HKC : Hid (s.pcap = s.pn) := hkc
          clear hkc
          refine wp_region_held_drew (S := fun u : World => u.cell? ⟨w.heap.size, 0, none⟩ = some (.slice (some ⟨s.pb, 0, none⟩) s.pn s.pcap) ∧ u.cell? ⟨w.heap.size + 1, 0, none⟩ = some (.int .i64 p.id) ∧ u.cell? ⟨w.heap.size + 1, 1, none⟩ = some (.int .i64 p.ow) ∧ u.cell? ⟨w.heap.size + 1, 2, none⟩ = some (.int .i64 p.si) ∧ u.cell? ⟨w.heap.size + 1, 3, none⟩ = some (.int .i64 p.zo) ∧ u.cell? ⟨w.heap.size + 1, 4, none⟩ = some (.int .i64 p.st) ∧ u.cell? ⟨w.heap.size + 1, 5, none⟩ = some (.int .i64 p.po) ∧ u.cell? ⟨w.heap.size + 1, 6, none⟩ = some (.int .i64 p.to) ∧ u.cell? ⟨w.heap.size + 1, 7, none⟩ = some (.int .i64 p.tr) ∧ u.cell? ⟨w.heap.size + 1, 8, none⟩ = some (.int .i64 p.pl) ∧ u.cell? ⟨w.heap.size + 1, 9, none⟩ = some (.int .i64 p.mi) ∧ u.cell? ⟨w.heap.size + 1, 10, none⟩ = some (.int .i64 p.ma) ∧ u.cell? ⟨w.heap.size + 1, 11, none⟩ = some (.bool p.de) ∧ u.cell? ⟨w.heap.size + 1, 12, none⟩ = some (.bool p.be)) (by kernel_rfl) (SK _ ((Below.refl _ X).drew)) (fun hHeld => ?_)
          refine wpAnyH_take (i := 1) (v := .pointer (some ⟨w.heap.size, 0, none⟩)) rfl (by kernel_rfl) (by kernel_rfl) (by kernel_rfl) (fun _ _ _ h => h) (Or.inl ⟨by rfl, fun u hSu => by (try dsimp only at hSu); go_simp⟩) hHeld ?_
          try simp only [Act.put, List.setIfInBounds_toArray, List.set_cons_zero, List.set_cons_succ]
          refine wpAnyH_take (i := 2) (v := .slice (some ⟨s.pb, 0, none⟩) s.pn s.pcap) rfl (by kernel_rfl) (by kernel_rfl) (by kernel_rfl) (fun _ _ _ h => h) (Or.inl ⟨by rfl, fun u hSu => by (try dsimp only at hSu); go_simp⟩) hHeld ?_
          try simp only [Act.put, List.setIfInBounds_toArray, List.set_cons_zero, List.set_cons_succ]
          refine wpAnyH_take (i := 3) (v := .int .i64 s.pn) rfl (by kernel_rfl) (by kernel_rfl) (by kernel_rfl) (fun _ _ _ h => h) (Or.inl ⟨by rfl, fun u hSu => by (try dsimp only at hSu); go_simp⟩) hHeld ?_
          try simp only [Act.put, List.setIfInBounds_toArray, List.set_cons_zero, List.set_cons_succ]
          refine wpAnyH_take (i := 4) (v := .slice (some ⟨s.pb, 0, none⟩) s.pn s.pcap) rfl (by kernel_rfl) (by kernel_rfl) (by kernel_rfl) (fun _ _ _ h => h) (Or.inl ⟨by rfl, fun u hSu => by (try dsimp only at hSu); go_simp⟩) hHeld ?_
          try simp only [Act.put, List.setIfInBounds_toArray, List.set_cons_zero, List.set_cons_succ]
          refine wpAnyH_take (i := 6) (v := (.agg #[.int .i64 p.id, .int .i64 p.ow, .int .i64 p.si, .int .i64 p.zo, .int .i64 p.st, .int .i64 p.po, .int .i64 p.to, .int .i64 p.tr, .int .i64 p.pl, .int .i64 p.mi, .int .i64 p.ma, .bool p.de, .bool p.be])) rfl (by kernel_rfl) (by kernel_rfl) (by kernel_rfl) (fun _ _ _ h => h) (Or.inl ⟨by rfl, fun u hSu => by (try dsimp only at hSu); go_simp⟩) hHeld ?_
          try simp only [Act.put, List.setIfInBounds_toArray, List.set_cons_zero, List.set_cons_succ]
          refine wpAnyH_take (i := 9) (v := .pointer (some ⟨w.heap.size, 0, none⟩)) rfl (by kernel_rfl) (by kernel_rfl) (by kernel_rfl) (fun _ _ _ h => h) (Or.inl ⟨by rfl, fun u hSu => by (try dsimp only at hSu); go_simp⟩) hHeld ?_
          try simp only [Act.put, List.setIfInBounds_toArray, List.set_cons_zero, List.set_cons_succ]
          refine wpAnyH_take (i := 10) (v := .slice (some ⟨s.pb, 0, none⟩) s.pn s.pcap) rfl (by kernel_rfl) (by kernel_rfl) (by kernel_rfl) (fun _ _ _ h => h) (Or.inl ⟨by rfl, fun u hSu => by (try dsimp only at hSu); go_simp⟩) hHeld ?_
          try simp only [Act.put, List.setIfInBounds_toArray, List.set_cons_zero, List.set_cons_succ]
          refine wpAnyH_take (i := 11) (v := .int .i64 s.pn) rfl (by kernel_rfl) (by kernel_rfl) (by kernel_rfl) (fun _ _ _ h => h) (Or.inl ⟨by rfl, fun u hSu => by (try dsimp only at hSu); go_simp⟩) hHeld ?_
          try simp only [Act.put, List.setIfInBounds_toArray, List.set_cons_zero, List.set_cons_succ]
          refine wpAnyH_take (i := 12) (v := .slice (some ⟨s.pb, 0, none⟩) (0) (s.pcap - s.pn)) rfl (by kernel_rfl) (by kernel_rfl) (by kernel_rfl) (fun _ _ _ h => h) (Or.inl ⟨by rfl, fun u hSu => by (try dsimp only at hSu); go_simp⟩) hHeld ?_
          try simp only [Act.put, List.setIfInBounds_toArray, List.set_cons_zero, List.set_cons_succ]
          have hD : Below X.heap.size X X.drew := (Below.refl _ X).drew
          have hA := hD.alloc (Nat.le_refl X.heap.size) (.cells #[] 31)
          have hP := hD.alloc (Nat.le_refl X.heap.size) (.cells #[.int .i64 p.id, .int .i64 p.ow, .int .i64 p.si, .int .i64 p.zo, .int .i64 p.st, .int .i64 p.po, .int .i64 p.to, .int .i64 p.tr, .int .i64 p.pl, .int .i64 p.mi, .int .i64 p.ma, .bool p.de, .bool p.be] 31)
          have hAP := hA.alloc hA.size (.cells #[.int .i64 p.id, .int .i64 p.ow, .int .i64 p.si, .int .i64 p.zo, .int .i64 p.st, .int .i64 p.po, .int .i64 p.to, .int .i64 p.tr, .int .i64 p.pl, .int .i64 p.mi, .int .i64 p.ma, .bool p.de, .bool p.be] 31)
          have hPA := hP.alloc hP.size (.cells #[] 31)
          have oA : (X.drew.alloc (.cells #[] 31)).ownsRow X.heap.size 31 13 (.slice (some ⟨X.heap.size, 0, none⟩) 0 0) 0 [] := World.ownsRow_lit X.drew #[] 0 (Nat.le_refl _) (by decide) rfl
          have oPA : ((X.drew.alloc (.cells #[.int .i64 p.id, .int .i64 p.ow, .int .i64 p.si, .int .i64 p.zo, .int .i64 p.st, .int .i64 p.po, .int .i64 p.to, .int .i64 p.tr, .int .i64 p.pl, .int .i64 p.mi, .int .i64 p.ma, .bool p.de, .bool p.be] 31)).alloc (.cells #[] 31)).ownsRow X.heap.size 31 13 (.slice (some ⟨X.heap.size + 1, 0, none⟩) 0 0) 0 [] := by have := World.ownsRow_lit (base := X.heap.size) (e := 31) (size := 13) (X.drew.alloc (.cells #[.int .i64 p.id, .int .i64 p.ow, .int .i64 p.si, .int .i64 p.zo, .int .i64 p.st, .int .i64 p.po, .int .i64 p.to, .int .i64 p.tr, .int .i64 p.pl, .int .i64 p.mi, .int .i64 p.ma, .bool p.de, .bool p.be] 31)) #[] 0 (by simp) (by decide) rfl; rwa [World.size_alloc] at this
          refine wpAnyH_ready (rs := [0, 7]) (by kernel_rfl) (by simp) ?_
          refine AllReadyH.cons rfl (fun K hK => ?_) (AllReadyH.cons rfl (fun K hK => ?_) AllReadyH.nil)
          · go_simp
            refine hK.out _ _ (SK _ hA) (fun hHeld => ?_)
            clear hK
            try simp only [Act.put, List.setIfInBounds_toArray, List.set_cons_zero, List.set_cons_succ]
            refine wpAnyH_ready (rs := [5, 7]) (by kernel_rfl) (by simp) ?_
            refine AllReadyH.cons rfl (fun K hK => ?_) (AllReadyH.cons rfl (fun K hK => ?_) AllReadyH.nil)
            · refine step_appendE rfl (.tmp 39) (.tmp 43) 53 rfl X.heap.size 31 i0 _ 13 96 Try.underlying53 hi hz0 hz1 hz2 rfl (by decide) (.slice (some ⟨X.heap.size, 0, none⟩) 0 0) 0 [] rfl oA ⟨s.pb, 0, none⟩ s.pn s.pcap (valsE pcC s.pn s.ps) rfl (by rw [valsE_len pcC_len]) ((((r1X.first hkl).grew pcC_ne hA)).newsE pcC_len) (pcC_one _ _) (by unfold maxLen; omega) (by omega) hA.size ?_
              intro v4 w4 hown4 hgr4 hnil4
              have hv4 : v4 ≠ .slice none 0 0 := fun e => by first | exact hnil4 e | (have h9 := (hnil4.1 e).1; simp at h9)
              have hb4 : Below X.heap.size X w4 := hA.grown hgr4 hA.size (fun k' hk' => by simp [Value.ownBlock] at hk'; omega)
              (try simp only [Nat.zero_add, List.nil_append] at hown4)
              refine hK.out _ _ (SK _ hb4) (fun hHeld => ?_)
              clear hK
              try simp only [Act.put, List.setIfInBounds_toArray, List.set_cons_zero, List.set_cons_succ]
              refine wpAnyH_ready (rs := [7]) (by kernel_rfl) (by simp) ?_
              refine AllReadyH.cons rfl (fun K hK => ?_) AllReadyH.nil
              go_simp
              refine hK.out _ _ (SK _ (hb4.alloc hb4.size (.cells #[.int .i64 p.id, .int .i64 p.ow, .int .i64 p.si, .int .i64 p.zo, .int .i64 p.st, .int .i64 p.po, .int .i64 p.to, .int .i64 p.tr, .int .i64 p.pl, .int .i64 p.mi, .int .i64 p.ma, .bool p.de, .bool p.be] 31))) (fun hHeld => ?_)
              clear hK
              try simp only [Act.put, List.setIfInBounds_toArray, List.set_cons_zero, List.set_cons_succ]
              refine wpAnyH_ready (rs := [8]) (by kernel_rfl) (by simp) ?_
              refine AllReadyH.cons rfl (fun K hK => ?_) AllReadyH.nil
              refine step_appendE rfl (.tmp 44) (.tmp 46) 53 rfl X.heap.size 31 i0 _ 13 96 Try.underlying53 hi hz0 hz1 hz2 rfl (by decide) v4 s.pn _ rfl (hown4.alloc _) ⟨w4.heap.size, 0, none⟩ 1 1 (pcC p) rfl rfl (cells_new w4 (pcC p) _) (by intro u hu; simp only [pcC, List.mem_cons, List.mem_nil_iff, or_false] at hu; rcases hu with rfl | rfl | rfl | rfl | rfl | rfl | rfl | rfl | rfl | rfl | rfl | rfl | rfl <;> rfl) (by unfold maxLen; omega) (by omega) (hb4.alloc hb4.size (.cells #[.int .i64 p.id, .int .i64 p.ow, .int .i64 p.si, .int .i64 p.zo, .int .i64 p.st, .int .i64 p.po, .int .i64 p.to, .int .i64 p.tr, .int .i64 p.pl, .int .i64 p.mi, .int .i64 p.ma, .bool p.de, .bool p.be] 31)).size ?_
              intro v5 w5 hown5 hgr5 hnil5
              have hv5 : v5 ≠ .slice none 0 0 := fun e => by first | exact hnil5 e | exact hv4 (hnil5.1 e).1
              have hb5 : Below X.heap.size X w5 := (hb4.alloc hb4.size (.cells #[.int .i64 p.id, .int .i64 p.ow, .int .i64 p.si, .int .i64 p.zo, .int .i64 p.st, .int .i64 p.po, .int .i64 p.to, .int .i64 p.tr, .int .i64 p.pl, .int .i64 p.mi, .int .i64 p.ma, .bool p.de, .bool p.be] 31)).grown hgr5 (hb4.alloc hb4.size (.cells #[.int .i64 p.id, .int .i64 p.ow, .int .i64 p.si, .int .i64 p.zo, .int .i64 p.st, .int .i64 p.po, .int .i64 p.to, .int .i64 p.tr, .int .i64 p.pl, .int .i64 p.mi, .int .i64 p.ma, .bool p.de, .bool p.be] 31)).size (fun k' hk' => (hown4.lt k' hk').1)
              refine hK.out _ _ (SK _ hb5) (fun hHeld => ?_)
              clear hK
              try simp only [Act.put, List.setIfInBounds_toArray, List.set_cons_zero, List.set_cons_succ]
              refine wpAnyH_ready (rs := [13]) (by kernel_rfl) (by simp) ?_
              refine AllReadyH.cons rfl (fun K hK => ?_) AllReadyH.nil
              refine step_appendE rfl (.tmp 47) (.tmp 51) 53 rfl X.heap.size 31 i0 _ 13 96 Try.underlying53 hi hz0 hz1 hz2 rfl (by decide) v5 (s.pn + 1) _ rfl hown5 ⟨s.pb, 0, none⟩ (0) (s.pcap - s.pn) (valsE pcC (0) (fun j => s.ps (s.pn + j))) rfl (by rw [valsE_len pcC_len]) (fun j u hu => by simp [valsE] at hu) (pcC_one _ _) (by unfold maxLen; omega) (by omega) hb5.size ?_
              intro v6 w6 hown6 hgr6 hnil6
              have hv6 : v6 ≠ .slice none 0 0 := fun e => by first | exact hnil6 e | exact hv5 (hnil6.1 e).1
              have hb6 : Below X.heap.size X w6 := hb5.grown hgr6 hb5.size (fun k' hk' => (hown5.lt k' hk').1)
              refine hK.out _ _ (SK _ hb6) (fun hHeld => ?_)
              clear hK
              try simp only [Act.put, List.setIfInBounds_toArray, List.set_cons_zero, List.set_cons_succ]
              have hrow : w6.ownsRow X.heap.size 31 13 v6 (s.pn + 1) (valsE pcC (s.pn + 1) (ins s.pn p s.ps)) := by
                rw [ins_vals hkl, Nat.sub_self]
                have e8 : s.pn + 1 + 0 = s.pn + 1 := by omega
                rw [← e8]
                first | exact hown6 | (simpa [Nat.sub_self, valsE] using hown6)
              obtain ⟨q6, cap6, rfl, hc6, o6⟩ := own_ofE pcC_len hrow hv6
              obtain ⟨cur6, hcur6, hm6⟩ := row_type hrow
              refine wpAnyH_take (i := 14) (v := .pointer (some ⟨u1.heap.size, 0, none⟩)) rfl (by kernel_rfl) (by kernel_rfl) (by kernel_rfl) (fun _ _ _ h => h) (Or.inl ⟨by rfl, fun u hSu => by (try dsimp only at hSu); go_simp⟩) hHeld ?_
              try simp only [Act.put, List.setIfInBounds_toArray, List.set_cons_zero, List.set_cons_succ]
              have zo := xoX.grew hb6
              have zr := x3X.grew hb6
              have oz := oX.grew hb6
              have f0 := zo.froz 0
              have g0 : w6.cell? ⟨u1.heap.size, 0, none⟩ = some (.slice t.pa t.pn t.pcap) := zo.cell 0
              have ao := zo.put 0 (.slice (some ⟨q6, 0, none⟩) (s.pn + 1) cap6)
              have ar := zr.other (q := ⟨u1.heap.size, 0, none⟩) (by simp; omega) (.slice (some ⟨q6, 0, none⟩) (s.pn + 1) cap6)
              have aq := o6.setCell (q := ⟨u1.heap.size, 0, none⟩) (by simp; have := o6.1; omega) (.slice (some ⟨q6, 0, none⟩) (s.pn + 1) cap6)
              have as_ : OwnZ sdC 3 (w6.setCell ⟨u1.heap.size, 0, none⟩ (.slice (some ⟨q6, 0, none⟩) (s.pn + 1) cap6)) W.heap.size t.sb t.sa t.sn t.ss := oz.s.same (fun h => Below.heap_setCell _ _ _ _ (by simp; have := htl2 h; omega)) (by simp [World.setCell])
              have hB7 := (below_app hBX hb6 hBX.size).setCell (p := ⟨u1.heap.size, 0, none⟩) (by simp; omega) (.slice (some ⟨q6, 0, none⟩) (s.pn + 1) cap6)
              refine wpAnyH_ready (rs := [15]) (by kernel_rfl) (by simp) ?_
              refine AllReadyH.cons rfl (fun K hK => ?_) AllReadyH.nil
              go_simp
              refine hK.out _ _ (SKs _ _ hHeld) (fun hHeld => ?_)
              clear hK
              refine wpAnyH_done (by kernel_rfl) ?_ _
              generalize hV : w6.setCell ⟨u1.heap.size, 0, none⟩ (.slice (some ⟨q6, 0, none⟩) (s.pn + 1) cap6) = V at ao ar aq as_ hB7 ⊢
              have m0 : V.cell? ⟨u1.heap.size, 0, none⟩ = some (.slice (some ⟨q6, 0, none⟩) (s.pn + 1) cap6) := ao.cell 0
              have m1 : V.cell? ⟨u1.heap.size, 1, none⟩ = some (.slice t.sa t.sn t.scap) := ao.cell 1
              have m2 : V.cell? ⟨u1.heap.size, 2, none⟩ = some (.int .i64 t.ac) := ao.cell 2
              have m3 : V.cell? ⟨u1.heap.size, 3, none⟩ = some (.int .i64 t.cl) := ao.cell 3
              clear hHeld SK SKs hV hown4 hgr4 hnil4 hown5 hgr5 hnil5 hown6 hgr6 hnil6 hrow hcur6
              go_wp2_with (refine wpList_store_row rfl 56 (.tmp 4) (.tmp 54) rfl (w.heap.size + 1 + 1) _ (by rfl) (by rfl) _ _ ar (by kernel_rfl) (by rfl) (by simp [Value.oneCell']) ?_)
              (try simp only [Exit.inBlock, Exit.then]); refine bodyPost_ret (results_cell_row rfl _ _ (w.heap.size + 1 + 1) _ _ _ _ rfl (setRow_heap _ _ _ _ _ _ ar) Try.underlying56 rfl (by kernel_rfl)) rfl ?_
              have hq6 := o6.1
              refine ⟨⟨some ⟨q6, 0, none⟩, s.pn + 1, cap6, q6, ins s.pn p s.ps, t.sa, t.sn, t.scap, t.sb, t.ss, t.ac, t.cl⟩, rfl, below_setRow hB7 (by omega) _, ⟨.inr ((aq.setRow (by omega) _).downTo (by omega)), (as_.same (fun h => heap_setRow_ne' _ _ _ _ (by have := (as_.lt h).1; omega)) (by rw [size_setRow']; exact Nat.le_refl _)).down (by omega), fun _ h => (by have := htl2 h; show q6 ≠ t.sb; omega), hc6, hm6, o.sc, o.sm⟩, ⟨by show s.pn + 1 = spN s p; rw [HN.out.1], by show ins s.pn p s.ps = spF s p; rw [HN.out.2, HK.out], al.sn, al.ss, al.ac, al.cl⟩, ⟨rfl, fl.2⟩⟩
            · go_simp
              refine hK.out _ _ (SK _ hAP) (fun hHeld => ?_)
              clear hK
              try simp only [Act.put, List.setIfInBounds_toArray, List.set_cons_zero, List.set_cons_succ]
              refine wpAnyH_ready (rs := [5]) (by kernel_rfl) (by simp) ?_
              refine AllReadyH.cons rfl (fun K hK => ?_) AllReadyH.nil
              refine step_appendE rfl (.tmp 39) (.tmp 43) 53 rfl X.heap.size 31 i0 _ 13 96 Try.underlying53 hi hz0 hz1 hz2 rfl (by decide) (.slice (some ⟨X.heap.size, 0, none⟩) 0 0) 0 [] rfl (oA.alloc _) ⟨s.pb, 0, none⟩ s.pn s.pcap (valsE pcC s.pn s.ps) rfl (by rw [valsE_len pcC_len]) ((((r1X.first hkl).grew pcC_ne hAP)).newsE pcC_len) (pcC_one _ _) (by unfold maxLen; omega) (by omega) hAP.size ?_
              intro v4 w4 hown4 hgr4 hnil4
              have hv4 : v4 ≠ .slice none 0 0 := fun e => by first | exact hnil4 e | (have h9 := (hnil4.1 e).1; simp at h9)
              have hb4 : Below X.heap.size X w4 := hAP.grown hgr4 hAP.size (fun k' hk' => by simp [Value.ownBlock] at hk'; omega)
              (try simp only [Nat.zero_add, List.nil_append] at hown4)
              refine hK.out _ _ (SK _ hb4) (fun hHeld => ?_)
              clear hK
              try simp only [Act.put, List.setIfInBounds_toArray, List.set_cons_zero, List.set_cons_succ]
              refine wpAnyH_ready (rs := [8]) (by kernel_rfl) (by simp) ?_
              refine AllReadyH.cons rfl (fun K hK => ?_) AllReadyH.nil
              refine step_appendE rfl (.tmp 44) (.tmp 46) 53 rfl X.heap.size 31 i0 _ 13 96 Try.underlying53 hi hz0 hz1 hz2 rfl (by decide) v4 s.pn _ rfl hown4 ⟨X.heap.size + 1, 0, none⟩ 1 1 (pcC p) rfl rfl (news_at (hgr4.block (X.heap.size + 1) (by simp) (by simp [Value.ownBlock])) (show BoxP _ (X.heap.size + 1) 31 p from heap_alloc2_new _ _ _)) (by intro u hu; simp only [pcC, List.mem_cons, List.mem_nil_iff, or_false] at hu; rcases hu with rfl | rfl | rfl | rfl | rfl | rfl | rfl | rfl | rfl | rfl | rfl | rfl | rfl <;> rfl) (by unfold maxLen; omega) (by omega) hb4.size ?_
              intro v5 w5 hown5 hgr5 hnil5
              have hv5 : v5 ≠ .slice none 0 0 := fun e => by first | exact hnil5 e | exact hv4 (hnil5.1 e).1
              have hb5 : Below X.heap.size X w5 := hb4.grown hgr5 hb4.size (fun k' hk' => (hown4.lt k' hk').1)
              refine hK.out _ _ (SK _ hb5) (fun hHeld => ?_)
              clear hK
              try simp only [Act.put, List.setIfInBounds_toArray, List.set_cons_zero, List.set_cons_succ]
              refine wpAnyH_ready (rs := [13]) (by kernel_rfl) (by simp) ?_
              refine AllReadyH.cons rfl (fun K hK => ?_) AllReadyH.nil
              refine step_appendE rfl (.tmp 47) (.tmp 51) 53 rfl X.heap.size 31 i0 _ 13 96 Try.underlying53 hi hz0 hz1 hz2 rfl (by decide) v5 (s.pn + 1) _ rfl hown5 ⟨s.pb, 0, none⟩ (0) (s.pcap - s.pn) (valsE pcC (0) (fun j => s.ps (s.pn + j))) rfl (by rw [valsE_len pcC_len]) (fun j u hu => by simp [valsE] at hu) (pcC_one _ _) (by unfold maxLen; omega) (by omega) hb5.size ?_
              intro v6 w6 hown6 hgr6 hnil6
              have hv6 : v6 ≠ .slice none 0 0 := fun e => by first | exact hnil6 e | exact hv5 (hnil6.1 e).1
              have hb6 : Below X.heap.size X w6 := hb5.grown hgr6 hb5.size (fun k' hk' => (hown5.lt k' hk').1)
              refine hK.out _ _ (SK _ hb6) (fun hHeld => ?_)
              clear hK
              try simp only [Act.put, List.setIfInBounds_toArray, List.set_cons_zero, List.set_cons_succ]
              have hrow : w6.ownsRow X.heap.size 31 13 v6 (s.pn + 1) (valsE pcC (s.pn + 1) (ins s.pn p s.ps)) := by
                rw [ins_vals hkl, Nat.sub_self]
                have e8 : s.pn + 1 + 0 = s.pn + 1 := by omega
                rw [← e8]
                first | exact hown6 | (simpa [Nat.sub_self, valsE] using hown6)
              obtain ⟨q6, cap6, rfl, hc6, o6⟩ := own_ofE pcC_len hrow hv6
              obtain ⟨cur6, hcur6, hm6⟩ := row_type hrow
              refine wpAnyH_take (i := 14) (v := .pointer (some ⟨u1.heap.size, 0, none⟩)) rfl (by kernel_rfl) (by kernel_rfl) (by kernel_rfl) (fun _ _ _ h => h) (Or.inl ⟨by rfl, fun u hSu => by (try dsimp only at hSu); go_simp⟩) hHeld ?_
              try simp only [Act.put, List.setIfInBounds_toArray, List.set_cons_zero, List.set_cons_succ]
              have zo := xoX.grew hb6
              have zr := x3X.grew hb6
              have oz := oX.grew hb6
              have f0 := zo.froz 0
              have g0 : w6.cell? ⟨u1.heap.size, 0, none⟩ = some (.slice t.pa t.pn t.pcap) := zo.cell 0
              have ao := zo.put 0 (.slice (some ⟨q6, 0, none⟩) (s.pn + 1) cap6)
              have ar := zr.other (q := ⟨u1.heap.size, 0, none⟩) (by simp; omega) (.slice (some ⟨q6, 0, none⟩) (s.pn + 1) cap6)
              have aq := o6.setCell (q := ⟨u1.heap.size, 0, none⟩) (by simp; have := o6.1; omega) (.slice (some ⟨q6, 0, none⟩) (s.pn + 1) cap6)
              have as_ : OwnZ sdC 3 (w6.setCell ⟨u1.heap.size, 0, none⟩ (.slice (some ⟨q6, 0, none⟩) (s.pn + 1) cap6)) W.heap.size t.sb t.sa t.sn t.ss := oz.s.same (fun h => Below.heap_setCell _ _ _ _ (by simp; have := htl2 h; omega)) (by simp [World.setCell])
              have hB7 := (below_app hBX hb6 hBX.size).setCell (p := ⟨u1.heap.size, 0, none⟩) (by simp; omega) (.slice (some ⟨q6, 0, none⟩) (s.pn + 1) cap6)
              refine wpAnyH_ready (rs := [15]) (by kernel_rfl) (by simp) ?_
              refine AllReadyH.cons rfl (fun K hK => ?_) AllReadyH.nil
              go_simp
              refine hK.out _ _ (SKs _ _ hHeld) (fun hHeld => ?_)
              clear hK
              refine wpAnyH_done (by kernel_rfl) ?_ _
              generalize hV : w6.setCell ⟨u1.heap.size, 0, none⟩ (.slice (some ⟨q6, 0, none⟩) (s.pn + 1) cap6) = V at ao ar aq as_ hB7 ⊢
              have m0 : V.cell? ⟨u1.heap.size, 0, none⟩ = some (.slice (some ⟨q6, 0, none⟩) (s.pn + 1) cap6) := ao.cell 0
              have m1 : V.cell? ⟨u1.heap.size, 1, none⟩ = some (.slice t.sa t.sn t.scap) := ao.cell 1
              have m2 : V.cell? ⟨u1.heap.size, 2, none⟩ = some (.int .i64 t.ac) := ao.cell 2
              have m3 : V.cell? ⟨u1.heap.size, 3, none⟩ = some (.int .i64 t.cl) := ao.cell 3
              clear hHeld SK SKs hV hown4 hgr4 hnil4 hown5 hgr5 hnil5 hown6 hgr6 hnil6 hrow hcur6
              go_wp2_with (refine wpList_store_row rfl 56 (.tmp 4) (.tmp 54) rfl (w.heap.size + 1 + 1) _ (by rfl) (by rfl) _ _ ar (by kernel_rfl) (by rfl) (by simp [Value.oneCell']) ?_)
              (try simp only [Exit.inBlock, Exit.then]); refine bodyPost_ret (results_cell_row rfl _ _ (w.heap.size + 1 + 1) _ _ _ _ rfl (setRow_heap _ _ _ _ _ _ ar) Try.underlying56 rfl (by kernel_rfl)) rfl ?_
              have hq6 := o6.1
              refine ⟨⟨some ⟨q6, 0, none⟩, s.pn + 1, cap6, q6, ins s.pn p s.ps, t.sa, t.sn, t.scap, t.sb, t.ss, t.ac, t.cl⟩, rfl, below_setRow hB7 (by omega) _, ⟨.inr ((aq.setRow (by omega) _).downTo (by omega)), (as_.same (fun h => heap_setRow_ne' _ _ _ _ (by have := (as_.lt h).1; omega)) (by rw [size_setRow']; exact Nat.le_refl _)).down (by omega), fun _ h => (by have := htl2 h; show q6 ≠ t.sb; omega), hc6, hm6, o.sc, o.sm⟩, ⟨by show s.pn + 1 = spN s p; rw [HN.out.1], by show ins s.pn p s.ps = spF s p; rw [HN.out.2, HK.out], al.sn, al.ss, al.ac, al.cl⟩, ⟨rfl, fl.2⟩⟩
          · go_simp
            refine hK.out _ _ (SK _ hP) (fun hHeld => ?_)
            clear hK
            try simp only [Act.put, List.setIfInBounds_toArray, List.set_cons_zero, List.set_cons_succ]
            refine wpAnyH_ready (rs := [0]) (by kernel_rfl) (by simp) ?_
            refine AllReadyH.cons rfl (fun K hK => ?_) AllReadyH.nil
            go_simp
            refine hK.out _ _ (SK _ hPA) (fun hHeld => ?_)
            clear hK
            try simp only [Act.put, List.setIfInBounds_toArray, List.set_cons_zero, List.set_cons_succ]
            refine wpAnyH_ready (rs := [5]) (by kernel_rfl) (by simp) ?_
            refine AllReadyH.cons rfl (fun K hK => ?_) AllReadyH.nil
            refine step_appendE rfl (.tmp 39) (.tmp 43) 53 rfl X.heap.size 31 i0 _ 13 96 Try.underlying53 hi hz0 hz1 hz2 rfl (by decide) (.slice (some ⟨X.heap.size + 1, 0, none⟩) 0 0) 0 [] rfl oPA ⟨s.pb, 0, none⟩ s.pn s.pcap (valsE pcC s.pn s.ps) rfl (by rw [valsE_len pcC_len]) ((((r1X.first hkl).grew pcC_ne hPA)).newsE pcC_len) (pcC_one _ _) (by unfold maxLen; omega) (by omega) hPA.size ?_
            intro v4 w4 hown4 hgr4 hnil4
            have hv4 : v4 ≠ .slice none 0 0 := fun e => by first | exact hnil4 e | (have h9 := (hnil4.1 e).1; simp at h9)
            have hb4 : Below X.heap.size X w4 := hPA.grown hgr4 hPA.size (fun k' hk' => by simp [Value.ownBlock] at hk'; omega)
            (try simp only [Nat.zero_add, List.nil_append] at hown4)
            refine hK.out _ _ (SK _ hb4) (fun hHeld => ?_)
            clear hK
            try simp only [Act.put, List.setIfInBounds_toArray, List.set_cons_zero, List.set_cons_succ]
            refine wpAnyH_ready (rs := [8]) (by kernel_rfl) (by simp) ?_
            refine AllReadyH.cons rfl (fun K hK => ?_) AllReadyH.nil
            refine step_appendE rfl (.tmp 44) (.tmp 46) 53 rfl X.heap.size 31 i0 _ 13 96 Try.underlying53 hi hz0 hz1 hz2 rfl (by decide) v4 s.pn _ rfl hown4 ⟨X.heap.size, 0, none⟩ 1 1 (pcC p) rfl rfl (news_at (hgr4.block X.heap.size (by simp; omega) (by simp [Value.ownBlock])) ((show BoxP (X.drew.alloc (.cells #[.int .i64 p.id, .int .i64 p.ow, .int .i64 p.si, .int .i64 p.zo, .int .i64 p.st, .int .i64 p.po, .int .i64 p.to, .int .i64 p.tr, .int .i64 p.pl, .int .i64 p.mi, .int .i64 p.ma, .bool p.de, .bool p.be] 31)) X.heap.size 31 p from box_new X.drew 31 p).alloc _)) (by intro u hu; simp only [pcC, List.mem_cons, List.mem_nil_iff, or_false] at hu; rcases hu with rfl | rfl | rfl | rfl | rfl | rfl | rfl | rfl | rfl | rfl | rfl | rfl | rfl <;> rfl) (by unfold maxLen; omega) (by omega) hb4.size ?_
            intro v5 w5 hown5 hgr5 hnil5
            have hv5 : v5 ≠ .slice none 0 0 := fun e => by first | exact hnil5 e | exact hv4 (hnil5.1 e).1
            have hb5 : Below X.heap.size X w5 := hb4.grown hgr5 hb4.size (fun k' hk' => (hown4.lt k' hk').1)
            refine hK.out _ _ (SK _ hb5) (fun hHeld => ?_)
            clear hK
            try simp only [Act.put, List.setIfInBounds_toArray, List.set_cons_zero, List.set_cons_succ]
            refine wpAnyH_ready (rs := [13]) (by kernel_rfl) (by simp) ?_
            refine AllReadyH.cons rfl (fun K hK => ?_) AllReadyH.nil
            refine step_appendE rfl (.tmp 47) (.tmp 51) 53 rfl X.heap.size 31 i0 _ 13 96 Try.underlying53 hi hz0 hz1 hz2 rfl (by decide) v5 (s.pn + 1) _ rfl hown5 ⟨s.pb, 0, none⟩ (0) (s.pcap - s.pn) (valsE pcC (0) (fun j => s.ps (s.pn + j))) rfl (by rw [valsE_len pcC_len]) (fun j u hu => by simp [valsE] at hu) (pcC_one _ _) (by unfold maxLen; omega) (by omega) hb5.size ?_
            intro v6 w6 hown6 hgr6 hnil6
            have hv6 : v6 ≠ .slice none 0 0 := fun e => by first | exact hnil6 e | exact hv5 (hnil6.1 e).1
            have hb6 : Below X.heap.size X w6 := hb5.grown hgr6 hb5.size (fun k' hk' => (hown5.lt k' hk').1)
            refine hK.out _ _ (SK _ hb6) (fun hHeld => ?_)
            clear hK
            try simp only [Act.put, List.setIfInBounds_toArray, List.set_cons_zero, List.set_cons_succ]
            have hrow : w6.ownsRow X.heap.size 31 13 v6 (s.pn + 1) (valsE pcC (s.pn + 1) (ins s.pn p s.ps)) := by
              rw [ins_vals hkl, Nat.sub_self]
              have e8 : s.pn + 1 + 0 = s.pn + 1 := by omega
              rw [← e8]
              first | exact hown6 | (simpa [Nat.sub_self, valsE] using hown6)
            obtain ⟨q6, cap6, rfl, hc6, o6⟩ := own_ofE pcC_len hrow hv6
            obtain ⟨cur6, hcur6, hm6⟩ := row_type hrow
            refine wpAnyH_take (i := 14) (v := .pointer (some ⟨u1.heap.size, 0, none⟩)) rfl (by kernel_rfl) (by kernel_rfl) (by kernel_rfl) (fun _ _ _ h => h) (Or.inl ⟨by rfl, fun u hSu => by (try dsimp only at hSu); go_simp⟩) hHeld ?_
            try simp only [Act.put, List.setIfInBounds_toArray, List.set_cons_zero, List.set_cons_succ]
            have zo := xoX.grew hb6
            have zr := x3X.grew hb6
            have oz := oX.grew hb6
            have f0 := zo.froz 0
            have g0 : w6.cell? ⟨u1.heap.size, 0, none⟩ = some (.slice t.pa t.pn t.pcap) := zo.cell 0
            have ao := zo.put 0 (.slice (some ⟨q6, 0, none⟩) (s.pn + 1) cap6)
            have ar := zr.other (q := ⟨u1.heap.size, 0, none⟩) (by simp; omega) (.slice (some ⟨q6, 0, none⟩) (s.pn + 1) cap6)
            have aq := o6.setCell (q := ⟨u1.heap.size, 0, none⟩) (by simp; have := o6.1; omega) (.slice (some ⟨q6, 0, none⟩) (s.pn + 1) cap6)
            have as_ : OwnZ sdC 3 (w6.setCell ⟨u1.heap.size, 0, none⟩ (.slice (some ⟨q6, 0, none⟩) (s.pn + 1) cap6)) W.heap.size t.sb t.sa t.sn t.ss := oz.s.same (fun h => Below.heap_setCell _ _ _ _ (by simp; have := htl2 h; omega)) (by simp [World.setCell])
            have hB7 := (below_app hBX hb6 hBX.size).setCell (p := ⟨u1.heap.size, 0, none⟩) (by simp; omega) (.slice (some ⟨q6, 0, none⟩) (s.pn + 1) cap6)
            refine wpAnyH_ready (rs := [15]) (by kernel_rfl) (by simp) ?_
            refine AllReadyH.cons rfl (fun K hK => ?_) AllReadyH.nil
            go_simp
            refine hK.out _ _ (SKs _ _ hHeld) (fun hHeld => ?_)
            clear hK
            refine wpAnyH_done (by kernel_rfl) ?_ _
            generalize hV : w6.setCell ⟨u1.heap.size, 0, none⟩ (.slice (some ⟨q6, 0, none⟩) (s.pn + 1) cap6) = V at ao ar aq as_ hB7 ⊢
            have m0 : V.cell? ⟨u1.heap.size, 0, none⟩ = some (.slice (some ⟨q6, 0, none⟩) (s.pn + 1) cap6) := ao.cell 0
            have m1 : V.cell? ⟨u1.heap.size, 1, none⟩ = some (.slice t.sa t.sn t.scap) := ao.cell 1
            have m2 : V.cell? ⟨u1.heap.size, 2, none⟩ = some (.int .i64 t.ac) := ao.cell 2
            have m3 : V.cell? ⟨u1.heap.size, 3, none⟩ = some (.int .i64 t.cl) := ao.cell 3
            clear hHeld SK SKs hV hown4 hgr4 hnil4 hown5 hgr5 hnil5 hown6 hgr6 hnil6 hrow hcur6
            go_wp2_with (refine wpList_store_row rfl 56 (.tmp 4) (.tmp 54) rfl (w.heap.size + 1 + 1) _ (by rfl) (by rfl) _ _ ar (by kernel_rfl) (by rfl) (by simp [Value.oneCell']) ?_)
            (try simp only [Exit.inBlock, Exit.then]); refine bodyPost_ret (results_cell_row rfl _ _ (w.heap.size + 1 + 1) _ _ _ _ rfl (setRow_heap _ _ _ _ _ _ ar) Try.underlying56 rfl (by kernel_rfl)) rfl ?_
            have hq6 := o6.1
            refine ⟨⟨some ⟨q6, 0, none⟩, s.pn + 1, cap6, q6, ins s.pn p s.ps, t.sa, t.sn, t.scap, t.sb, t.ss, t.ac, t.cl⟩, rfl, below_setRow hB7 (by omega) _, ⟨.inr ((aq.setRow (by omega) _).downTo (by omega)), (as_.same (fun h => heap_setRow_ne' _ _ _ _ (by have := (as_.lt h).1; omega)) (by rw [size_setRow']; exact Nat.le_refl _)).down (by omega), fun _ h => (by have := htl2 h; show q6 ≠ t.sb; omega), hc6, hm6, o.sc, o.sm⟩, ⟨by show s.pn + 1 = spN s p; rw [HN.out.1], by show ins s.pn p s.ps = spF s p; rw [HN.out.2, HK.out], al.sn, al.ss, al.ac, al.cl⟩, ⟨rfl, fl.2⟩⟩
        · have g4 : ¬ s.pcap = s.pn := hkc
          clear hkc
          refine wp_region_held_drew (S := fun u : World => u.cell? ⟨w.heap.size, 0, none⟩ = some (.slice (some ⟨s.pb, 0, none⟩) s.pn s.pcap) ∧ u.cell? ⟨w.heap.size + 1, 0, none⟩ = some (.int .i64 p.id) ∧ u.cell? ⟨w.heap.size + 1, 1, none⟩ = some (.int .i64 p.ow) ∧ u.cell? ⟨w.heap.size + 1, 2, none⟩ = some (.int .i64 p.si) ∧ u.cell? ⟨w.heap.size + 1, 3, none⟩ = some (.int .i64 p.zo) ∧ u.cell? ⟨w.heap.size + 1, 4, none⟩ = some (.int .i64 p.st) ∧ u.cell? ⟨w.heap.size + 1, 5, none⟩ = some (.int .i64 p.po) ∧ u.cell? ⟨w.heap.size + 1, 6, none⟩ = some (.int .i64 p.to) ∧ u.cell? ⟨w.heap.size + 1, 7, none⟩ = some (.int .i64 p.tr) ∧ u.cell? ⟨w.heap.size + 1, 8, none⟩ = some (.int .i64 p.pl) ∧ u.cell? ⟨w.heap.size + 1, 9, none⟩ = some (.int .i64 p.mi) ∧ u.cell? ⟨w.heap.size + 1, 10, none⟩ = some (.int .i64 p.ma) ∧ u.cell? ⟨w.heap.size + 1, 11, none⟩ = some (.bool p.de) ∧ u.cell? ⟨w.heap.size + 1, 12, none⟩ = some (.bool p.be)) (by kernel_rfl) (SK _ ((Below.refl _ X).drew)) (fun hHeld => ?_)
          refine wpAnyH_take (i := 1) (v := .pointer (some ⟨w.heap.size, 0, none⟩)) rfl (by kernel_rfl) (by kernel_rfl) (by kernel_rfl) (fun _ _ _ h => h) (Or.inl ⟨by rfl, fun u hSu => by (try dsimp only at hSu); go_simp⟩) hHeld ?_
          try simp only [Act.put, List.setIfInBounds_toArray, List.set_cons_zero, List.set_cons_succ]
          refine wpAnyH_take (i := 2) (v := .slice (some ⟨s.pb, 0, none⟩) s.pn s.pcap) rfl (by kernel_rfl) (by kernel_rfl) (by kernel_rfl) (fun _ _ _ h => h) (Or.inl ⟨by rfl, fun u hSu => by (try dsimp only at hSu); go_simp⟩) hHeld ?_
          try simp only [Act.put, List.setIfInBounds_toArray, List.set_cons_zero, List.set_cons_succ]
          refine wpAnyH_take (i := 3) (v := .int .i64 s.pn) rfl (by kernel_rfl) (by kernel_rfl) (by kernel_rfl) (fun _ _ _ h => h) (Or.inl ⟨by rfl, fun u hSu => by (try dsimp only at hSu); go_simp⟩) hHeld ?_
          try simp only [Act.put, List.setIfInBounds_toArray, List.set_cons_zero, List.set_cons_succ]
          refine wpAnyH_take (i := 4) (v := .slice (some ⟨s.pb, 0, none⟩) s.pn s.pcap) rfl (by kernel_rfl) (by kernel_rfl) (by kernel_rfl) (fun _ _ _ h => h) (Or.inl ⟨by rfl, fun u hSu => by (try dsimp only at hSu); go_simp⟩) hHeld ?_
          try simp only [Act.put, List.setIfInBounds_toArray, List.set_cons_zero, List.set_cons_succ]
          refine wpAnyH_take (i := 6) (v := (.agg #[.int .i64 p.id, .int .i64 p.ow, .int .i64 p.si, .int .i64 p.zo, .int .i64 p.st, .int .i64 p.po, .int .i64 p.to, .int .i64 p.tr, .int .i64 p.pl, .int .i64 p.mi, .int .i64 p.ma, .bool p.de, .bool p.be])) rfl (by kernel_rfl) (by kernel_rfl) (by kernel_rfl) (fun _ _ _ h => h) (Or.inl ⟨by rfl, fun u hSu => by (try dsimp only at hSu); go_simp⟩) hHeld ?_
          try simp only [Act.put, List.setIfInBounds_toArray, List.set_cons_zero, List.set_cons_succ]
          refine wpAnyH_take (i := 9) (v := .pointer (some ⟨w.heap.size, 0, none⟩)) rfl (by kernel_rfl) (by kernel_rfl) (by kernel_rfl) (fun _ _ _ h => h) (Or.inl ⟨by rfl, fun u hSu => by (try dsimp only at hSu); go_simp⟩) hHeld ?_
          try simp only [Act.put, List.setIfInBounds_toArray, List.set_cons_zero, List.set_cons_succ]
          refine wpAnyH_take (i := 10) (v := .slice (some ⟨s.pb, 0, none⟩) s.pn s.pcap) rfl (by kernel_rfl) (by kernel_rfl) (by kernel_rfl) (fun _ _ _ h => h) (Or.inl ⟨by rfl, fun u hSu => by (try dsimp only at hSu); go_simp⟩) hHeld ?_
          try simp only [Act.put, List.setIfInBounds_toArray, List.set_cons_zero, List.set_cons_succ]
          refine wpAnyH_take (i := 11) (v := .int .i64 s.pn) rfl (by kernel_rfl) (by kernel_rfl) (by kernel_rfl) (fun _ _ _ h => h) (Or.inl ⟨by rfl, fun u hSu => by (try dsimp only at hSu); go_simp⟩) hHeld ?_
          try simp only [Act.put, List.setIfInBounds_toArray, List.set_cons_zero, List.set_cons_succ]
          refine wpAnyH_take (i := 12) (v := .slice (some ⟨s.pb, s.pn * 13, none⟩) (0) (s.pcap - s.pn)) rfl (by kernel_rfl) (by kernel_rfl) (by kernel_rfl) (fun _ _ _ h => h) (Or.inl ⟨by rfl, fun u hSu => by (try dsimp only at hSu); go_simp⟩) hHeld ?_
          try simp only [Act.put, List.setIfInBounds_toArray, List.set_cons_zero, List.set_cons_succ]
          have hD : Below X.heap.size X X.drew := (Below.refl _ X).drew
          have hA := hD.alloc (Nat.le_refl X.heap.size) (.cells #[] 31)
          have hP := hD.alloc (Nat.le_refl X.heap.size) (.cells #[.int .i64 p.id, .int .i64 p.ow, .int .i64 p.si, .int .i64 p.zo, .int .i64 p.st, .int .i64 p.po, .int .i64 p.to, .int .i64 p.tr, .int .i64 p.pl, .int .i64 p.mi, .int .i64 p.ma, .bool p.de, .bool p.be] 31)
          have hAP := hA.alloc hA.size (.cells #[.int .i64 p.id, .int .i64 p.ow, .int .i64 p.si, .int .i64 p.zo, .int .i64 p.st, .int .i64 p.po, .int .i64 p.to, .int .i64 p.tr, .int .i64 p.pl, .int .i64 p.mi, .int .i64 p.ma, .bool p.de, .bool p.be] 31)
          have hPA := hP.alloc hP.size (.cells #[] 31)
          have oA : (X.drew.alloc (.cells #[] 31)).ownsRow X.heap.size 31 13 (.slice (some ⟨X.heap.size, 0, none⟩) 0 0) 0 [] := World.ownsRow_lit X.drew #[] 0 (Nat.le_refl _) (by decide) rfl
          have oPA : ((X.drew.alloc (.cells #[.int .i64 p.id, .int .i64 p.ow, .int .i64 p.si, .int .i64 p.zo, .int .i64 p.st, .int .i64 p.po, .int .i64 p.to, .int .i64 p.tr, .int .i64 p.pl, .int .i64 p.mi, .int .i64 p.ma, .bool p.de, .bool p.be] 31)).alloc (.cells #[] 31)).ownsRow X.heap.size 31 13 (.slice (some ⟨X.heap.size + 1, 0, none⟩) 0 0) 0 [] := by have := World.ownsRow_lit (base := X.heap.size) (e := 31) (size := 13) (X.drew.alloc (.cells #[.int .i64 p.id, .int .i64 p.ow, .int .i64 p.si, .int .i64 p.zo, .int .i64 p.st, .int .i64 p.po, .int .i64 p.to, .int .i64 p.tr, .int .i64 p.pl, .int .i64 p.mi, .int .i64 p.ma, .bool p.de, .bool p.be] 31)) #[] 0 (by simp) (by decide) rfl; rwa [World.size_alloc] at this
          refine wpAnyH_ready (rs := [0, 7]) (by kernel_rfl) (by simp) ?_
          refine AllReadyH.cons rfl (fun K hK => ?_) (AllReadyH.cons rfl (fun K hK => ?_) AllReadyH.nil)
          · go_simp
            refine hK.out _ _ (SK _ hA) (fun hHeld => ?_)
            clear hK
            try simp only [Act.put, List.setIfInBounds_toArray, List.set_cons_zero, List.set_cons_succ]
            refine wpAnyH_ready (rs := [5, 7]) (by kernel_rfl) (by simp) ?_
            refine AllReadyH.cons rfl (fun K hK => ?_) (AllReadyH.cons rfl (fun K hK => ?_) AllReadyH.nil)
            · refine step_appendE rfl (.tmp 39) (.tmp 43) 53 rfl X.heap.size 31 i0 _ 13 96 Try.underlying53 hi hz0 hz1 hz2 rfl (by decide) (.slice (some ⟨X.heap.size, 0, none⟩) 0 0) 0 [] rfl oA ⟨s.pb, 0, none⟩ s.pn s.pcap (valsE pcC s.pn s.ps) rfl (by rw [valsE_len pcC_len]) ((((r1X.first hkl).grew pcC_ne hA)).newsE pcC_len) (pcC_one _ _) (by unfold maxLen; omega) (by omega) hA.size ?_
              intro v4 w4 hown4 hgr4 hnil4
              have hv4 : v4 ≠ .slice none 0 0 := fun e => by first | exact hnil4 e | (have h9 := (hnil4.1 e).1; simp at h9)
              have hb4 : Below X.heap.size X w4 := hA.grown hgr4 hA.size (fun k' hk' => by simp [Value.ownBlock] at hk'; omega)
              (try simp only [Nat.zero_add, List.nil_append] at hown4)
              refine hK.out _ _ (SK _ hb4) (fun hHeld => ?_)
              clear hK
              try simp only [Act.put, List.setIfInBounds_toArray, List.set_cons_zero, List.set_cons_succ]
              refine wpAnyH_ready (rs := [7]) (by kernel_rfl) (by simp) ?_
              refine AllReadyH.cons rfl (fun K hK => ?_) AllReadyH.nil
              go_simp
              refine hK.out _ _ (SK _ (hb4.alloc hb4.size (.cells #[.int .i64 p.id, .int .i64 p.ow, .int .i64 p.si, .int .i64 p.zo, .int .i64 p.st, .int .i64 p.po, .int .i64 p.to, .int .i64 p.tr, .int .i64 p.pl, .int .i64 p.mi, .int .i64 p.ma, .bool p.de, .bool p.be] 31))) (fun hHeld => ?_)
              clear hK
              try simp only [Act.put, List.setIfInBounds_toArray, List.set_cons_zero, List.set_cons_succ]
              refine wpAnyH_ready (rs := [8]) (by kernel_rfl) (by simp) ?_
              refine AllReadyH.cons rfl (fun K hK => ?_) AllReadyH.nil
              refine step_appendE rfl (.tmp 44) (.tmp 46) 53 rfl X.heap.size 31 i0 _ 13 96 Try.underlying53 hi hz0 hz1 hz2 rfl (by decide) v4 s.pn _ rfl (hown4.alloc _) ⟨w4.heap.size, 0, none⟩ 1 1 (pcC p) rfl rfl (cells_new w4 (pcC p) _) (by intro u hu; simp only [pcC, List.mem_cons, List.mem_nil_iff, or_false] at hu; rcases hu with rfl | rfl | rfl | rfl | rfl | rfl | rfl | rfl | rfl | rfl | rfl | rfl | rfl <;> rfl) (by unfold maxLen; omega) (by omega) (hb4.alloc hb4.size (.cells #[.int .i64 p.id, .int .i64 p.ow, .int .i64 p.si, .int .i64 p.zo, .int .i64 p.st, .int .i64 p.po, .int .i64 p.to, .int .i64 p.tr, .int .i64 p.pl, .int .i64 p.mi, .int .i64 p.ma, .bool p.de, .bool p.be] 31)).size ?_
              intro v5 w5 hown5 hgr5 hnil5
              have hv5 : v5 ≠ .slice none 0 0 := fun e => by first | exact hnil5 e | exact hv4 (hnil5.1 e).1
              have hb5 : Below X.heap.size X w5 := (hb4.alloc hb4.size (.cells #[.int .i64 p.id, .int .i64 p.ow, .int .i64 p.si, .int .i64 p.zo, .int .i64 p.st, .int .i64 p.po, .int .i64 p.to, .int .i64 p.tr, .int .i64 p.pl, .int .i64 p.mi, .int .i64 p.ma, .bool p.de, .bool p.be] 31)).grown hgr5 (hb4.alloc hb4.size (.cells #[.int .i64 p.id, .int .i64 p.ow, .int .i64 p.si, .int .i64 p.zo, .int .i64 p.st, .int .i64 p.po, .int .i64 p.to, .int .i64 p.tr, .int .i64 p.pl, .int .i64 p.mi, .int .i64 p.ma, .bool p.de, .bool p.be] 31)).size (fun k' hk' => (hown4.lt k' hk').1)
              refine hK.out _ _ (SK _ hb5) (fun hHeld => ?_)
              clear hK
              try simp only [Act.put, List.setIfInBounds_toArray, List.set_cons_zero, List.set_cons_succ]
              refine wpAnyH_ready (rs := [13]) (by kernel_rfl) (by simp) ?_
              refine AllReadyH.cons rfl (fun K hK => ?_) AllReadyH.nil
              refine step_appendE rfl (.tmp 47) (.tmp 51) 53 rfl X.heap.size 31 i0 _ 13 96 Try.underlying53 hi hz0 hz1 hz2 rfl (by decide) v5 (s.pn + 1) _ rfl hown5 ⟨s.pb, s.pn * 13, none⟩ (0) (s.pcap - s.pn) (valsE pcC (0) (fun j => s.ps (s.pn + j))) rfl (by rw [valsE_len pcC_len]) (fun j u hu => by simp [valsE] at hu) (pcC_one _ _) (by unfold maxLen; omega) (by omega) hb5.size ?_
              intro v6 w6 hown6 hgr6 hnil6
              have hv6 : v6 ≠ .slice none 0 0 := fun e => by first | exact hnil6 e | exact hv5 (hnil6.1 e).1
              have hb6 : Below X.heap.size X w6 := hb5.grown hgr6 hb5.size (fun k' hk' => (hown5.lt k' hk').1)
              refine hK.out _ _ (SK _ hb6) (fun hHeld => ?_)
              clear hK
              try simp only [Act.put, List.setIfInBounds_toArray, List.set_cons_zero, List.set_cons_succ]
              have hrow : w6.ownsRow X.heap.size 31 13 v6 (s.pn + 1) (valsE pcC (s.pn + 1) (ins s.pn p s.ps)) := by
                rw [ins_vals hkl, Nat.sub_self]
                have e8 : s.pn + 1 + 0 = s.pn + 1 := by omega
                rw [← e8]
                first | exact hown6 | (simpa [Nat.sub_self, valsE] using hown6)
              obtain ⟨q6, cap6, rfl, hc6, o6⟩ := own_ofE pcC_len hrow hv6
              obtain ⟨cur6, hcur6, hm6⟩ := row_type hrow
              refine wpAnyH_take (i := 14) (v := .pointer (some ⟨u1.heap.size, 0, none⟩)) rfl (by kernel_rfl) (by kernel_rfl) (by kernel_rfl) (fun _ _ _ h => h) (Or.inl ⟨by rfl, fun u hSu => by (try dsimp only at hSu); go_simp⟩) hHeld ?_
              try simp only [Act.put, List.setIfInBounds_toArray, List.set_cons_zero, List.set_cons_succ]
              have zo := xoX.grew hb6
              have zr := x3X.grew hb6
              have oz := oX.grew hb6
              have f0 := zo.froz 0
              have g0 : w6.cell? ⟨u1.heap.size, 0, none⟩ = some (.slice t.pa t.pn t.pcap) := zo.cell 0
              have ao := zo.put 0 (.slice (some ⟨q6, 0, none⟩) (s.pn + 1) cap6)
              have ar := zr.other (q := ⟨u1.heap.size, 0, none⟩) (by simp; omega) (.slice (some ⟨q6, 0, none⟩) (s.pn + 1) cap6)
              have aq := o6.setCell (q := ⟨u1.heap.size, 0, none⟩) (by simp; have := o6.1; omega) (.slice (some ⟨q6, 0, none⟩) (s.pn + 1) cap6)
              have as_ : OwnZ sdC 3 (w6.setCell ⟨u1.heap.size, 0, none⟩ (.slice (some ⟨q6, 0, none⟩) (s.pn + 1) cap6)) W.heap.size t.sb t.sa t.sn t.ss := oz.s.same (fun h => Below.heap_setCell _ _ _ _ (by simp; have := htl2 h; omega)) (by simp [World.setCell])
              have hB7 := (below_app hBX hb6 hBX.size).setCell (p := ⟨u1.heap.size, 0, none⟩) (by simp; omega) (.slice (some ⟨q6, 0, none⟩) (s.pn + 1) cap6)
              refine wpAnyH_ready (rs := [15]) (by kernel_rfl) (by simp) ?_
              refine AllReadyH.cons rfl (fun K hK => ?_) AllReadyH.nil
              go_simp
              refine hK.out _ _ (SKs _ _ hHeld) (fun hHeld => ?_)
              clear hK
              refine wpAnyH_done (by kernel_rfl) ?_ _
              generalize hV : w6.setCell ⟨u1.heap.size, 0, none⟩ (.slice (some ⟨q6, 0, none⟩) (s.pn + 1) cap6) = V at ao ar aq as_ hB7 ⊢
              have m0 : V.cell? ⟨u1.heap.size, 0, none⟩ = some (.slice (some ⟨q6, 0, none⟩) (s.pn + 1) cap6) := ao.cell 0
              have m1 : V.cell? ⟨u1.heap.size, 1, none⟩ = some (.slice t.sa t.sn t.scap) := ao.cell 1
              have m2 : V.cell? ⟨u1.heap.size, 2, none⟩ = some (.int .i64 t.ac) := ao.cell 2
              have m3 : V.cell? ⟨u1.heap.size, 3, none⟩ = some (.int .i64 t.cl) := ao.cell 3
              clear hHeld SK SKs hV hown4 hgr4 hnil4 hown5 hgr5 hnil5 hown6 hgr6 hnil6 hrow hcur6
              go_wp2_with (refine wpList_store_row rfl 56 (.tmp 4) (.tmp 54) rfl (w.heap.size + 1 + 1) _ (by rfl) (by rfl) _ _ ar (by kernel_rfl) (by rfl) (by simp [Value.oneCell']) ?_)
              (try simp only [Exit.inBlock, Exit.then]); refine bodyPost_ret (results_cell_row rfl _ _ (w.heap.size + 1 + 1) _ _ _ _ rfl (setRow_heap _ _ _ _ _ _ ar) Try.underlying56 rfl (by kernel_rfl)) rfl ?_
              have hq6 := o6.1
              refine ⟨⟨some ⟨q6, 0, none⟩, s.pn + 1, cap6, q6, ins s.pn p s.ps, t.sa, t.sn, t.scap, t.sb, t.ss, t.ac, t.cl⟩, rfl, below_setRow hB7 (by omega) _, ⟨.inr ((aq.setRow (by omega) _).downTo (by omega)), (as_.same (fun h => heap_setRow_ne' _ _ _ _ (by have := (as_.lt h).1; omega)) (by rw [size_setRow']; exact Nat.le_refl _)).down (by omega), fun _ h => (by have := htl2 h; show q6 ≠ t.sb; omega), hc6, hm6, o.sc, o.sm⟩, ⟨by show s.pn + 1 = spN s p; rw [HN.out.1], by show ins s.pn p s.ps = spF s p; rw [HN.out.2, HK.out], al.sn, al.ss, al.ac, al.cl⟩, ⟨rfl, fl.2⟩⟩
            · go_simp
              refine hK.out _ _ (SK _ hAP) (fun hHeld => ?_)
              clear hK
              try simp only [Act.put, List.setIfInBounds_toArray, List.set_cons_zero, List.set_cons_succ]
              refine wpAnyH_ready (rs := [5]) (by kernel_rfl) (by simp) ?_
              refine AllReadyH.cons rfl (fun K hK => ?_) AllReadyH.nil
              refine step_appendE rfl (.tmp 39) (.tmp 43) 53 rfl X.heap.size 31 i0 _ 13 96 Try.underlying53 hi hz0 hz1 hz2 rfl (by decide) (.slice (some ⟨X.heap.size, 0, none⟩) 0 0) 0 [] rfl (oA.alloc _) ⟨s.pb, 0, none⟩ s.pn s.pcap (valsE pcC s.pn s.ps) rfl (by rw [valsE_len pcC_len]) ((((r1X.first hkl).grew pcC_ne hAP)).newsE pcC_len) (pcC_one _ _) (by unfold maxLen; omega) (by omega) hAP.size ?_
              intro v4 w4 hown4 hgr4 hnil4
              have hv4 : v4 ≠ .slice none 0 0 := fun e => by first | exact hnil4 e | (have h9 := (hnil4.1 e).1; simp at h9)
              have hb4 : Below X.heap.size X w4 := hAP.grown hgr4 hAP.size (fun k' hk' => by simp [Value.ownBlock] at hk'; omega)
              (try simp only [Nat.zero_add, List.nil_append] at hown4)
              refine hK.out _ _ (SK _ hb4) (fun hHeld => ?_)
              clear hK
              try simp only [Act.put, List.setIfInBounds_toArray, List.set_cons_zero, List.set_cons_succ]
              refine wpAnyH_ready (rs := [8]) (by kernel_rfl) (by simp) ?_
              refine AllReadyH.cons rfl (fun K hK => ?_) AllReadyH.nil
              refine step_appendE rfl (.tmp 44) (.tmp 46) 53 rfl X.heap.size 31 i0 _ 13 96 Try.underlying53 hi hz0 hz1 hz2 rfl (by decide) v4 s.pn _ rfl hown4 ⟨X.heap.size + 1, 0, none⟩ 1 1 (pcC p) rfl rfl (news_at (hgr4.block (X.heap.size + 1) (by simp) (by simp [Value.ownBlock])) (show BoxP _ (X.heap.size + 1) 31 p from heap_alloc2_new _ _ _)) (by intro u hu; simp only [pcC, List.mem_cons, List.mem_nil_iff, or_false] at hu; rcases hu with rfl | rfl | rfl | rfl | rfl | rfl | rfl | rfl | rfl | rfl | rfl | rfl | rfl <;> rfl) (by unfold maxLen; omega) (by omega) hb4.size ?_
              intro v5 w5 hown5 hgr5 hnil5
              have hv5 : v5 ≠ .slice none 0 0 := fun e => by first | exact hnil5 e | exact hv4 (hnil5.1 e).1
              have hb5 : Below X.heap.size X w5 := hb4.grown hgr5 hb4.size (fun k' hk' => (hown4.lt k' hk').1)
              refine hK.out _ _ (SK _ hb5) (fun hHeld => ?_)
              clear hK
              try simp only [Act.put, List.setIfInBounds_toArray, List.set_cons_zero, List.set_cons_succ]
              refine wpAnyH_ready (rs := [13]) (by kernel_rfl) (by simp) ?_
              refine AllReadyH.cons rfl (fun K hK => ?_) AllReadyH.nil
              refine step_appendE rfl (.tmp 47) (.tmp 51) 53 rfl X.heap.size 31 i0 _ 13 96 Try.underlying53 hi hz0 hz1 hz2 rfl (by decide) v5 (s.pn + 1) _ rfl hown5 ⟨s.pb, s.pn * 13, none⟩ (0) (s.pcap - s.pn) (valsE pcC (0) (fun j => s.ps (s.pn + j))) rfl (by rw [valsE_len pcC_len]) (fun j u hu => by simp [valsE] at hu) (pcC_one _ _) (by unfold maxLen; omega) (by omega) hb5.size ?_
              intro v6 w6 hown6 hgr6 hnil6
              have hv6 : v6 ≠ .slice none 0 0 := fun e => by first | exact hnil6 e | exact hv5 (hnil6.1 e).1
              have hb6 : Below X.heap.size X w6 := hb5.grown hgr6 hb5.size (fun k' hk' => (hown5.lt k' hk').1)
              refine hK.out _ _ (SK _ hb6) (fun hHeld => ?_)
              clear hK
              try simp only [Act.put, List.setIfInBounds_toArray, List.set_cons_zero, List.set_cons_succ]
              have hrow : w6.ownsRow X.heap.size 31 13 v6 (s.pn + 1) (valsE pcC (s.pn + 1) (ins s.pn p s.ps)) := by
                rw [ins_vals hkl, Nat.sub_self]
                have e8 : s.pn + 1 + 0 = s.pn + 1 := by omega
                rw [← e8]
                first | exact hown6 | (simpa [Nat.sub_self, valsE] using hown6)
              obtain ⟨q6, cap6, rfl, hc6, o6⟩ := own_ofE pcC_len hrow hv6
              obtain ⟨cur6, hcur6, hm6⟩ := row_type hrow
              refine wpAnyH_take (i := 14) (v := .pointer (some ⟨u1.heap.size, 0, none⟩)) rfl (by kernel_rfl) (by kernel_rfl) (by kernel_rfl) (fun _ _ _ h => h) (Or.inl ⟨by rfl, fun u hSu => by (try dsimp only at hSu); go_simp⟩) hHeld ?_
              try simp only [Act.put, List.setIfInBounds_toArray, List.set_cons_zero, List.set_cons_succ]
              have zo := xoX.grew hb6
              have zr := x3X.grew hb6
              have oz := oX.grew hb6
              have f0 := zo.froz 0
              have g0 : w6.cell? ⟨u1.heap.size, 0, none⟩ = some (.slice t.pa t.pn t.pcap) := zo.cell 0
              have ao := zo.put 0 (.slice (some ⟨q6, 0, none⟩) (s.pn + 1) cap6)
              have ar := zr.other (q := ⟨u1.heap.size, 0, none⟩) (by simp; omega) (.slice (some ⟨q6, 0, none⟩) (s.pn + 1) cap6)
              have aq := o6.setCell (q := ⟨u1.heap.size, 0, none⟩) (by simp; have := o6.1; omega) (.slice (some ⟨q6, 0, none⟩) (s.pn + 1) cap6)
              have as_ : OwnZ sdC 3 (w6.setCell ⟨u1.heap.size, 0, none⟩ (.slice (some ⟨q6, 0, none⟩) (s.pn + 1) cap6)) W.heap.size t.sb t.sa t.sn t.ss := oz.s.same (fun h => Below.heap_setCell _ _ _ _ (by simp; have := htl2 h; omega)) (by simp [World.setCell])
              have hB7 := (below_app hBX hb6 hBX.size).setCell (p := ⟨u1.heap.size, 0, none⟩) (by simp; omega) (.slice (some ⟨q6, 0, none⟩) (s.pn + 1) cap6)
              refine wpAnyH_ready (rs := [15]) (by kernel_rfl) (by simp) ?_
              refine AllReadyH.cons rfl (fun K hK => ?_) AllReadyH.nil
              go_simp
              refine hK.out _ _ (SKs _ _ hHeld) (fun hHeld => ?_)
              clear hK
              refine wpAnyH_done (by kernel_rfl) ?_ _
              generalize hV : w6.setCell ⟨u1.heap.size, 0, none⟩ (.slice (some ⟨q6, 0, none⟩) (s.pn + 1) cap6) = V at ao ar aq as_ hB7 ⊢
              have m0 : V.cell? ⟨u1.heap.size, 0, none⟩ = some (.slice (some ⟨q6, 0, none⟩) (s.pn + 1) cap6) := ao.cell 0
              have m1 : V.cell? ⟨u1.heap.size, 1, none⟩ = some (.slice t.sa t.sn t.scap) := ao.cell 1
              have m2 : V.cell? ⟨u1.heap.size, 2, none⟩ = some (.int .i64 t.ac) := ao.cell 2
              have m3 : V.cell? ⟨u1.heap.size, 3, none⟩ = some (.int .i64 t.cl) := ao.cell 3
              clear hHeld SK SKs hV hown4 hgr4 hnil4 hown5 hgr5 hnil5 hown6 hgr6 hnil6 hrow hcur6
              go_wp2_with (refine wpList_store_row rfl 56 (.tmp 4) (.tmp 54) rfl (w.heap.size + 1 + 1) _ (by rfl) (by rfl) _ _ ar (by kernel_rfl) (by rfl) (by simp [Value.oneCell']) ?_)
              (try simp only [Exit.inBlock, Exit.then]); refine bodyPost_ret (results_cell_row rfl _ _ (w.heap.size + 1 + 1) _ _ _ _ rfl (setRow_heap _ _ _ _ _ _ ar) Try.underlying56 rfl (by kernel_rfl)) rfl ?_
              have hq6 := o6.1
              refine ⟨⟨some ⟨q6, 0, none⟩, s.pn + 1, cap6, q6, ins s.pn p s.ps, t.sa, t.sn, t.scap, t.sb, t.ss, t.ac, t.cl⟩, rfl, below_setRow hB7 (by omega) _, ⟨.inr ((aq.setRow (by omega) _).downTo (by omega)), (as_.same (fun h => heap_setRow_ne' _ _ _ _ (by have := (as_.lt h).1; omega)) (by rw [size_setRow']; exact Nat.le_refl _)).down (by omega), fun _ h => (by have := htl2 h; show q6 ≠ t.sb; omega), hc6, hm6, o.sc, o.sm⟩, ⟨by show s.pn + 1 = spN s p; rw [HN.out.1], by show ins s.pn p s.ps = spF s p; rw [HN.out.2, HK.out], al.sn, al.ss, al.ac, al.cl⟩, ⟨rfl, fl.2⟩⟩
          · go_simp
            refine hK.out _ _ (SK _ hP) (fun hHeld => ?_)
            clear hK
            try simp only [Act.put, List.setIfInBounds_toArray, List.set_cons_zero, List.set_cons_succ]
            refine wpAnyH_ready (rs := [0]) (by kernel_rfl) (by simp) ?_
            refine AllReadyH.cons rfl (fun K hK => ?_) AllReadyH.nil
            go_simp
            refine hK.out _ _ (SK _ hPA) (fun hHeld => ?_)
            clear hK
            try simp only [Act.put, List.setIfInBounds_toArray, List.set_cons_zero, List.set_cons_succ]
            refine wpAnyH_ready (rs := [5]) (by kernel_rfl) (by simp) ?_
            refine AllReadyH.cons rfl (fun K hK => ?_) AllReadyH.nil
            refine step_appendE rfl (.tmp 39) (.tmp 43) 53 rfl X.heap.size 31 i0 _ 13 96 Try.underlying53 hi hz0 hz1 hz2 rfl (by decide) (.slice (some ⟨X.heap.size + 1, 0, none⟩) 0 0) 0 [] rfl oPA ⟨s.pb, 0, none⟩ s.pn s.pcap (valsE pcC s.pn s.ps) rfl (by rw [valsE_len pcC_len]) ((((r1X.first hkl).grew pcC_ne hPA)).newsE pcC_len) (pcC_one _ _) (by unfold maxLen; omega) (by omega) hPA.size ?_
            intro v4 w4 hown4 hgr4 hnil4
            have hv4 : v4 ≠ .slice none 0 0 := fun e => by first | exact hnil4 e | (have h9 := (hnil4.1 e).1; simp at h9)
            have hb4 : Below X.heap.size X w4 := hPA.grown hgr4 hPA.size (fun k' hk' => by simp [Value.ownBlock] at hk'; omega)
            (try simp only [Nat.zero_add, List.nil_append] at hown4)
            refine hK.out _ _ (SK _ hb4) (fun hHeld => ?_)
            clear hK
            try simp only [Act.put, List.setIfInBounds_toArray, List.set_cons_zero, List.set_cons_succ]
            refine wpAnyH_ready (rs := [8]) (by kernel_rfl) (by simp) ?_
            refine AllReadyH.cons rfl (fun K hK => ?_) AllReadyH.nil
            refine step_appendE rfl (.tmp 44) (.tmp 46) 53 rfl X.heap.size 31 i0 _ 13 96 Try.underlying53 hi hz0 hz1 hz2 rfl (by decide) v4 s.pn _ rfl hown4 ⟨X.heap.size, 0, none⟩ 1 1 (pcC p) rfl rfl (news_at (hgr4.block X.heap.size (by simp; omega) (by simp [Value.ownBlock])) ((show BoxP (X.drew.alloc (.cells #[.int .i64 p.id, .int .i64 p.ow, .int .i64 p.si, .int .i64 p.zo, .int .i64 p.st, .int .i64 p.po, .int .i64 p.to, .int .i64 p.tr, .int .i64 p.pl, .int .i64 p.mi, .int .i64 p.ma, .bool p.de, .bool p.be] 31)) X.heap.size 31 p from box_new X.drew 31 p).alloc _)) (by intro u hu; simp only [pcC, List.mem_cons, List.mem_nil_iff, or_false] at hu; rcases hu with rfl | rfl | rfl | rfl | rfl | rfl | rfl | rfl | rfl | rfl | rfl | rfl | rfl <;> rfl) (by unfold maxLen; omega) (by omega) hb4.size ?_
            intro v5 w5 hown5 hgr5 hnil5
            have hv5 : v5 ≠ .slice none 0 0 := fun e => by first | exact hnil5 e | exact hv4 (hnil5.1 e).1
            have hb5 : Below X.heap.size X w5 := hb4.grown hgr5 hb4.size (fun k' hk' => (hown4.lt k' hk').1)
            refine hK.out _ _ (SK _ hb5) (fun hHeld => ?_)
            clear hK
            try simp only [Act.put, List.setIfInBounds_toArray, List.set_cons_zero, List.set_cons_succ]
            refine wpAnyH_ready (rs := [13]) (by kernel_rfl) (by simp) ?_
            refine AllReadyH.cons rfl (fun K hK => ?_) AllReadyH.nil
            refine step_appendE rfl (.tmp 47) (.tmp 51) 53 rfl X.heap.size 31 i0 _ 13 96 Try.underlying53 hi hz0 hz1 hz2 rfl (by decide) v5 (s.pn + 1) _ rfl hown5 ⟨s.pb, s.pn * 13, none⟩ (0) (s.pcap - s.pn) (valsE pcC (0) (fun j => s.ps (s.pn + j))) rfl (by rw [valsE_len pcC_len]) (fun j u hu => by simp [valsE] at hu) (pcC_one _ _) (by unfold maxLen; omega) (by omega) hb5.size ?_
            intro v6 w6 hown6 hgr6 hnil6
            have hv6 : v6 ≠ .slice none 0 0 := fun e => by first | exact hnil6 e | exact hv5 (hnil6.1 e).1
            have hb6 : Below X.heap.size X w6 := hb5.grown hgr6 hb5.size (fun k' hk' => (hown5.lt k' hk').1)
            refine hK.out _ _ (SK _ hb6) (fun hHeld => ?_)
            clear hK
            try simp only [Act.put, List.setIfInBounds_toArray, List.set_cons_zero, List.set_cons_succ]
            have hrow : w6.ownsRow X.heap.size 31 13 v6 (s.pn + 1) (valsE pcC (s.pn + 1) (ins s.pn p s.ps)) := by
              rw [ins_vals hkl, Nat.sub_self]
              have e8 : s.pn + 1 + 0 = s.pn + 1 := by omega
              rw [← e8]
              first | exact hown6 | (simpa [Nat.sub_self, valsE] using hown6)
            obtain ⟨q6, cap6, rfl, hc6, o6⟩ := own_ofE pcC_len hrow hv6
            obtain ⟨cur6, hcur6, hm6⟩ := row_type hrow
            refine wpAnyH_take (i := 14) (v := .pointer (some ⟨u1.heap.size, 0, none⟩)) rfl (by kernel_rfl) (by kernel_rfl) (by kernel_rfl) (fun _ _ _ h => h) (Or.inl ⟨by rfl, fun u hSu => by (try dsimp only at hSu); go_simp⟩) hHeld ?_
            try simp only [Act.put, List.setIfInBounds_toArray, List.set_cons_zero, List.set_cons_succ]
            have zo := xoX.grew hb6
            have zr := x3X.grew hb6
            have oz := oX.grew hb6
            have f0 := zo.froz 0
            have g0 : w6.cell? ⟨u1.heap.size, 0, none⟩ = some (.slice t.pa t.pn t.pcap) := zo.cell 0
            have ao := zo.put 0 (.slice (some ⟨q6, 0, none⟩) (s.pn + 1) cap6)
            have ar := zr.other (q := ⟨u1.heap.size, 0, none⟩) (by simp; omega) (.slice (some ⟨q6, 0, none⟩) (s.pn + 1) cap6)
            have aq := o6.setCell (q := ⟨u1.heap.size, 0, none⟩) (by simp; have := o6.1; omega) (.slice (some ⟨q6, 0, none⟩) (s.pn + 1) cap6)
            have as_ : OwnZ sdC 3 (w6.setCell ⟨u1.heap.size, 0, none⟩ (.slice (some ⟨q6, 0, none⟩) (s.pn + 1) cap6)) W.heap.size t.sb t.sa t.sn t.ss := oz.s.same (fun h => Below.heap_setCell _ _ _ _ (by simp; have := htl2 h; omega)) (by simp [World.setCell])
            have hB7 := (below_app hBX hb6 hBX.size).setCell (p := ⟨u1.heap.size, 0, none⟩) (by simp; omega) (.slice (some ⟨q6, 0, none⟩) (s.pn + 1) cap6)
            refine wpAnyH_ready (rs := [15]) (by kernel_rfl) (by simp) ?_
            refine AllReadyH.cons rfl (fun K hK => ?_) AllReadyH.nil
            go_simp
            refine hK.out _ _ (SKs _ _ hHeld) (fun hHeld => ?_)
            clear hK
            refine wpAnyH_done (by kernel_rfl) ?_ _
            generalize hV : w6.setCell ⟨u1.heap.size, 0, none⟩ (.slice (some ⟨q6, 0, none⟩) (s.pn + 1) cap6) = V at ao ar aq as_ hB7 ⊢
            have m0 : V.cell? ⟨u1.heap.size, 0, none⟩ = some (.slice (some ⟨q6, 0, none⟩) (s.pn + 1) cap6) := ao.cell 0
            have m1 : V.cell? ⟨u1.heap.size, 1, none⟩ = some (.slice t.sa t.sn t.scap) := ao.cell 1
            have m2 : V.cell? ⟨u1.heap.size, 2, none⟩ = some (.int .i64 t.ac) := ao.cell 2
            have m3 : V.cell? ⟨u1.heap.size, 3, none⟩ = some (.int .i64 t.cl) := ao.cell 3
            clear hHeld SK SKs hV hown4 hgr4 hnil4 hown5 hgr5 hnil5 hown6 hgr6 hnil6 hrow hcur6
            go_wp2_with (refine wpList_store_row rfl 56 (.tmp 4) (.tmp 54) rfl (w.heap.size + 1 + 1) _ (by rfl) (by rfl) _ _ ar (by kernel_rfl) (by rfl) (by simp [Value.oneCell']) ?_)
            (try simp only [Exit.inBlock, Exit.then]); refine bodyPost_ret (results_cell_row rfl _ _ (w.heap.size + 1 + 1) _ _ _ _ rfl (setRow_heap _ _ _ _ _ _ ar) Try.underlying56 rfl (by kernel_rfl)) rfl ?_
            have hq6 := o6.1
            refine ⟨⟨some ⟨q6, 0, none⟩, s.pn + 1, cap6, q6, ins s.pn p s.ps, t.sa, t.sn, t.scap, t.sb, t.ss, t.ac, t.cl⟩, rfl, below_setRow hB7 (by omega) _, ⟨.inr ((aq.setRow (by omega) _).downTo (by omega)), (as_.same (fun h => heap_setRow_ne' _ _ _ _ (by have := (as_.lt h).1; omega)) (by rw [size_setRow']; exact Nat.le_refl _)).down (by omega), fun _ h => (by have := htl2 h; show q6 ≠ t.sb; omega), hc6, hm6, o.sc, o.sm⟩, ⟨by show s.pn + 1 = spN s p; rw [HN.out.1], by show ins s.pn p s.ps = spF s p; rw [HN.out.2, HK.out], al.sn, al.ss, al.ac, al.cl⟩, ⟨rfl, fl.2⟩⟩
end Go.Proofs.Ytnlnledijpcjpab
