/-
  Chapter 5: the specification's l5Get. Written by tools/stgets.gen.py. Own work.
-/
import Derived.Test.YtnlnledijpcjpabStGetM
import Derived.Test.YtnlnledijpcjpabStRow
import Derived.Test.YtnlnledijpcjpabPiece6
import Derived.Test.YtnlnledijpcjpabStNew
import Derived.Deep.RegionHeld
namespace Go.Proofs.Ytnlnledijpcjpab
open Go.ChangeShapes Go.WideShapes Go.ChangeAt Go.RowKit
set_option maxRecDepth 100000
set_option linter.unusedVariables false
set_option linter.unusedSimpArgs false
theorem step_appendE' {P : Program} {ops : Array Oper} {o : Oper} {a : Act} {w : World} {K : Act → World → Prop} {Q : Exit → Act → World → Prop} {E : Prop} (hgd : o.guard = none) (s x : Operand) (t : TypeId)
    (ho : o.op = .call { callee := .builtin .append, args := #[s, x], argTypes := #[t, t] })
    (base : Nat) (e : TypeId) (i : TypeInfo) (z : Value) (size bytes : Nat) (ht : P.underlying t = some (.slice e)) (hi : P.info? e = some i) (hz : i.zero = some z)
    (hsize : i.size = size) (hby : i.bytes = bytes) (hzs : z.cells.size = size) (hsz : 0 < size)
    (v : Value) (n : Nat) (xs : List Value) (hs : a.eval s = v) (hown : w.ownsRow base e size v n xs)
    (ad : Addr) (m c : Nat) (news : List Value) (hx : a.eval x = .slice (some ad) m c) (hl : news.length = m * size) (hnews : ∀ j u, news[j]? = some u → w.cell? (ad.add j) = some u) (h1 : ∀ u ∈ news, u.oneCell' = true)
    (h63 : n + m ≤ maxLen) (hbytes : (n + m) * bytes ≤ 140737488355328) (hbase : base ≤ w.heap.size)
    (h : ∀ v' w', w'.ownsRow base e size v' (n + m) (xs ++ news) → w.grownBy w' v.ownBlock → (v' = .slice none 0 0 ↔ v = .slice none 0 0 ∧ m = 0) → K (a.put o.dst v') w') : if Region.wanted o (yielded ops a.tmps) = true then Oper.wp P o a w K Q else E := by
  have hw : Region.wanted o (yielded ops a.tmps) = true := by simp [Region.wanted, hgd]
  rw [if_pos hw]
  exact wp_append_own w s x t ho base e i z size bytes ht hi hz hsize hby hzs hsz v n xs hs hown ad m c news hx hl hnews h1 h63 hbytes hbase h
def gsQ (n : Nat) (f : Nat → Int) : Bool := gsP n f && gsF n f && okS (gsR n f)
def GetPost (n : Nat) (f : Nat → Int) (w : World) (e : Ending) (w' : World) : Prop :=
  ∃ (t : Stt) (x : Int), e = .returned (.tuple #[(.agg #[.slice t.pa t.pn t.pcap, .slice t.sa t.sn t.scap, .int .i64 t.ac, .int .i64 t.cl]), .int .i64 x]) ∧ Below w.heap.size w w' ∧ ((gsQ n f = true ∧ x = gsK n f + 4 + 4 * ((3 * gcN n f (gsK n f) + 2 : Nat) : Int) ∧ OwnT w' w.heap.size t ∧ Alike t (gsR n f)) ∨ (gsQ n f = false ∧ x = -1))
theorem gsQ_c0 {n : Nat} {f : Nat → Int} (h : gcOk n f 0 0 8 = false) : gsQ n f = false := by unfold gsQ gsP gqOk; rw [h]; rfl
theorem gsQ_ps {n : Nat} {f : Nat → Int} {k : Nat} (hk : k < gcN n f 0) (h : gpOk n f (gqA 0 k) = false) : gsQ n f = false := by unfold gsQ gsP gqOk; rw [allg_no hk (f := fun i => gpOk n f (gqA 0 i)) h]; simp
theorem gsQ_c1 {n : Nat} {f : Nat → Int} (h : gcOk n f (gsK n f) 2 3 = false) : gsQ n f = false := by unfold gsQ gsP gtOk; rw [h]; simp
theorem gsQ_la {n : Nat} {f : Nat → Int} (h : gnOkK (3 * gcN n f (gsK n f) + 2) n f (gsK n f + 4) = false) : gsQ n f = false := by
  rw [gs_la] at h
  unfold gsQ gsP gtOk
  rw [← Bool.and_assoc, Bool.and_assoc (gqOk n f 0 && gcOk n f (gsK n f) 2 3), h]
  simp
theorem gsQ_fl {n : Nat} {f : Nat → Int} {k : Nat} (hk : k < gcN n f (gsK n f)) (h : ib (gnL n f (gtA (gsK n f) k) 2) 0 1 = false) : gsQ n f = false := by unfold gsQ gsF; rw [allg_no hk (f := fun i => ib (gnL n f (gtA (gsK n f) i) 2) 0 1) h]; simp
theorem gsQ_ok {n : Nat} {f : Nat → Int} (h : okS (gsR n f) = false) : gsQ n f = false := by unfold gsQ; rw [h]; simp
theorem gsQ_yes {n : Nat} {f : Nat → Int} (h0 : gcOk n f 0 0 8 = true) (h1 : ∀ k, k < gcN n f 0 → gpOk n f (gqA 0 k) = true) (h2 : gcOk n f (gsK n f) 2 3 = true) (h3 : gnOkK (3 * gcN n f (gsK n f) + 2) n f (gsK n f + 4) = true) (h4 : ∀ k, k < gcN n f (gsK n f) → ib (gnL n f (gtA (gsK n f) k) 2) 0 1 = true) (h5 : okS (gsR n f) = true) : gsQ n f = true := by
  rw [gs_la, Bool.and_eq_true] at h3
  unfold gsQ gsP gqOk gtOk gsF
  rw [h0, allg_yes (f := fun i => gpOk n f (gqA 0 i)) h1, h2, h3.1, h3.2, allg_yes (f := fun i => ib (gnL n f (gtA (gsK n f) i) 2) 0 1) h4, h5]
  rfl
theorem gnum_rng {n : Nat} {f : Nat → Int} (hu : U8 n f) (x : Int) : -2147483648 ≤ gnum n f x ∧ gnum n f x ≤ 2147483647 := by
  unfold gnum
  split
  · rename_i h
    have hr := gok_rng' h
    have := part_bd4 hu (show x.toNat + 4 ≤ n by omega)
    unfold num4
    omega
  · omega
theorem gnL_wf {n : Nat} {f : Nat → Int} (hu : U8 n f) (x : Int) (j : Nat) : (Lit.int .i64 (gnL n f x j)).wf = true := by
  have := gnum_rng hu (x + 4 * (j : Int))
  unfold gnL
  generalize gnum n f (x + 4 * (j : Int)) = y at this
  have e1 : IntKind.min .i64 = -9223372036854775808 := by decide
  have e2 : IntKind.max .i64 = 9223372036854775807 := by decide
  simp only [Lit.wf, e1, e2, Bool.and_eq_true, decide_eq_true_eq]
  omega
theorem rawP_wf {n : Nat} {f : Nat → Int} (hu : U8 n f) (x : Int) : (rawP n f x).wf := by
  intro y hy
  simp only [rawP, List.mem_cons, List.not_mem_nil, or_false] at hy
  rcases hy with rfl | rfl | rfl | rfl | rfl | rfl | rfl | rfl | rfl | rfl | rfl <;> exact gnL_wf hu _ _
theorem gtF_wf {n : Nat} {f : Nat → Int} (hu : U8 n f) (x : Int) (i : Nat) : (gtF n f x i).wf := by
  exact ⟨gnL_wf hu _ _, gnL_wf hu _ _⟩
theorem ownT_setRow {w : World} {B g : Nat} {t : Stt} (h : OwnT w B t) (a : Away g t) (cs : Array Value) : OwnT (w.setRow g cs) B t := by
  have e : ∀ q, g ≠ q → (w.setRow g cs).heap[q]? = w.heap[q]? := fun q hq => by
    unfold World.setRow
    simp only [Array.getElem?_modify]
    rw [if_neg hq]
  exact ⟨h.p.same (fun hn => e _ (a.1 hn)) (by simp [World.setRow]), h.s.same (fun hn => e _ (a.2 hn)) (by simp [World.setRow]), h.ne, h.pc, h.pm, h.sc, h.sm⟩
def zD : Nat → Sd := fun _ => ⟨0, 0, false⟩
theorem gqA_int (k : Nat) (hk : k ≤ 8) : 0 ≤ gqA 0 k ∧ gqA 0 k ≤ 1000 := by unfold gqA; omega
set_option maxHeartbeats 2000000 in
theorem l5Get_any (a : Option Addr) (b n c : Nat) (f : Nat → Int) (w : World) (hn : n ≤ 100000000) (hu : U8 n f) (h : Rd .u8 w b a n f) :
    Calls Try.prog 113 #[.slice a n c, .int .i64 0] w fun e w' => GetPost n f w e w' := by
  obtain ⟨i0, hi, hz0, hz1, hz2⟩ := info_parts Try.infoPc
  obtain ⟨j0, hj, hy0, hy1, hy2⟩ := info_parts Try.infoSd
  have hb0 := ((Below.refl _ w).alloc (Nat.le_refl _) (.cells #[.slice none 0 0, .slice none 0 0, .int .i64 0, .int .i64 0] 56)).alloc (by simp) (.cells #[.slice none 0 0, .slice none 0 0, .int .i64 0, .int .i64 0] 56)
  have xr := (boxR_new w 56 #[.slice none 0 0, .slice none 0 0, .int .i64 0, .int .i64 0]).alloc (.cells #[.slice none 0 0, .slice none 0 0, .int .i64 0, .int .i64 0] 56)
  have xg : BoxR ((w.alloc (.cells #[.slice none 0 0, .slice none 0 0, .int .i64 0, .int .i64 0] 56)).alloc (.cells #[.slice none 0 0, .slice none 0 0, .int .i64 0, .int .i64 0] 56)) (w.heap.size + 1) 56 #[.slice none 0 0, .slice none 0 0, .int .i64 0, .int .i64 0] := heap_alloc2_new _ _ _
  go_enter Try.func113, Try.ntmps113
  go_wp2_with fail
  generalize (w.alloc (.cells #[.slice none 0 0, .slice none 0 0, .int .i64 0, .int .i64 0] 56)).alloc (.cells #[.slice none 0 0, .slice none 0 0, .int .i64 0, .int .i64 0] 56) = W at hb0 xr xg ⊢
  refine (specGetNum_any a b n c 0 f _ (by omega) hu (h.grew hb0)).mono ?_
  rintro e w1 ⟨rfl, hb1⟩
  have hB1 := below_app hb0 hb1 hb0.size
  replace xr := xr.grew hb1
  replace xg := xg.grew hb1
  have c0 : w1.cell? ⟨w.heap.size + 1, 0, none⟩ = some (.slice none 0 0) := xg.cell 0
  have c1 : w1.cell? ⟨w.heap.size + 1, 1, none⟩ = some (.slice none 0 0) := xg.cell 1
  have c2 : w1.cell? ⟨w.heap.size + 1, 2, none⟩ = some (.int .i64 0) := xg.cell 2
  have c3 : w1.cell? ⟨w.heap.size + 1, 3, none⟩ = some (.int .i64 0) := xg.cell 3
  clear hb0 hb1
  cases hg : gok n f 0 with
  | false =>
    have HN : Hid (gsQ n f = false) := gsQ_c0 (by unfold gcOk; rw [hg]; rfl)
    go_wp2_with (refine wpList_store_row rfl 56 (.tmp 4) _ rfl w.heap.size _ (by rfl) (by rfl) _ _ xr (by kernel_rfl) (by rfl) (by simp [Value.oneCell']) ?_)
    (try simp only [Exit.inBlock, Exit.then]); refine bodyPost_ret (results_rowC rfl _ _ w.heap.size _ _ _ _ rfl (setRow_heap _ _ _ _ _ _ xr) Try.underlying56 rfl (by kernel_rfl)) rfl ?_
    exact ⟨⟨none, 0, 0, 0, zF, none, 0, 0, 0, zD, 0, 0⟩, -1, rfl, below_setRow hB1 (Nat.le_refl _) _, .inr ⟨HN.out, rfl⟩⟩
  | true =>
  have hnx := gnext_ok' hg
  rw [hnx]
  cases hc : ib (gnum n f 0) 0 8 with
  | false =>
    have HN : Hid (gsQ n f = false) := gsQ_c0 (by unfold gcOk; rw [hc]; simp)
    go_wp2_with (first | (go_at_call 83; refine (l1In_any _ _ _ _).mono ?_; rintro e w9 ⟨rfl, hw9⟩; rw [hw9]; clear hw9 w9) | (refine wpList_store_row rfl 56 (.tmp 4) _ rfl w.heap.size _ (by rfl) (by rfl) _ _ xr (by kernel_rfl) (by rfl) (by simp [Value.oneCell']) ?_))
    (try simp only [Exit.inBlock, Exit.then]); refine bodyPost_ret (results_rowC rfl _ _ w.heap.size _ _ _ _ rfl (setRow_heap _ _ _ _ _ _ xr) Try.underlying56 rfl (by kernel_rfl)) rfl ?_
    exact ⟨⟨none, 0, 0, 0, zF, none, 0, 0, 0, zD, 0, 0⟩, -1, rfl, below_setRow hB1 (Nat.le_refl _) _, .inr ⟨HN.out, rfl⟩⟩
  | true =>
  have hcb : 0 ≤ gnum n f 0 ∧ gnum n f 0 ≤ 8 := by unfold ib at hc; simpa using hc
  have HC0 : Hid (gcOk n f 0 0 8 = true) := by show gcOk n f 0 0 8 = true; unfold gcOk; rw [hg, hc]; rfl
  obtain ⟨N, hN⟩ : ∃ N : Nat, gcN n f 0 = N := ⟨_, rfl⟩
  have hNi : gnum n f 0 = (N : Int) := by unfold gcN at hN; omega
  have hN8 : N ≤ 8 := by omega
  have HN0 : Hid (gcN n f 0 = N) := hN
  have HK : Hid (gsK n f = gqA 0 N) := by show gsK n f = gqA 0 N; unfold gsK; rw [hN]
  clear hN
  rw [hNi]
  rw [hNi] at hc
  clear hg hnx hNi hcb c0 c1 c2 c3
  have H0 : w1.ownsRow w.heap.size 31 13 (.slice none 0 0) 0 (valsE pcC 0 (gqF n f 0)) := World.ownsRow_nil _ _ _ _
  go_wp2_with (go_at_call 83; refine (l1In_any _ _ _ _).mono ?_; rintro e w9 ⟨rfl, hw9⟩; rw [hw9]; clear hw9 w9)
  go_loopw [8, 10] (fun x i wr => ∃ k : Nat, k ≤ N ∧ i = .int .i64 k ∧ x = .int .i64 (gqA 0 k) ∧ Below w.heap.size w wr ∧ BoxR wr w.heap.size 56 #[.slice none 0 0, .slice none 0 0, .int .i64 0, .int .i64 0] ∧ Hid (∀ j, j < k → gpOk n f (gqA 0 j) = true) ∧ ∃ (pa : Option Addr) (pcap : Nat), BoxR wr (w.heap.size + 1) 56 #[.slice pa k pcap, .slice none 0 0, .int .i64 0, .int .i64 0] ∧ wr.ownsRow w.heap.size 31 13 (.slice pa k pcap) k (valsE pcC k (gqF n f 0))) (fun _ i _ => N - (intOf i).toNat)
  case atStart => exact ⟨0, Nat.zero_le _, rfl, by simp [gqA], hB1, xr, fun j hj => by omega, none, 0, xg, H0⟩
  case round =>
    clear hB1 xr xg H0 hc
    obtain ⟨k, hk, rfl, rfl, hb, xr, hall, pa, pcap, xg, hown⟩ := hrel
    have c0 : wr.cell? ⟨w.heap.size + 1, 0, none⟩ = some (.slice pa k pcap) := xg.cell 0
    have c1 : wr.cell? ⟨w.heap.size + 1, 1, none⟩ = some (.slice none 0 0) := xg.cell 1
    have c2 : wr.cell? ⟨w.heap.size + 1, 2, none⟩ = some (.int .i64 0) := xg.cell 2
    have c3 : wr.cell? ⟨w.heap.size + 1, 3, none⟩ = some (.int .i64 0) := xg.cell 3
    have hyr := gqA_int k (by omega)
    by_cases hlt : k < N
    · obtain ⟨y, hy⟩ : ∃ y, gqA 0 k = y := ⟨_, rfl⟩
      rw [hy] at hyr ⊢
      go_wp2_with fail
      refine (specGetPiece_any a b n c y f _ hn hu (h.grew hb)).mono ?_
      rintro e w2 ⟨rfl, hb2⟩
      have hB2 := below_app hb hb2 hb.size
      clear c0 c1 c2 c3
      cases hp : gpOk n f y with
      | false =>
        have HN : Hid (gsQ n f = false) := gsQ_ps (k := k) (by rw [HN0.out]; exact hlt) (by rw [hy]; exact hp)
        generalize gpP n f y = p
        generalize gpX n f y = z
        have hbV := below_new2' w2 (.cells #[.int .i64 p.id, .int .i64 p.ow, .int .i64 p.si, .int .i64 p.zo, .int .i64 p.st, .int .i64 p.po, .int .i64 p.to, .int .i64 p.tr, .int .i64 p.pl, .int .i64 p.mi, .int .i64 p.ma, .bool p.de, .bool p.be] 31)
        generalize hV : w2.alloc (.cells #[.int .i64 p.id, .int .i64 p.ow, .int .i64 p.si, .int .i64 p.zo, .int .i64 p.st, .int .i64 p.po, .int .i64 p.to, .int .i64 p.tr, .int .i64 p.pl, .int .i64 p.mi, .int .i64 p.ma, .bool p.de, .bool p.be] 31) = V at hbV
        have hBV := below_app hB2 hbV hB2.size
        have xrV := (xr.grew hb2).grew hbV
        have xgV := (xg.grew hb2).grew hbV
        have c0 : V.cell? ⟨w.heap.size + 1, 0, none⟩ = some (.slice pa k pcap) := xgV.cell 0
        have c1 : V.cell? ⟨w.heap.size + 1, 1, none⟩ = some (.slice none 0 0) := xgV.cell 1
        have c2 : V.cell? ⟨w.heap.size + 1, 2, none⟩ = some (.int .i64 0) := xgV.cell 2
        have c3 : V.cell? ⟨w.heap.size + 1, 3, none⟩ = some (.int .i64 0) := xgV.cell 3
        clear hall hown hp hy
        go_wp2_with (refine wpList_store_row rfl 56 (.tmp 4) _ rfl w.heap.size _ (by rfl) (by rfl) _ _ xrV (by kernel_rfl) (by rfl) (by simp [Value.oneCell']) ?_)
        (try simp only [Exit.inBlock, Exit.then]); refine bodyPost_ret (results_rowC rfl _ _ w.heap.size _ _ _ _ rfl (setRow_heap _ _ _ _ _ _ xrV) Try.underlying56 rfl (by kernel_rfl)) rfl ?_
        exact ⟨⟨pa, k, pcap, 0, zF, none, 0, 0, 0, zD, 0, 0⟩, -1, rfl, below_setRow hBV (Nat.le_refl _) _, .inr ⟨HN.out, rfl⟩⟩
      | true =>
        have HA : Hid (∀ j, j < k + 1 → gpOk n f (gqA 0 j) = true) := fun j hj => by
          by_cases e : j = k
          · subst e; rw [hy]; exact hp
          · exact hall.out j (by omega)
        have HY : Hid (y + 52 = gqA 0 (k + 1)) := show _ = _ by rw [← hy]; unfold gqA; push_cast; omega
        have e1 : gpP n f y = rawP n f y := by unfold gpP; rw [if_pos hp]
        have e2 : gpX n f y = y + 52 := by unfold gpX; rw [if_pos hp]
        rw [e1, e2]
        have HV : Hid (valsE pcC (k + 1) (gqF n f 0) = valsE pcC k (gqF n f 0) ++ pcC (rawP n f y)) := by show _ = _; rw [valsE_snoc]; unfold gqF; rw [hy]
        generalize rawP n f y = p at HV
        have bV := box_new w2 31 p
        have hbV := below_new2' w2 (.cells #[.int .i64 p.id, .int .i64 p.ow, .int .i64 p.si, .int .i64 p.zo, .int .i64 p.st, .int .i64 p.po, .int .i64 p.to, .int .i64 p.tr, .int .i64 p.pl, .int .i64 p.mi, .int .i64 p.ma, .bool p.de, .bool p.be] 31)
        generalize hV : w2.alloc (.cells #[.int .i64 p.id, .int .i64 p.ow, .int .i64 p.si, .int .i64 p.zo, .int .i64 p.st, .int .i64 p.po, .int .i64 p.to, .int .i64 p.tr, .int .i64 p.pl, .int .i64 p.mi, .int .i64 p.ma, .bool p.de, .bool p.be] 31) = V at bV hbV
        have hBV := below_app hB2 hbV hB2.size
        have xrV := (xr.grew hb2).grew hbV
        have xgV := (xg.grew hb2).grew hbV
        have hownV := row_grewE (row_grewE hown hb2) hbV
        obtain ⟨k0, k1, k2, k3, k4, k5, k6, k7, k8, k9, k10, k11, k12⟩ : Cells13 _ _ _ := bV.cells
        have c0 : V.cell? ⟨w.heap.size + 1, 0, none⟩ = some (.slice pa k pcap) := xgV.cell 0
        clear hall hy hp hown xr xg hb hb2 e1 e2 hB2 hbV
        have hown2 := hownV.alloc (.cells #[.int .i64 p.id, .int .i64 p.ow, .int .i64 p.si, .int .i64 p.zo, .int .i64 p.st, .int .i64 p.po, .int .i64 p.to, .int .i64 p.tr, .int .i64 p.pl, .int .i64 p.mi, .int .i64 p.ma, .bool p.de, .bool p.be] 31)
        have hnews := cells_new V (pcC p) 31
        have hbS := hBV.alloc hBV.size (.cells #[.int .i64 p.id, .int .i64 p.ow, .int .i64 p.si, .int .i64 p.zo, .int .i64 p.st, .int .i64 p.po, .int .i64 p.to, .int .i64 p.tr, .int .i64 p.pl, .int .i64 p.mi, .int .i64 p.ma, .bool p.de, .bool p.be] 31)
        go_wp2_with (at_builtin; refine wpList_append_own _ rfl (.tmp 53) (.tmp 55) 53 rfl w.heap.size 31 i0 _ 13 96 Try.underlying53 hi hz0 hz1 hz2 rfl (by decide) _ _ _ rfl hown2 ⟨V.heap.size, 0, none⟩ 1 1 (pcC p) rfl rfl hnews (by intro u hu; exact pcC_one 1 (fun _ => p) u (by simpa [valsE] using hu)) (by unfold maxLen; omega) (by omega) hbS.size ?_)
        intro v4 w4 hown4 hgr4 hnil4
        have hb4 : Below w.heap.size w w4 := hbS.grown hgr4 hbS.size (fun q hq => (hownV.lt q hq).1)
        have n1 := own_ne hownV xrV (by decide)
        have n2 := own_ne hownV xgV (by decide)
        have xr4 : BoxR w4 w.heap.size 56 #[.slice none 0 0, .slice none 0 0, .int .i64 0, .int .i64 0] := (hgr4.block _ (xrV.alloc _).lt n1).trans (xrV.alloc _)
        have xg4 : BoxR w4 (w.heap.size + 1) 56 #[.slice pa k pcap, .slice none 0 0, .int .i64 0, .int .i64 0] := (hgr4.block _ (xgV.alloc _).lt n2).trans (xgV.alloc _)
        rw [← HV.out] at hown4
        obtain ⟨pa4, cap4, rfl, _⟩ := row_form hown4
        have n4 := own_ne hown4 xg4 (by decide)
        have f0 := xg4.froz 0
        have g0 : w4.cell? ⟨w.heap.size + 1, 0, none⟩ = some (.slice pa k pcap) := xg4.cell 0
        have xg5 := xg4.put 0 (.slice pa4 (k + 1) cap4)
        have xr5 := xr4.other (q := ⟨w.heap.size + 1, 0, none⟩) (by simp) (.slice pa4 (k + 1) cap4)
        have hown5 := row_set (j := 0) hown4 n4 (.slice pa4 (k + 1) cap4)
        have hb5 := hb4.setCell (p := ⟨w.heap.size + 1, 0, none⟩) (by simp) (.slice pa4 (k + 1) cap4)
        generalize hU : w4.setCell ⟨w.heap.size + 1, 0, none⟩ (.slice pa4 (k + 1) cap4) = U at xg5 xr5 hown5 hb5
        clear hown4 hgr4 hnil4 hown2 hownV hnews hbS xrV xgV xr4 xg4 hb4 n1 n2 n4 k0 k1 k2 k3 k4 k5 k6 k7 k8 k9 k10 k11 k12 c0 bV hV
        go_wp2
        go_roundw
        case rel => first | exact ⟨k + 1, by omega, by go_num, by rw [HY.out], hb5, xr5, HA, pa4, cap4, xg5, hown5⟩ | ((repeat apply Exists.intro); exact ⟨⟨k + 1, by omega, by go_num, by rw [HY.out], hb5, xr5, HA, pa4, cap4, xg5, hown5⟩, rfl⟩)
        case measure => simp [intOf]; omega
    · obtain rfl : k = N := by omega
      obtain ⟨K, hK⟩ : ∃ K, gsK n f = K := ⟨_, rfl⟩
      have hKi : gqA 0 k = K := by rw [← HK.out]; exact hK
      have HKK : Hid (gsK n f = K) := hK
      rw [hKi] at hyr ⊢
      clear hK hKi HK c0 c1 c2 c3
      go_wp2_with fail
      refine (specGetNum_any a b n c K f _ (by omega) hu (h.grew hb)).mono ?_
      rintro e w2 ⟨rfl, hb2⟩
      have hB2 := below_app hb hb2 hb.size
      replace xr := xr.grew hb2
      replace xg := xg.grew hb2
      replace hown := row_grewE hown hb2
      clear hb hb2
      have c0 : w2.cell? ⟨w.heap.size + 1, 0, none⟩ = some (.slice pa k pcap) := xg.cell 0
      have c1 : w2.cell? ⟨w.heap.size + 1, 1, none⟩ = some (.slice none 0 0) := xg.cell 1
      have c2 : w2.cell? ⟨w.heap.size + 1, 2, none⟩ = some (.int .i64 0) := xg.cell 2
      have c3 : w2.cell? ⟨w.heap.size + 1, 3, none⟩ = some (.int .i64 0) := xg.cell 3
      cases hg : gok n f K with
      | false =>
        have HN : Hid (gsQ n f = false) := gsQ_c1 (by rw [HKK.out]; unfold gcOk; rw [hg]; rfl)
        go_wp2_with (refine wpList_store_row rfl 56 (.tmp 4) _ rfl w.heap.size _ (by rfl) (by rfl) _ _ xr (by kernel_rfl) (by rfl) (by simp [Value.oneCell']) ?_)
        (try simp only [Exit.inBlock, Exit.then]); refine bodyPost_ret (results_rowC rfl _ _ w.heap.size _ _ _ _ rfl (setRow_heap _ _ _ _ _ _ xr) Try.underlying56 rfl (by kernel_rfl)) rfl ?_
        exact ⟨⟨pa, k, pcap, 0, zF, none, 0, 0, 0, zD, 0, 0⟩, -1, rfl, below_setRow hB2 (Nat.le_refl _) _, .inr ⟨HN.out, rfl⟩⟩
      | true =>
      have hnx := gnext_ok' hg
      rw [hnx]
      cases hc : ib (gnum n f K) 2 3 with
      | false =>
        have HN : Hid (gsQ n f = false) := gsQ_c1 (by rw [HKK.out]; unfold gcOk; rw [hc]; simp)
        go_wp2_with (first | (go_at_call 83; refine (l1In_any _ _ _ _).mono ?_; rintro e w9 ⟨rfl, hw9⟩; rw [hw9]; clear hw9 w9) | (refine wpList_store_row rfl 56 (.tmp 4) _ rfl w.heap.size _ (by rfl) (by rfl) _ _ xr (by kernel_rfl) (by rfl) (by simp [Value.oneCell']) ?_))
        (try simp only [Exit.inBlock, Exit.then]); refine bodyPost_ret (results_rowC rfl _ _ w.heap.size _ _ _ _ rfl (setRow_heap _ _ _ _ _ _ xr) Try.underlying56 rfl (by kernel_rfl)) rfl ?_
        exact ⟨⟨pa, k, pcap, 0, zF, none, 0, 0, 0, zD, 0, 0⟩, -1, rfl, below_setRow hB2 (Nat.le_refl _) _, .inr ⟨HN.out, rfl⟩⟩
      | true =>
      have hcb : 2 ≤ gnum n f K ∧ gnum n f K ≤ 3 := by unfold ib at hc; simpa using hc
      have HC1 : Hid (gcOk n f (gsK n f) 2 3 = true) := by show gcOk n f (gsK n f) 2 3 = true; rw [HKK.out]; unfold gcOk; rw [hg, hc]; rfl
      obtain ⟨M, hM⟩ : ∃ M : Nat, gcN n f K = M := ⟨_, rfl⟩
      have hMi : gnum n f K = (M : Int) := by unfold gcN at hM; omega
      have hM2 : 2 ≤ M := by omega
      have hM3 : M ≤ 3 := by omega
      have HM0 : Hid (gcN n f (gsK n f) = M) := by show gcN n f (gsK n f) = M; rw [HKK.out]; exact hM
      have HX : Hid ((3 : Int) * (M : Int) + 2 = ((3 * M + 2 : Nat) : Int)) := by show _ = _; push_cast; rfl
      clear hM
      rw [hMi]
      rw [hMi] at hc
      have hlw2 : w.heap.size + 1 < w2.heap.size := xg.lt
      clear hg hnx hMi hcb c0 c1 c2 c3
      go_wp2_with (go_at_call 83; refine (l1In_any _ _ _ _).mono ?_; rintro e w9 ⟨rfl, hw9⟩; rw [hw9]; clear hw9 w9)
      rw [HX.out]
      refine (l4NumsK_any (3 * M + 2) (by omega) a b n c (K + 4) f _ hn hu (h.grew hB2)).mono ?_
      rintro e w3 ⟨hb3, ⟨hq, q3, cap3, rfl, o3⟩ | ⟨hq, q3, N3, cap3, rfl⟩⟩
      rotate_left
      · have HN : Hid (gsQ n f = false) := gsQ_la (by rw [HM0.out, HKK.out]; exact hq)
        have hB3 := below_app hB2 hb3 hB2.size
        replace xr := xr.grew hb3
        replace xg := xg.grew hb3
        have c0 : w3.cell? ⟨w.heap.size + 1, 0, none⟩ = some (.slice pa k pcap) := xg.cell 0
        have c1 : w3.cell? ⟨w.heap.size + 1, 1, none⟩ = some (.slice none 0 0) := xg.cell 1
        have c2 : w3.cell? ⟨w.heap.size + 1, 2, none⟩ = some (.int .i64 0) := xg.cell 2
        have c3 : w3.cell? ⟨w.heap.size + 1, 3, none⟩ = some (.int .i64 0) := xg.cell 3
        go_wp2_with (refine wpList_store_row rfl 56 (.tmp 4) _ rfl w.heap.size _ (by rfl) (by rfl) _ _ xr (by kernel_rfl) (by rfl) (by simp [Value.oneCell']) ?_)
        (try simp only [Exit.inBlock, Exit.then]); refine bodyPost_ret (results_rowC rfl _ _ w.heap.size _ _ _ _ rfl (setRow_heap _ _ _ _ _ _ xr) Try.underlying56 rfl (by kernel_rfl)) rfl ?_
        exact ⟨⟨pa, k, pcap, 0, zF, none, 0, 0, 0, zD, 0, 0⟩, -1, rfl, below_setRow hB3 (Nat.le_refl _) _, .inr ⟨HN.out, rfl⟩⟩
      have HL : Hid (gnOkK (3 * gcN n f (gsK n f) + 2) n f (gsK n f + 4) = true) := by show gnOkK (3 * gcN n f (gsK n f) + 2) n f (gsK n f + 4) = true; rw [HM0.out, HKK.out]; exact hq
      have hB3 := below_app hB2 hb3 hB2.size
      replace xr := xr.grew hb3
      replace xg := xg.grew hb3
      replace hown := row_grewE hown hb3
      have HG : Hid (∀ i j, j < 3 * M + 2 → 3 * i + j < 3 * M + 2 → gnL n f (K + 4) (3 * i + j) = gnL n f (gtA (gsK n f) i) j) := fun i j _ _ => by rw [HKK.out]; exact gs_num i j
      have H1 : w3.ownsRow w3.heap.size 68 3 (.slice none 0 0) 0 (valsE sdC 0 (gtF n f (gsK n f))) := World.ownsRow_nil _ _ _ _
      have O3 : Own .i64 w3 w2.heap.size q3 (some ⟨q3, 0, none⟩) (3 * M + 2) (gnL n f (K + 4)) := o3
      have hs2 := hB2.size
      have hq3 : q3 < w3.heap.size := o3.2.1
      have hq2 : w2.heap.size ≤ q3 := o3.1
      have hs3 := hB3.size
      have hws : Hid (w3.heap.size ≤ w3.heap.size) := Nat.le_refl _
      clear o3 hq hb3 hB2 hc
      go_wp2
      go_loopw [20] (fun i wr => ∃ k2 : Nat, k2 ≤ M ∧ i = .int .i64 k2 ∧ Below w.heap.size w wr ∧ BoxR wr w.heap.size 56 #[.slice none 0 0, .slice none 0 0, .int .i64 0, .int .i64 0] ∧ Own .i64 wr w2.heap.size q3 (some ⟨q3, 0, none⟩) (3 * M + 2) (gnL n f (K + 4)) ∧ Hid (∀ j, j < k2 → ib (gnL n f (gtA (gsK n f) j) 2) 0 1 = true) ∧ wr.ownsRow w.heap.size 31 13 (.slice pa k pcap) k (valsE pcC k (gqF n f 0)) ∧ ∃ (sa : Option Addr) (scap : Nat), BoxR wr (w.heap.size + 1) 56 #[.slice pa k pcap, .slice sa k2 scap, .int .i64 0, .int .i64 0] ∧ wr.ownsRow w3.heap.size 68 3 (.slice sa k2 scap) k2 (valsE sdC k2 (gtF n f (gsK n f))) ∧ Hid (w3.heap.size ≤ wr.heap.size)) (fun i _ => M - (intOf i).toNat)
      case atStart => exact ⟨0, Nat.zero_le _, rfl, hB3, xr, O3, fun j hj => by omega, hown, none, 0, xg, H1, hws⟩
      case round =>
        clear hB3 xr xg O3 hown H1
        obtain ⟨k2, hk2, rfl, hb, xr, o3, hfl, hown, sa, scap, xg, hown2, hwr⟩ := hrel
        have c0 : wr.cell? ⟨w.heap.size + 1, 0, none⟩ = some (.slice pa k pcap) := xg.cell 0
        have c1 : wr.cell? ⟨w.heap.size + 1, 1, none⟩ = some (.slice sa k2 scap) := xg.cell 1
        have c2 : wr.cell? ⟨w.heap.size + 1, 2, none⟩ = some (.int .i64 0) := xg.cell 2
        have c3 : wr.cell? ⟨w.heap.size + 1, 3, none⟩ = some (.int .i64 0) := xg.cell 3
        by_cases hlt : k2 < M
        · have d0 := o3.cell (3 * k2) (by omega)
          have d1 := o3.cell (3 * k2 + 1) (by omega)
          have d2 := o3.cell (3 * k2 + 2) (by omega)
          have g0' := HG.out k2 0 (by omega) (by omega)
          rw [Nat.add_zero] at g0'
          rw [Nat.zero_add, g0'] at d0
          rw [Nat.zero_add, HG.out k2 1 (by omega) (by omega)] at d1
          rw [Nat.zero_add, HG.out k2 2 (by omega) (by omega)] at d2
          have HV : Hid (valsE sdC (k2 + 1) (gtF n f (gsK n f)) = valsE sdC k2 (gtF n f (gsK n f)) ++ sdC ⟨gnL n f (gtA (gsK n f) k2) 0, gnL n f (gtA (gsK n f) k2) 1, gnL n f (gtA (gsK n f) k2) 2 == 1⟩) := by show _ = _; rw [valsE_snoc]; rfl
          have HA : ib (gnL n f (gtA (gsK n f) k2) 2) 0 1 = true → Hid (∀ j, j < k2 + 1 → ib (gnL n f (gtA (gsK n f) j) 2) 0 1 = true) := fun hh j hj => by
            by_cases e : j = k2
            · subst e; exact hh
            · exact hfl.out j (by omega)
          have HN' : ib (gnL n f (gtA (gsK n f) k2) 2) 0 1 = false → Hid (gsQ n f = false) := fun hh => gsQ_fl (k := k2) (by rw [HM0.out]; exact hlt) hh
          have SKO : Hid (∀ u : World, Own .i64 u w2.heap.size q3 (some ⟨q3, 0, none⟩) (3 * M + 2) (gnL n f (K + 4)) → u.cell? ⟨q3, 3 * k2, none⟩ = some (.int .i64 (gnL n f (gtA (gsK n f) k2) 0)) ∧ u.cell? ⟨q3, 3 * k2 + 1, none⟩ = some (.int .i64 (gnL n f (gtA (gsK n f) k2) 1)) ∧ u.cell? ⟨q3, 3 * k2 + 2, none⟩ = some (.int .i64 (gnL n f (gtA (gsK n f) k2) 2))) := fun u hu => by
            have e0 := hu.cell (3 * k2) (by omega)
            have e1 := hu.cell (3 * k2 + 1) (by omega)
            have e2 := hu.cell (3 * k2 + 2) (by omega)
            rw [Nat.zero_add, g0'] at e0
            rw [Nat.zero_add, HG.out k2 1 (by omega) (by omega)] at e1
            rw [Nat.zero_add, HG.out k2 2 (by omega) (by omega)] at e2
            exact ⟨e0, e1, e2⟩
          generalize gnL n f (gtA (gsK n f) k2) 0 = x0 at d0 HV SKO
          generalize gnL n f (gtA (gsK n f) k2) 1 = x1 at d1 HV SKO
          generalize gnL n f (gtA (gsK n f) k2) 2 = x2 at d2 HV HA HN' SKO
          clear g0' hfl
          have y1 : (0 : Int) ≤ 3 * (k2 : Int) + 2 := by omega
          have y2 : (3 : Int) * (k2 : Int) + 2 < ((3 * M + 2 : Nat) : Int) := by omega
          have y3 : (0 : Int) ≤ 3 * (k2 : Int) := by omega
          have y4 : (3 : Int) * (k2 : Int) < ((3 * M + 2 : Nat) : Int) := by omega
          have y5 : (0 : Int) ≤ 3 * (k2 : Int) + 1 := by omega
          have y6 : (3 : Int) * (k2 : Int) + 1 < ((3 * M + 2 : Nat) : Int) := by omega
          have z2 : (3 * (k2 : Int) + 2).toNat = 3 * k2 + 2 := by omega
          have z1 : (3 * (k2 : Int) + 1).toNat = 3 * k2 + 1 := by omega
          have z0 : (3 * (k2 : Int)).toNat = 3 * k2 := by omega
          cases hx : ib x2 0 1 with
          | false =>
            have HN := HN' hx
            go_wp2_with (first | (go_at_call 83; refine (l1In_any _ _ _ _).mono ?_; rintro e w9 ⟨rfl, hw9⟩; rw [hw9]; clear hw9 w9) | (refine wpList_store_row rfl 56 (.tmp 4) _ rfl w.heap.size _ (by rfl) (by rfl) _ _ xr (by kernel_rfl) (by rfl) (by simp [Value.oneCell']) ?_))
            (try simp only [Exit.inBlock, Exit.then]); refine bodyPost_ret (results_rowC rfl _ _ w.heap.size _ _ _ _ rfl (setRow_heap _ _ _ _ _ _ xr) Try.underlying56 rfl (by kernel_rfl)) rfl ?_
            exact ⟨⟨pa, k, pcap, 0, zF, sa, k2, scap, 0, zD, 0, 0⟩, -1, rfl, below_setRow hb (Nat.le_refl _) _, .inr ⟨HN.out, rfl⟩⟩
          | true =>
            have HA' := HA hx
            clear HA HN'
            go_wp2_with (go_at_call 83; refine (l1In_any _ _ _ _).mono ?_; rintro e w9 ⟨rfl, hw9⟩; rw [hw9]; clear hw9 w9)
            have b0 : ¬ (3 * (M : Int) + 2 ≤ 3 * (k2 : Int)) := by omega
            have b1 : ¬ (3 * (M : Int) + 2 ≤ 3 * (k2 : Int) + 1) := by omega
            have b2 : ¬ (3 * (M : Int) + 2 ≤ 3 * (k2 : Int) + 2) := by omega
            have q0 : IntKind.i64.wrap (3 * (k2 : Int)) = 3 * (k2 : Int) := by rw [IntKind.wrap_i64]; omega
            have q1 : IntKind.i64.wrap (3 * (k2 : Int) + 1) = 3 * (k2 : Int) + 1 := by rw [IntKind.wrap_i64]; omega
            have q2 : IntKind.i64.wrap (3 * (k2 : Int) + 2) = 3 * (k2 : Int) + 2 := by rw [IntKind.wrap_i64]; omega
            refine wp_region_held_drew (S := fun u : World => u.cell? ⟨q3, 3 * k2, none⟩ = some (.int .i64 x0) ∧ u.cell? ⟨q3, 3 * k2 + 1, none⟩ = some (.int .i64 x1) ∧ u.cell? ⟨q3, 3 * k2 + 2, none⟩ = some (.int .i64 x2)) (by kernel_rfl) (SKO.out _ o3) (fun hHeld => ?_)
            refine wpAnyH_take (i := 0) (v := .pointer (some ⟨w.heap.size + 1, 1, none⟩)) rfl (by kernel_rfl) (by kernel_rfl) (by kernel_rfl) (fun _ _ _ h => h) (Or.inl ⟨by rfl, fun u hSu => by (try dsimp only at hSu); go_simp⟩) hHeld ?_
            try simp only [Act.put, List.setIfInBounds_toArray, List.set_cons_zero, List.set_cons_succ]
            refine wpAnyH_take (i := 2) (v := .slice (some ⟨q3, 0, none⟩) (3 * M + 2) cap3) rfl (by kernel_rfl) (by kernel_rfl) (by kernel_rfl) (fun _ _ _ h => h) (Or.inl ⟨by rfl, fun u hSu => by (try dsimp only at hSu); go_simp⟩) hHeld ?_
            try simp only [Act.put, List.setIfInBounds_toArray, List.set_cons_zero, List.set_cons_succ]
            refine wpAnyH_take (i := 3) (v := .int .i64 k2) rfl (by kernel_rfl) (by kernel_rfl) (by kernel_rfl) (fun _ _ _ h => h) (Or.inl ⟨by rfl, fun u hSu => by (try dsimp only at hSu); go_simp⟩) hHeld ?_
            try simp only [Act.put, List.setIfInBounds_toArray, List.set_cons_zero, List.set_cons_succ]
            refine wpAnyH_take (i := 4) (v := .int .i64 (3 * k2)) rfl (by kernel_rfl) (by kernel_rfl) (by kernel_rfl) (fun _ _ _ h => h) (Or.inl ⟨by rfl, fun u hSu => by (try dsimp only at hSu); go_simp⟩) hHeld ?_
            try simp only [Act.put, List.setIfInBounds_toArray, List.set_cons_zero, List.set_cons_succ]
            refine wpAnyH_take (i := 5) (v := .pointer (some ⟨q3, 3 * k2, none⟩)) rfl (by kernel_rfl) (by kernel_rfl) (by kernel_rfl) (fun _ _ _ h => h) (Or.inl ⟨by rfl, fun u hSu => by (try dsimp only at hSu); go_simp⟩) hHeld ?_
            try simp only [Act.put, List.setIfInBounds_toArray, List.set_cons_zero, List.set_cons_succ]
            refine wpAnyH_take (i := 6) (v := .int .i64 x0) rfl (by kernel_rfl) (by kernel_rfl) (by kernel_rfl) (fun _ _ _ h => h) (Or.inl ⟨by rfl, fun u hSu => by (try dsimp only at hSu); go_simp⟩) hHeld ?_
            try simp only [Act.put, List.setIfInBounds_toArray, List.set_cons_zero, List.set_cons_succ]
            refine wpAnyH_take (i := 7) (v := .slice (some ⟨q3, 0, none⟩) (3 * M + 2) cap3) rfl (by kernel_rfl) (by kernel_rfl) (by kernel_rfl) (fun _ _ _ h => h) (Or.inl ⟨by rfl, fun u hSu => by (try dsimp only at hSu); go_simp⟩) hHeld ?_
            try simp only [Act.put, List.setIfInBounds_toArray, List.set_cons_zero, List.set_cons_succ]
            refine wpAnyH_take (i := 8) (v := .int .i64 k2) rfl (by kernel_rfl) (by kernel_rfl) (by kernel_rfl) (fun _ _ _ h => h) (Or.inl ⟨by rfl, fun u hSu => by (try dsimp only at hSu); go_simp⟩) hHeld ?_
            try simp only [Act.put, List.setIfInBounds_toArray, List.set_cons_zero, List.set_cons_succ]
            refine wpAnyH_take (i := 9) (v := .int .i64 (3 * k2)) rfl (by kernel_rfl) (by kernel_rfl) (by kernel_rfl) (fun _ _ _ h => h) (Or.inl ⟨by rfl, fun u hSu => by (try dsimp only at hSu); go_simp⟩) hHeld ?_
            try simp only [Act.put, List.setIfInBounds_toArray, List.set_cons_zero, List.set_cons_succ]
            refine wpAnyH_take (i := 10) (v := .int .i64 (3 * k2 + 1)) rfl (by kernel_rfl) (by kernel_rfl) (by kernel_rfl) (fun _ _ _ h => h) (Or.inl ⟨by rfl, fun u hSu => by (try dsimp only at hSu); go_simp⟩) hHeld ?_
            try simp only [Act.put, List.setIfInBounds_toArray, List.set_cons_zero, List.set_cons_succ]
            refine wpAnyH_take (i := 11) (v := .pointer (some ⟨q3, 3 * k2 + 1, none⟩)) rfl (by kernel_rfl) (by kernel_rfl) (by kernel_rfl) (fun _ _ _ h => h) (Or.inl ⟨by rfl, fun u hSu => by (try dsimp only at hSu); go_simp⟩) hHeld ?_
            try simp only [Act.put, List.setIfInBounds_toArray, List.set_cons_zero, List.set_cons_succ]
            refine wpAnyH_take (i := 12) (v := .int .i64 x1) rfl (by kernel_rfl) (by kernel_rfl) (by kernel_rfl) (fun _ _ _ h => h) (Or.inl ⟨by rfl, fun u hSu => by (try dsimp only at hSu); go_simp⟩) hHeld ?_
            try simp only [Act.put, List.setIfInBounds_toArray, List.set_cons_zero, List.set_cons_succ]
            refine wpAnyH_take (i := 13) (v := .slice (some ⟨q3, 0, none⟩) (3 * M + 2) cap3) rfl (by kernel_rfl) (by kernel_rfl) (by kernel_rfl) (fun _ _ _ h => h) (Or.inl ⟨by rfl, fun u hSu => by (try dsimp only at hSu); go_simp⟩) hHeld ?_
            try simp only [Act.put, List.setIfInBounds_toArray, List.set_cons_zero, List.set_cons_succ]
            refine wpAnyH_take (i := 14) (v := .int .i64 k2) rfl (by kernel_rfl) (by kernel_rfl) (by kernel_rfl) (fun _ _ _ h => h) (Or.inl ⟨by rfl, fun u hSu => by (try dsimp only at hSu); go_simp⟩) hHeld ?_
            try simp only [Act.put, List.setIfInBounds_toArray, List.set_cons_zero, List.set_cons_succ]
            refine wpAnyH_take (i := 15) (v := .int .i64 (3 * k2)) rfl (by kernel_rfl) (by kernel_rfl) (by kernel_rfl) (fun _ _ _ h => h) (Or.inl ⟨by rfl, fun u hSu => by (try dsimp only at hSu); go_simp⟩) hHeld ?_
            try simp only [Act.put, List.setIfInBounds_toArray, List.set_cons_zero, List.set_cons_succ]
            refine wpAnyH_take (i := 16) (v := .int .i64 (3 * k2 + 2)) rfl (by kernel_rfl) (by kernel_rfl) (by kernel_rfl) (fun _ _ _ h => h) (Or.inl ⟨by rfl, fun u hSu => by (try dsimp only at hSu); go_simp⟩) hHeld ?_
            try simp only [Act.put, List.setIfInBounds_toArray, List.set_cons_zero, List.set_cons_succ]
            refine wpAnyH_take (i := 17) (v := .pointer (some ⟨q3, 3 * k2 + 2, none⟩)) rfl (by kernel_rfl) (by kernel_rfl) (by kernel_rfl) (fun _ _ _ h => h) (Or.inl ⟨by rfl, fun u hSu => by (try dsimp only at hSu); go_simp⟩) hHeld ?_
            try simp only [Act.put, List.setIfInBounds_toArray, List.set_cons_zero, List.set_cons_succ]
            refine wpAnyH_take (i := 18) (v := .int .i64 x2) rfl (by kernel_rfl) (by kernel_rfl) (by kernel_rfl) (fun _ _ _ h => h) (Or.inl ⟨by rfl, fun u hSu => by (try dsimp only at hSu); go_simp⟩) hHeld ?_
            try simp only [Act.put, List.setIfInBounds_toArray, List.set_cons_zero, List.set_cons_succ]
            refine wpAnyH_take (i := 19) (v := .bool (x2 == 1)) rfl (by kernel_rfl) (by kernel_rfl) (by kernel_rfl) (fun _ _ _ h => h) (Or.inl ⟨by rfl, fun u hSu => by (try dsimp only at hSu); go_simp⟩) hHeld ?_
            try simp only [Act.put, List.setIfInBounds_toArray, List.set_cons_zero, List.set_cons_succ]
            refine wpAnyH_take (i := 20) (v := .agg #[.int .i64 x0, .int .i64 x1, .bool (x2 == 1)]) rfl (by kernel_rfl) (by kernel_rfl) (by kernel_rfl) (fun _ _ _ h => h) (Or.inl ⟨by rfl, fun u hSu => by (try dsimp only at hSu); go_simp⟩) hHeld ?_
            try simp only [Act.put, List.setIfInBounds_toArray, List.set_cons_zero, List.set_cons_succ]
            have hbU : Below w.heap.size w wr.drew := hb.drew
            have xrU : BoxR wr.drew w.heap.size 56 #[.slice none 0 0, .slice none 0 0, .int .i64 0, .int .i64 0] := xr
            have xgU : BoxR wr.drew (w.heap.size + 1) 56 #[.slice pa k pcap, .slice sa k2 scap, .int .i64 0, .int .i64 0] := xg
            have o3U : Own .i64 wr.drew w2.heap.size q3 (some ⟨q3, 0, none⟩) (3 * M + 2) (gnL n f (K + 4)) := o3
            have hownU : wr.drew.ownsRow w.heap.size 31 13 (.slice pa k pcap) k (valsE pcC k (gqF n f 0)) := hown
            have hown2U : wr.drew.ownsRow w3.heap.size 68 3 (.slice sa k2 scap) k2 (valsE sdC k2 (gtF n f (gsK n f))) := hown2
            have hwU : w3.heap.size ≤ wr.drew.heap.size := hwr.out
            have c1U : wr.drew.cell? ⟨w.heap.size + 1, 1, none⟩ = some (.slice sa k2 scap) := xg.cell 1
            clear hb xr xg o3 hown hown2 c1 d0 d1 d2 c0 c2 c3
            have hown3 := hown2U.alloc (.cells #[.int .i64 x0, .int .i64 x1, .bool (x2 == 1)] 68)
            have hnews := cells_new wr.drew (sdC ⟨x0, x1, x2 == 1⟩) 68
            have hbS := hbU.alloc hbU.size (.cells #[.int .i64 x0, .int .i64 x1, .bool (x2 == 1)] 68)
            have o3A := o3U.grew (below_new2'' wr.drew (.cells #[.int .i64 x0, .int .i64 x1, .bool (x2 == 1)] 68))
            have c1A : (wr.drew.alloc (.cells #[.int .i64 x0, .int .i64 x1, .bool (x2 == 1)] 68)).cell? ⟨w.heap.size + 1, 1, none⟩ = some (.slice sa k2 scap) := (xgU.alloc _).cell 1
            have c1B : (wr.alloc (.cells #[.int .i64 x0, .int .i64 x1, .bool (x2 == 1)] 68)).cell? ⟨w.heap.size + 1, 1, none⟩ = some (.slice sa k2 scap) := c1A
            refine wpAnyH_ready (rs := [1, 21]) (by kernel_rfl) (by simp) ?_
            refine AllReadyH.cons rfl (fun K' hK => ?_) (AllReadyH.cons rfl (fun K' hK => ?_) AllReadyH.nil)
            · go_simp
              refine hK.out _ _ hHeld (fun hHeld => ?_)
              clear hK
              try simp only [Act.put, List.setIfInBounds_toArray, List.set_cons_zero, List.set_cons_succ]
              refine wpAnyH_ready (rs := [21]) (by kernel_rfl) (by simp) ?_
              refine AllReadyH.cons rfl (fun K' hK => ?_) AllReadyH.nil
              go_simp
              refine hK.out _ _ (SKO.out _ o3A) (fun hHeld => ?_)
              clear hK
              try simp only [Act.put, List.setIfInBounds_toArray, List.set_cons_zero, List.set_cons_succ]
              refine wpAnyH_ready (rs := [22]) (by kernel_rfl) (by simp) ?_
              refine AllReadyH.cons rfl (fun K' hK => ?_) AllReadyH.nil
              refine step_appendE' rfl (.tmp 102) (.tmp 122) 54 rfl w3.heap.size 68 j0 _ 3 24 Try.underlying54 hj hy0 hy1 hy2 rfl (by decide) (.slice sa k2 scap) k2 _ rfl hown3 ⟨wr.drew.heap.size, 0, none⟩ 1 1 (sdC ⟨x0, x1, x2 == 1⟩) rfl rfl hnews (by intro u hu; exact sdC_one 1 (fun _ => ⟨x0, x1, x2 == 1⟩) u (by simpa [valsE] using hu)) (by unfold maxLen; omega) (by omega) (Nat.le_trans hwU (below_new2'' wr.drew _).size) ?_
              intro v4 w4 hown4 hgr4 hnil4
              have hb4 : Below w.heap.size w w4 := hbS.grown hgr4 hbS.size (fun q hq => by have := (hown2U.lt q hq).1; omega)
              have n1 := own_ne hown2U xrU (by decide)
              have n2 := own_ne hown2U xgU (by decide)
              have xr4 : BoxR w4 w.heap.size 56 #[.slice none 0 0, .slice none 0 0, .int .i64 0, .int .i64 0] := (hgr4.block _ (xrU.alloc _).lt n1).trans (xrU.alloc _)
              have xg4 : BoxR w4 (w.heap.size + 1) 56 #[.slice pa k pcap, .slice sa k2 scap, .int .i64 0, .int .i64 0] := (hgr4.block _ (xgU.alloc _).lt n2).trans (xgU.alloc _)
              have hownP : w4.ownsRow w.heap.size 31 13 (.slice pa k pcap) k (valsE pcC k (gqF n f 0)) := row_same (hownU.alloc _) (fun q hq => hgr4.block q ((hownU.alloc _).lt q hq).2 (row_two hownU hown2U (by decide) hq))
              have o34 : Own .i64 w4 w2.heap.size q3 (some ⟨q3, 0, none⟩) (3 * M + 2) (gnL n f (K + 4)) := (o3U.grew (below_new2'' wr.drew _)).same (hgr4.block q3 (o3U.grew (below_new2'' wr.drew _)).2.1 (fun he => by have := (hown2U.lt q3 he.symm).1; omega)) hgr4.size
              refine hK.out _ _ (SKO.out _ o34) (fun hHeld => ?_)
              clear hK
              try simp only [Act.put, List.setIfInBounds_toArray, List.set_cons_zero, List.set_cons_succ]
              rw [← HV.out] at hown4
              obtain ⟨sa4, cap4, rfl, _⟩ := row_form hown4
              have n4 := own_ne hown4 xg4 (by decide)
              have n5 := own_ne hownP xg4 (by decide)
              have f0 := xg4.froz 1
              have g0 : w4.cell? ⟨w.heap.size + 1, 1, none⟩ = some (.slice sa k2 scap) := xg4.cell 1
              have xg5 := xg4.put 1 (.slice sa4 (k2 + 1) cap4)
              have xr5 := xr4.other (q := ⟨w.heap.size + 1, 1, none⟩) (by simp) (.slice sa4 (k2 + 1) cap4)
              have hown5 := row_set (j := 1) hown4 n4 (.slice sa4 (k2 + 1) cap4)
              have hownP5 := row_set (j := 1) hownP n5 (.slice sa4 (k2 + 1) cap4)
              have hlg := xgU.lt
              have o35 : Own .i64 (w4.setCell ⟨w.heap.size + 1, 1, none⟩ (.slice sa4 (k2 + 1) cap4)) w2.heap.size q3 (some ⟨q3, 0, none⟩) (3 * M + 2) (gnL n f (K + 4)) := o34.same (Below.heap_setCell w4 _ _ q3 (by show q3 ≠ w.heap.size + 1; omega)) (by simp [World.setCell])
              have hw5 : Hid (w3.heap.size ≤ (w4.setCell ⟨w.heap.size + 1, 1, none⟩ (.slice sa4 (k2 + 1) cap4)).heap.size) := Nat.le_trans hwU (Nat.le_trans (below_new2'' wr.drew _).size (Nat.le_trans hgr4.size (by simp [World.setCell])))
              have hb5 := hb4.setCell (p := ⟨w.heap.size + 1, 1, none⟩) (by simp) (.slice sa4 (k2 + 1) cap4)
              generalize hU : w4.setCell ⟨w.heap.size + 1, 1, none⟩ (.slice sa4 (k2 + 1) cap4) = U5 at xg5 xr5 hown5 hownP5 o35 hb5 hw5
              clear hown4 hgr4 hnil4 hown3 hown2U hownU hnews hbS xrU xgU xr4 xg4 hb4 n1 n2 n4 n5 o34 o3U hownP hbU c1U c1A c1B o3A
              refine wpAnyH_take (i := 23) (v := .pointer (some ⟨w.heap.size + 1, 1, none⟩)) rfl (by kernel_rfl) (by kernel_rfl) (by kernel_rfl) (fun _ _ _ h => h) (Or.inl ⟨by rfl, fun u hSu => by (try dsimp only at hSu); go_simp⟩) hHeld ?_
              try simp only [Act.put, List.setIfInBounds_toArray, List.set_cons_zero, List.set_cons_succ]
              refine wpAnyH_ready (rs := [24]) (by kernel_rfl) (by simp) ?_
              refine AllReadyH.cons rfl (fun K' hK => ?_) AllReadyH.nil
              go_simp
              (try rw [hU])
              refine hK.out _ _ (SKO.out _ o35) (fun hHeld => ?_)
              clear hK
              refine wpAnyH_done (by kernel_rfl) ?_ _
              clear hHeld SKO
              go_wp2
              go_roundw
              case rel => first | exact ⟨k2 + 1, by omega, by go_num, hb5, xr5, o35, HA', hownP5, sa4, cap4, xg5, hown5, hw5⟩ | ((repeat apply Exists.intro); exact ⟨⟨k2 + 1, by omega, by go_num, hb5, xr5, o35, HA', hownP5, sa4, cap4, xg5, hown5, hw5⟩, rfl⟩)
              case measure => simp [intOf]; omega
            · go_simp
              refine hK.out _ _ (SKO.out _ o3A) (fun hHeld => ?_)
              clear hK
              try simp only [Act.put, List.setIfInBounds_toArray, List.set_cons_zero, List.set_cons_succ]
              refine wpAnyH_ready (rs := [1]) (by kernel_rfl) (by simp) ?_
              refine AllReadyH.cons rfl (fun K' hK => ?_) AllReadyH.nil
              go_simp
              refine hK.out _ _ hHeld (fun hHeld => ?_)
              clear hK
              try simp only [Act.put, List.setIfInBounds_toArray, List.set_cons_zero, List.set_cons_succ]
              refine wpAnyH_ready (rs := [22]) (by kernel_rfl) (by simp) ?_
              refine AllReadyH.cons rfl (fun K' hK => ?_) AllReadyH.nil
              refine step_appendE' rfl (.tmp 102) (.tmp 122) 54 rfl w3.heap.size 68 j0 _ 3 24 Try.underlying54 hj hy0 hy1 hy2 rfl (by decide) (.slice sa k2 scap) k2 _ rfl hown3 ⟨wr.drew.heap.size, 0, none⟩ 1 1 (sdC ⟨x0, x1, x2 == 1⟩) rfl rfl hnews (by intro u hu; exact sdC_one 1 (fun _ => ⟨x0, x1, x2 == 1⟩) u (by simpa [valsE] using hu)) (by unfold maxLen; omega) (by omega) (Nat.le_trans hwU (below_new2'' wr.drew _).size) ?_
              intro v4 w4 hown4 hgr4 hnil4
              have hb4 : Below w.heap.size w w4 := hbS.grown hgr4 hbS.size (fun q hq => by have := (hown2U.lt q hq).1; omega)
              have n1 := own_ne hown2U xrU (by decide)
              have n2 := own_ne hown2U xgU (by decide)
              have xr4 : BoxR w4 w.heap.size 56 #[.slice none 0 0, .slice none 0 0, .int .i64 0, .int .i64 0] := (hgr4.block _ (xrU.alloc _).lt n1).trans (xrU.alloc _)
              have xg4 : BoxR w4 (w.heap.size + 1) 56 #[.slice pa k pcap, .slice sa k2 scap, .int .i64 0, .int .i64 0] := (hgr4.block _ (xgU.alloc _).lt n2).trans (xgU.alloc _)
              have hownP : w4.ownsRow w.heap.size 31 13 (.slice pa k pcap) k (valsE pcC k (gqF n f 0)) := row_same (hownU.alloc _) (fun q hq => hgr4.block q ((hownU.alloc _).lt q hq).2 (row_two hownU hown2U (by decide) hq))
              have o34 : Own .i64 w4 w2.heap.size q3 (some ⟨q3, 0, none⟩) (3 * M + 2) (gnL n f (K + 4)) := (o3U.grew (below_new2'' wr.drew _)).same (hgr4.block q3 (o3U.grew (below_new2'' wr.drew _)).2.1 (fun he => by have := (hown2U.lt q3 he.symm).1; omega)) hgr4.size
              refine hK.out _ _ (SKO.out _ o34) (fun hHeld => ?_)
              clear hK
              try simp only [Act.put, List.setIfInBounds_toArray, List.set_cons_zero, List.set_cons_succ]
              rw [← HV.out] at hown4
              obtain ⟨sa4, cap4, rfl, _⟩ := row_form hown4
              have n4 := own_ne hown4 xg4 (by decide)
              have n5 := own_ne hownP xg4 (by decide)
              have f0 := xg4.froz 1
              have g0 : w4.cell? ⟨w.heap.size + 1, 1, none⟩ = some (.slice sa k2 scap) := xg4.cell 1
              have xg5 := xg4.put 1 (.slice sa4 (k2 + 1) cap4)
              have xr5 := xr4.other (q := ⟨w.heap.size + 1, 1, none⟩) (by simp) (.slice sa4 (k2 + 1) cap4)
              have hown5 := row_set (j := 1) hown4 n4 (.slice sa4 (k2 + 1) cap4)
              have hownP5 := row_set (j := 1) hownP n5 (.slice sa4 (k2 + 1) cap4)
              have hlg := xgU.lt
              have o35 : Own .i64 (w4.setCell ⟨w.heap.size + 1, 1, none⟩ (.slice sa4 (k2 + 1) cap4)) w2.heap.size q3 (some ⟨q3, 0, none⟩) (3 * M + 2) (gnL n f (K + 4)) := o34.same (Below.heap_setCell w4 _ _ q3 (by show q3 ≠ w.heap.size + 1; omega)) (by simp [World.setCell])
              have hw5 : Hid (w3.heap.size ≤ (w4.setCell ⟨w.heap.size + 1, 1, none⟩ (.slice sa4 (k2 + 1) cap4)).heap.size) := Nat.le_trans hwU (Nat.le_trans (below_new2'' wr.drew _).size (Nat.le_trans hgr4.size (by simp [World.setCell])))
              have hb5 := hb4.setCell (p := ⟨w.heap.size + 1, 1, none⟩) (by simp) (.slice sa4 (k2 + 1) cap4)
              generalize hU : w4.setCell ⟨w.heap.size + 1, 1, none⟩ (.slice sa4 (k2 + 1) cap4) = U5 at xg5 xr5 hown5 hownP5 o35 hb5 hw5
              clear hown4 hgr4 hnil4 hown3 hown2U hownU hnews hbS xrU xgU xr4 xg4 hb4 n1 n2 n4 n5 o34 o3U hownP hbU c1U c1A c1B o3A
              refine wpAnyH_take (i := 23) (v := .pointer (some ⟨w.heap.size + 1, 1, none⟩)) rfl (by kernel_rfl) (by kernel_rfl) (by kernel_rfl) (fun _ _ _ h => h) (Or.inl ⟨by rfl, fun u hSu => by (try dsimp only at hSu); go_simp⟩) hHeld ?_
              try simp only [Act.put, List.setIfInBounds_toArray, List.set_cons_zero, List.set_cons_succ]
              refine wpAnyH_ready (rs := [24]) (by kernel_rfl) (by simp) ?_
              refine AllReadyH.cons rfl (fun K' hK => ?_) AllReadyH.nil
              go_simp
              (try rw [hU])
              refine hK.out _ _ (SKO.out _ o35) (fun hHeld => ?_)
              clear hK
              refine wpAnyH_done (by kernel_rfl) ?_ _
              clear hHeld SKO
              go_wp2
              go_roundw
              case rel => first | exact ⟨k2 + 1, by omega, by go_num, hb5, xr5, o35, HA', hownP5, sa4, cap4, xg5, hown5, hw5⟩ | ((repeat apply Exists.intro); exact ⟨⟨k2 + 1, by omega, by go_num, hb5, xr5, o35, HA', hownP5, sa4, cap4, xg5, hown5, hw5⟩, rfl⟩)
              case measure => simp [intOf]; omega
        · obtain rfl : k2 = M := by omega
          have d0 := o3.cell (3 * k2) (by omega)
          have d1 := o3.cell (3 * k2 + 1) (by omega)
          have g0' := HG.out k2 0 (by omega) (by omega)
          rw [Nat.add_zero] at g0'
          rw [Nat.zero_add, g0'] at d0
          rw [Nat.zero_add, HG.out k2 1 (by omega) (by omega)] at d1
          have HR : Hid (Alike ⟨pa, k, pcap, 0, gqF n f 0, sa, k2, scap, 0, gtF n f (gsK n f), gnL n f (gtA (gsK n f) k2) 0, gnL n f (gtA (gsK n f) k2) 1⟩ (gsR n f)) := by
            show Alike _ _
            refine ⟨HN0.out.symm, rfl, HM0.out.symm, rfl, ?_, ?_⟩
            · show _ = gnL n f (gtA (gsK n f) (gcN n f (gsK n f))) 0; rw [HM0.out]
            · show _ = gnL n f (gtA (gsK n f) (gcN n f (gsK n f))) 1; rw [HM0.out]
          have HE : Hid (K + 4 + 4 * ((3 * k2 + 2 : Nat) : Int) = gsK n f + 4 + 4 * ((3 * gcN n f (gsK n f) + 2 : Nat) : Int)) := by show _ = _; rw [HM0.out, HKK.out]
          have HI : Hid ((Lit.int .i64 (gnL n f (gtA (gsK n f) k2) 0)).wf = true ∧ (Lit.int .i64 (gnL n f (gtA (gsK n f) k2) 1)).wf = true) := ⟨gnL_wf hu _ _, gnL_wf hu _ _⟩
          generalize hA0 : gnL n f (gtA (gsK n f) k2) 0 = x0 at d0 HR HI
          generalize hA1 : gnL n f (gtA (gsK n f) k2) 1 = x1 at d1 HR HI
          clear g0' hA0 hA1
          have f2 := xg.froz 2
          have f3 := xg.froz 3
          have xg2 := (xg.put 2 (.int .i64 x0)).put 3 (.int .i64 x1)
          have xr2 := (xr.other (q := ⟨w.heap.size + 1, 2, none⟩) (by simp) (.int .i64 x0)).other (q := ⟨w.heap.size + 1, 3, none⟩) (by simp) (.int .i64 x1)
          have hownP2 := row_set (j := 3) (row_set (j := 2) hown (own_ne hown xg (by decide)) (.int .i64 x0)) (own_ne hown xg (by decide)) (.int .i64 x1)
          have hownS2 := row_set (j := 3) (row_set (j := 2) hown2 (own_ne hown2 xg (by decide)) (.int .i64 x0)) (own_ne hown2 xg (by decide)) (.int .i64 x1)
          have hb2 := (hb.setCell (p := ⟨w.heap.size + 1, 2, none⟩) (by simp) (.int .i64 x0)).setCell (p := ⟨w.heap.size + 1, 3, none⟩) (by simp) (.int .i64 x1)
          generalize hV : (wr.setCell ⟨w.heap.size + 1, 2, none⟩ (.int .i64 x0)).setCell ⟨w.heap.size + 1, 3, none⟩ (.int .i64 x1) = V at xg2 xr2 hownP2 hownS2 hb2
          have d1' : (wr.setCell ⟨w.heap.size + 1, 2, none⟩ (.int .i64 x0)).cell? ⟨q3, 3 * k2 + 1, none⟩ = some (.int .i64 x1) := (World.cell?_setCell_other _ _ _ _ (by intro e; have h1 := congrArg Addr.block e; have h2 := o3.1; simp at h1; omega)).trans d1
          have f3' : (wr.setCell ⟨w.heap.size + 1, 2, none⟩ (.int .i64 x0)).frozen? ⟨w.heap.size + 1, 3, none⟩ = false := (xg.put 2 _).froz 3
          have c3' : (wr.setCell ⟨w.heap.size + 1, 2, none⟩ (.int .i64 x0)).cell? ⟨w.heap.size + 1, 3, none⟩ = some (.int .i64 0) := (xg.put 2 _).cell 3
          have c0' : V.cell? ⟨w.heap.size + 1, 0, none⟩ = some (.slice pa k pcap) := xg2.cell 0
          have c1' : V.cell? ⟨w.heap.size + 1, 1, none⟩ = some (.slice sa k2 scap) := xg2.cell 1
          have c2' : V.cell? ⟨w.heap.size + 1, 2, none⟩ = some (.int .i64 x0) := xg2.cell 2
          have c4' : V.cell? ⟨w.heap.size + 1, 3, none⟩ = some (.int .i64 x1) := xg2.cell 3
          have y3 : (0 : Int) ≤ 3 * (k2 : Int) := by omega
          have y4 : (3 : Int) * (k2 : Int) < ((3 * k2 + 2 : Nat) : Int) := by omega
          have y5 : (0 : Int) ≤ 3 * (k2 : Int) + 1 := by omega
          have y6 : (3 : Int) * (k2 : Int) + 1 < ((3 * k2 + 2 : Nat) : Int) := by omega
          have z1 : (3 * (k2 : Int) + 1).toNat = 3 * k2 + 1 := by omega
          have z0 : (3 * (k2 : Int)).toNat = 3 * k2 := by omega
          obtain ⟨qp, ozp, qpb⟩ := row_ownZ pcC_len hownP2
          obtain ⟨qs, ozs, qsb⟩ := row_ownZ sdC_len hownS2
          obtain ⟨_, _, ep, hpc, hpm⟩ := row_form hownP2
          obtain ⟨_, _, es, hsc, hsm⟩ := row_form hownS2
          simp only [Value.slice.injEq, true_and] at ep es
          obtain ⟨rfl, rfl⟩ := ep
          obtain ⟨rfl, rfl⟩ := es
          have hne : k ≠ 0 → k2 ≠ 0 → qp ≠ qs := fun h1 h2 he => row_two hownP2 hownS2 (by decide) (qpb h1) (by rw [he]; exact (qsb h2).symm)
          have HT : Hid (OwnT V w.heap.size ⟨pa, k, pcap, qp, gqF n f 0, sa, k2, scap, qs, gtF n f (gsK n f), x0, x1⟩) := ⟨ozp, ozs.down hs3, hne, hpc, hpm, hsc, hsm⟩
          have HW : Hid (Away w.heap.size ⟨pa, k, pcap, qp, gqF n f 0, sa, k2, scap, qs, gtF n f (gsK n f), x0, x1⟩) := ⟨fun h1 he => own_ne hownP2 xr2 (by decide) (by rw [qpb h1]; exact congrArg some he), fun h1 he => own_ne hownS2 xr2 (by decide) (by rw [qsb h1]; exact congrArg some he)⟩
          have hokV : (⟨pa, k, pcap, qp, gqF n f 0, sa, k2, scap, qs, gtF n f (gsK n f), x0, x1⟩ : Stt).ok V := ⟨hpc, hpm, ozp.rd, hsc, hsm, (ozs.down hs3).rd, HI.out.1, HI.out.2, fun i _ => rawP_wf hu _, fun i _ => gtF_wf hu _ _⟩
          have HAl : Hid (okS ⟨pa, k, pcap, qp, gqF n f 0, sa, k2, scap, qs, gtF n f (gsK n f), x0, x1⟩ = okS (gsR n f)) := alike_okS (t := ⟨pa, k, pcap, qp, gqF n f 0, sa, k2, scap, qs, gtF n f (gsK n f), x0, x1⟩) ⟨HR.out.pn, HR.out.ps, HR.out.sn, HR.out.ss, HR.out.ac, HR.out.cl⟩
          clear ozp ozs qpb qsb hownP2 hownS2 hown hown2
          go_wp2_with fail
          clear d0 d1 d1' f2 f3 f3' c0 c1 c2 c3 c3' hV
          refine (specStateOk_any ⟨pa, k, pcap, qp, gqF n f 0, sa, k2, scap, qs, gtF n f (gsK n f), x0, x1⟩ V hokV (by show k ≤ 1048576; omega) (by show k2 ≤ 1048576; omega)).mono ?_
          rintro e w5 ⟨rfl, hb5⟩
          rw [HAl.out]
          have hB5 := below_app hb2 hb5 hb2.size
          replace xr2 := xr2.grew hb5
          replace xg2 := xg2.grew hb5
          have m0 : w5.cell? ⟨w.heap.size + 1, 0, none⟩ = some (.slice pa k pcap) := xg2.cell 0
          have m1 : w5.cell? ⟨w.heap.size + 1, 1, none⟩ = some (.slice sa k2 scap) := xg2.cell 1
          have m2 : w5.cell? ⟨w.heap.size + 1, 2, none⟩ = some (.int .i64 x0) := xg2.cell 2
          have m3 : w5.cell? ⟨w.heap.size + 1, 3, none⟩ = some (.int .i64 x1) := xg2.cell 3
          have HT5 : Hid (OwnT w5 w.heap.size ⟨pa, k, pcap, qp, gqF n f 0, sa, k2, scap, qs, gtF n f (gsK n f), x0, x1⟩) := HT.out.grew hb5
          clear c0' c1' c2' c4' HT hokV hb5 hb2 hb
          cases ho : okS (gsR n f) with
          | false =>
            have HN : Hid (gsQ n f = false) := gsQ_ok ho
            go_wp2_with (refine wpList_store_row rfl 56 (.tmp 4) _ rfl w.heap.size _ (by rfl) (by rfl) _ _ xr2 (by kernel_rfl) (by rfl) (by simp [Value.oneCell']) ?_)
            (try simp only [Exit.inBlock, Exit.then]); refine bodyPost_ret (results_rowC rfl _ _ w.heap.size _ _ _ _ rfl (setRow_heap _ _ _ _ _ _ xr2) Try.underlying56 rfl (by kernel_rfl)) rfl ?_
            exact ⟨⟨pa, k, pcap, 0, zF, sa, k2, scap, 0, zD, x0, x1⟩, -1, rfl, below_setRow hB5 (Nat.le_refl _) _, .inr ⟨HN.out, rfl⟩⟩
          | true =>
            have HN : Hid (gsQ n f = true) := gsQ_yes HC0.out (by rw [HN0.out]; exact hall.out) HC1.out HL.out (by rw [HM0.out]; exact hfl.out) ho
            clear ho hall hfl
            go_wp2_with (refine wpList_store_row rfl 56 (.tmp 4) _ rfl w.heap.size _ (by rfl) (by rfl) _ _ xr2 (by kernel_rfl) (by rfl) (by simp [Value.oneCell']) ?_)
            (try simp only [Exit.inBlock, Exit.then]); refine bodyPost_ret (results_rowC rfl _ _ w.heap.size _ _ _ _ rfl (setRow_heap _ _ _ _ _ _ xr2) Try.underlying56 rfl (by kernel_rfl)) rfl ?_
            exact ⟨⟨pa, k, pcap, qp, gqF n f 0, sa, k2, scap, qs, gtF n f (gsK n f), x0, x1⟩, _, rfl, below_setRow hB5 (Nat.le_refl _) _, .inl ⟨HN.out, HE.out, ownT_setRow HT5.out HW.out _, ⟨HR.out.pn, HR.out.ps, HR.out.sn, HR.out.ss, HR.out.ac, HR.out.cl⟩⟩⟩
end Go.Proofs.Ytnlnledijpcjpab
