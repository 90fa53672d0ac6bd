/-
  Chapter 5: the draw l5Any: a state that may be bent. Own work.
-/
import Derived.Test.YtodfdfncdoliiadGreatGDrawT12
import Derived.Deep.RegionLaw
namespace Go.Proofs.YtodfdfncdoliiadGreat
open Go.ChangeShapes Go.WideShapes Go.ChangeAt Go.RowKit
set_option maxRecDepth 100000
set_option linter.unusedVariables false
set_option linter.unusedSimpArgs false
theorem step_appendE2 {P : Program} {ops : Array Oper} {o : Oper} {a : Act} {w : World} {K : Act → World → Prop} {Q : Exit → Act → World → Prop} {E : Prop} (hgd : o.guard = none) (s x : Operand) (t : TypeId)
    (ho : o.op = .call { callee := .builtin .append, args := #[s, x], argTypes := #[t, t] })
    (base : Nat) (e : TypeId) (i : TypeInfo) (z : Value) (size bytes : Nat) (ht : P.underlying t = some (.slice e)) (hi : P.info? e = some i) (hz : i.zero = some z)
    (hsize : i.size = size) (hby : i.bytes = bytes) (hzs : z.cells.size = size) (hsz : 0 < size)
    (v : Value) (n : Nat) (xs : List Value) (hs : a.eval s = v) (hown : w.ownsRow base e size v n xs)
    (ad : Addr) (m c : Nat) (news : List Value) (hx : a.eval x = .slice (some ad) m c) (hl : news.length = m * size) (hnews : ∀ j u, news[j]? = some u → w.cell? (ad.add j) = some u) (h1 : ∀ u ∈ news, u.oneCell' = true)
    (h63 : n + m ≤ maxLen) (hbytes : (n + m) * bytes ≤ 140737488355328) (hbase : base ≤ w.heap.size)
    (h : ∀ v' w', w'.ownsRow base e size v' (n + m) (xs ++ news) → w.grownBy w' v.ownBlock → (v' = .slice none 0 0 ↔ v = .slice none 0 0 ∧ m = 0) → K (a.put o.dst v') w') : if Region.wanted o (yielded ops a.tmps) = true then Oper.wp P o a w K Q else E := by
  have hw : Region.wanted o (yielded ops a.tmps) = true := by simp [Region.wanted, hgd]
  rw [if_pos hw]
  exact wp_append_own w s x t ho base e i z size bytes ht hi hz hsize hby hzs hsz v n xs hs hown ad m c news hx hl hnews h1 h63 hbytes hbase h
/-- what may be drawn: few pieces, few sides, numbers within an int -/
structure anS (s : Stt) : Prop where
  pn : 1 ≤ s.pn ∧ s.pn ≤ 11
  sn : 1 ≤ s.sn ∧ s.sn ≤ 3
  ac : inI64 s.ac
  cl : inI64 s.cl
  ps : ∀ j, j < s.pn → (s.ps j).wf
  ss : ∀ j, j < s.sn → (s.ss j).wf
theorem okSd_wf {x : Sd} (h : okSd x = true) : x.wf := by
  unfold okSd ib at h
  simp only [Bool.and_eq_true, decide_eq_true_eq] at h
  exact ⟨wf_i64 ⟨by omega, by omega⟩, wf_i64 ⟨by omega, by omega⟩⟩
theorem drS.an {s : Stt} (h : drS s) : anS s := by
  have h1 := h.pn
  have h2 := h.sn
  have h3 := h.ac
  have h4 := h.cl
  refine ⟨by omega, by omega, ⟨by omega, by omega⟩, ⟨by omega, by omega⟩, fun j hj => ?_, fun j hj => okSd_wf (h.ss j (by omega))⟩
  have := h.ps.1 j hj
  exact this.1.wf ⟨by omega, by omega⟩
theorem snoc_all {α : Type} {P : α → Prop} {n : Nat} {f : Nat → α} {x : α} (h : ∀ j, j < n → P (f j)) (hx : P x) : ∀ j, j < n + 1 → P (snoc n f x j) := by
  intro j hj
  unfold snoc
  split
  · exact hx
  · exact h j (by omega)
theorem row_some {w : World} {B e m n cap : Nat} {a : Option Addr} {xs : List Value} (h : w.ownsRow B e m (.slice a n cap) n xs) (hn : n ≠ 0) : ∃ q, a = some ⟨q, 0, none⟩ := by
  rcases h.2 with ⟨_, h'⟩ | ⟨g, c, cur, he, _⟩
  · exact absurd h' hn
  · simp only [Value.slice.injEq, true_and] at he
    exact ⟨g, he.1⟩
theorem row_less {w : World} {B e m n k cap q : Nat} {xs : List Value} (h : w.ownsRow B e m (.slice (some ⟨q, 0, none⟩) n cap) n xs) (hk : k ≤ n) : w.ownsRow B e m (.slice (some ⟨q, 0, none⟩) k cap) k (xs.take (k * m)) := by
  have hm : k * m ≤ n * m := Nat.mul_le_mul_right m hk
  rcases h.2 with ⟨h', _⟩ | ⟨g, c, cur, he, h1, h2, h3, h4, h5, h6⟩
  · simp at h'
  · simp only [Value.slice.injEq, Option.some.injEq, Addr.mk.injEq, and_true, true_and] at he
    obtain ⟨rfl, rfl⟩ := he
    refine ⟨by rw [List.length_take, h.1]; omega, .inr ⟨q, cap, cur, rfl, h1, h2, by omega, h4, h5, ?_⟩⟩
    rw [← h6, List.take_take]
    congr 1
    omega
theorem piece_cells {u : World} {B q c n : Nat} {F : Nat → Pc} (h : u.ownsRow B 139 13 (.slice (some ⟨q, 0, none⟩) n c) n (valsE pcC n F)) (hn : 0 < n) : ∀ j, j < 13 → u.cell? ⟨q, j, none⟩ = (pcC (F 0))[j]? := fun j hj => by
  have e0 := h.cellAt (0 * 13 + j) (by omega)
  rw [valsE_get pcC_len n F 0 j hn hj] at e0
  rwa [Nat.zero_mul, Nat.zero_add] at e0
def putP (x : Pc) (F : Nat → Pc) : Nat → Pc := fun j => if j = 0 then x else F j
theorem row_cells {w : World} {B e m n cap q : Nat} : ∀ (l : List Value) (j : Nat) {xs : List Value}, w.ownsRow B e m (.slice (some ⟨q, 0, none⟩) n cap) n xs → True := fun _ _ _ _ => trivial
theorem putP_set (x : Pc) (F : Nat → Pc) (n : Nat) (hn : 0 < n) : ((((((((((((((valsE pcC n F).set 0 (.int .i64 x.id)).set 1 (.int .i64 x.ow)).set 2 (.int .i64 x.si)).set 3 (.int .i64 x.zo)).set 4 (.int .i64 x.st)).set 5 (.int .i64 x.po)).set 6 (.int .i64 x.to)).set 7 (.int .i64 x.tr)).set 8 (.int .i64 x.pl)).set 9 (.int .i64 x.mi)).set 10 (.int .i64 x.ma)).set 11 (.bool x.de)).set 12 (.bool x.be)) = valsE pcC n (putP x F) := by
  have hl : (valsE pcC n F).length = n * 13 := valsE_len pcC_len _ _
  refine valsE_ext pcC_len (by simp [hl]) (fun i j hi hj => ?_)
  by_cases h0 : i = 0
  · subst h0
    have hp : putP x F 0 = x := rfl
    rw [hp]
    have h13 : j = 0 ∨ j = 1 ∨ j = 2 ∨ j = 3 ∨ j = 4 ∨ j = 5 ∨ j = 6 ∨ j = 7 ∨ j = 8 ∨ j = 9 ∨ j = 10 ∨ j = 11 ∨ j = 12 := by omega
    rcases h13 with rfl | rfl | rfl | rfl | rfl | rfl | rfl | rfl | rfl | rfl | rfl | rfl | rfl <;> simp [List.getElem?_set, hl, pcC] <;> omega
  · have hp : putP x F i = F i := by unfold putP; rw [if_neg h0]
    rw [hp, ← valsE_get pcC_len n F i j hi hj]
    simp only [List.getElem?_set]
    (repeat rw [if_neg (by omega)])
theorem DT.piece0 {w : World} {p : Nat} {a : Option Addr} {len cap r g : Nat} {s : Stt} {u : World} (h : DT w p a len cap r g s u) {q : Nat} (x : Pc) (hs : s.pa = some ⟨q, 0, none⟩) (hn : 0 < s.pn) : DT w p a len cap r g { s with ps := putP x s.ps } (((((((((((((u.setCell ⟨q, 0, none⟩ (.int .i64 x.id)).setCell ⟨q, 1, none⟩ (.int .i64 x.ow)).setCell ⟨q, 2, none⟩ (.int .i64 x.si)).setCell ⟨q, 3, none⟩ (.int .i64 x.zo)).setCell ⟨q, 4, none⟩ (.int .i64 x.st)).setCell ⟨q, 5, none⟩ (.int .i64 x.po)).setCell ⟨q, 6, none⟩ (.int .i64 x.to)).setCell ⟨q, 7, none⟩ (.int .i64 x.tr)).setCell ⟨q, 8, none⟩ (.int .i64 x.pl)).setCell ⟨q, 9, none⟩ (.int .i64 x.mi)).setCell ⟨q, 10, none⟩ (.int .i64 x.ma)).setCell ⟨q, 11, none⟩ (.bool x.de)).setCell ⟨q, 12, none⟩ (.bool x.be)) := by
  have hop := h.rw.op
  rw [hs] at hop
  have hq := hop.lt q rfl
  have n1 : r ≠ q := fun e => own_ne hop h.br (by decide) (by rw [e]; rfl)
  have n2 : g ≠ q := fun e => own_ne hop h.bg (by decide) (by rw [e]; rfl)
  have n3 : some q ≠ (Value.slice s.sa s.sn s.scap).ownBlock := fun e => row_two hop h.rw.os (by decide) rfl e
  have h1 := h.pr
  have key : ∀ (v : World) (xs : List Value) (j : Nat) (y : Value), v.ownsRow w.heap.size 139 13 (.slice (some ⟨q, 0, none⟩) s.pn s.pcap) s.pn xs → (v.setCell ⟨q, j, none⟩ y).ownsRow w.heap.size 139 13 (.slice (some ⟨q, 0, none⟩) s.pn s.pcap) s.pn (xs.set j y) := fun v xs j y hv => (hv.stored j y).1
  have hrow := key _ _ 12 (.bool x.be) (key _ _ 11 (.bool x.de) (key _ _ 10 (.int .i64 x.ma) (key _ _ 9 (.int .i64 x.mi) (key _ _ 8 (.int .i64 x.pl) (key _ _ 7 (.int .i64 x.tr) (key _ _ 6 (.int .i64 x.to) (key _ _ 5 (.int .i64 x.po) (key _ _ 4 (.int .i64 x.st) (key _ _ 3 (.int .i64 x.zo) (key _ _ 2 (.int .i64 x.si) (key _ _ 1 (.int .i64 x.ow) (key _ _ 0 (.int .i64 x.id) (hop)))))))))))))
  rw [putP_set x s.ps s.pn hn] at hrow
  refine ⟨((((((((((((h.only.setCell (.inr hq.1) (.int .i64 x.id)).setCell (.inr hq.1) (.int .i64 x.ow)).setCell (.inr hq.1) (.int .i64 x.si)).setCell (.inr hq.1) (.int .i64 x.zo)).setCell (.inr hq.1) (.int .i64 x.st)).setCell (.inr hq.1) (.int .i64 x.po)).setCell (.inr hq.1) (.int .i64 x.to)).setCell (.inr hq.1) (.int .i64 x.tr)).setCell (.inr hq.1) (.int .i64 x.pl)).setCell (.inr hq.1) (.int .i64 x.mi)).setCell (.inr hq.1) (.int .i64 x.ma)).setCell (.inr hq.1) (.bool x.de)).setCell (.inr hq.1) (.bool x.be), ?_, h.pr, h.hr, h.hg, h.ne, ((((((((((((h.br.other (q := ⟨q, 0, none⟩) n1 _).other (q := ⟨q, 1, none⟩) n1 _).other (q := ⟨q, 2, none⟩) n1 _).other (q := ⟨q, 3, none⟩) n1 _).other (q := ⟨q, 4, none⟩) n1 _).other (q := ⟨q, 5, none⟩) n1 _).other (q := ⟨q, 6, none⟩) n1 _).other (q := ⟨q, 7, none⟩) n1 _).other (q := ⟨q, 8, none⟩) n1 _).other (q := ⟨q, 9, none⟩) n1 _).other (q := ⟨q, 10, none⟩) n1 _).other (q := ⟨q, 11, none⟩) n1 _).other (q := ⟨q, 12, none⟩) n1 _, ((((((((((((h.bg.other (q := ⟨q, 0, none⟩) n2 _).other (q := ⟨q, 1, none⟩) n2 _).other (q := ⟨q, 2, none⟩) n2 _).other (q := ⟨q, 3, none⟩) n2 _).other (q := ⟨q, 4, none⟩) n2 _).other (q := ⟨q, 5, none⟩) n2 _).other (q := ⟨q, 6, none⟩) n2 _).other (q := ⟨q, 7, none⟩) n2 _).other (q := ⟨q, 8, none⟩) n2 _).other (q := ⟨q, 9, none⟩) n2 _).other (q := ⟨q, 10, none⟩) n2 _).other (q := ⟨q, 11, none⟩) n2 _).other (q := ⟨q, 12, none⟩) n2 _, ?_⟩
  · exact h.cur.only ((((((((((((((Only.refl q u).setCell (.inl rfl) (.int .i64 x.id)).setCell (.inl rfl) (.int .i64 x.ow)).setCell (.inl rfl) (.int .i64 x.si)).setCell (.inl rfl) (.int .i64 x.zo)).setCell (.inl rfl) (.int .i64 x.st)).setCell (.inl rfl) (.int .i64 x.po)).setCell (.inl rfl) (.int .i64 x.to)).setCell (.inl rfl) (.int .i64 x.tr)).setCell (.inl rfl) (.int .i64 x.pl)).setCell (.inl rfl) (.int .i64 x.mi)).setCell (.inl rfl) (.int .i64 x.ma)).setCell (.inl rfl) (.bool x.de)).setCell (.inl rfl) (.bool x.be)) (by omega)
  · refine ⟨?_, row_set (row_set (row_set (row_set (row_set (row_set (row_set (row_set (row_set (row_set (row_set (row_set (row_set (h.rw.os) n3 _) n3 _) n3 _) n3 _) n3 _) n3 _) n3 _) n3 _) n3 _) n3 _) n3 _) n3 _) n3 _⟩
    show World.ownsRow _ _ _ _ (.slice s.pa s.pn s.pcap) s.pn (valsE pcC s.pn (putP x s.ps))
    rw [hs]
    exact hrow
set_option maxHeartbeats 4000000 in
theorem l5Any_any (p : Nat) (a : Option Addr) (len cap : Nat) (w : World) {B : Nat} (hc : Code w a len B) (hB : B ≤ p) (hcur : Cur w p a len cap) :
    Calls Tryz.prog 47 #[.pointer (some ⟨p, 0, none⟩)] w fun e w' => ∃ s : Stt, anS s ∧ Drawn p a len cap w s e w' := by
  obtain ⟨i0, hi, hz0, hz1, hz2⟩ := info_parts Tryz.infoPc
  obtain ⟨j0, hj, hy0, hy1, hy2⟩ := info_parts Tryz.infoSd
  have hp : p < w.heap.size := hcur.1
  have ho0 : Only p w (w.alloc (.cells #[.slice none 0 0, .slice none 0 0, .int .i64 0, .int .i64 0] 37)) := (Only.refl p w).alloc _
  have hk0 : Cur (w.alloc (.cells #[.slice none 0 0, .slice none 0 0, .int .i64 0, .int .i64 0] 37)) p a len cap := hcur.only ((Only.refl w.heap.size w).alloc _) (Nat.ne_of_lt hp)
  have xr := boxR_new w 37 #[.slice none 0 0, .slice none 0 0, .int .i64 0, .int .i64 0]
  generalize hW : w.alloc (.cells #[.slice none 0 0, .slice none 0 0, .int .i64 0, .int .i64 0] 37) = W at ho0 hk0 xr
  have hls : w.heap.size < W.heap.size := xr.lt
  go_enter Tryz.func47, Tryz.ntmps47
  go_wp2_with fail
  clear hW hcur
  refine (l5Draw_any p a len cap _ (hc.only ho0 hB) hB hk0).mono ?_
  rintro e u1 ⟨s, hd, rfl, ho, hk, hrw⟩
  replace xr := xr.onlyR ho (by omega)
  replace ho0 := ho0.trans ho
  clear hk0 ho
  have hAN : anS s := hd.an
  have hsn := hd.sn
  have hpn := hd.pn
  obtain ⟨pa, pn, pcap, pb, ps, sa, sn, scap, sb, ss, ac, cl⟩ := s
  dsimp only at hsn hpn hAN hrw ⊢
  subst hsn
  obtain ⟨qp, rfl⟩ := row_some hrw.op (by show pn ≠ 0; omega)
  obtain ⟨q, rfl⟩ := row_some hrw.os (by show (2 : Nat) ≠ 0; decide)
  have HP : Hid (∀ j, j < pn → (ps j).wf) := hAN.ps
  have HS : Hid (∀ j, j < 2 → (ss j).wf) := hAN.ss
  have HA : Hid (inI64 ac) := hAN.ac
  have HC : Hid (inI64 cl) := hAN.cl
  have xg := boxR_new u1 37 #[.slice (some ⟨qp, 0, none⟩) pn pcap, .slice (some ⟨q, 0, none⟩) 2 scap, .int .i64 ac, .int .i64 cl]
  have hbV := below_new2'' u1 (.cells #[.slice (some ⟨qp, 0, none⟩) pn pcap, .slice (some ⟨q, 0, none⟩) 2 scap, .int .i64 ac, .int .i64 cl] 37)
  have hls1 : w.heap.size < u1.heap.size := xr.lt
  go_wp2_with fail
  generalize u1.alloc (.cells #[.slice (some ⟨qp, 0, none⟩) pn pcap, .slice (some ⟨q, 0, none⟩) 2 scap, .int .i64 ac, .int .i64 cl] 37) = V at xg hbV ⊢
  obtain ⟨g, hg⟩ : ∃ g, u1.heap.size = g := ⟨_, rfl⟩
  have hS : DT w p a len cap w.heap.size g ⟨some ⟨qp, 0, none⟩, pn, pcap, pb, ps, some ⟨q, 0, none⟩, 2, scap, sb, ss, ac, cl⟩ V := by
    subst hg
    exact ⟨ho0.trans (only_below hbV), hk.same (hbV.block p hk.1) hbV.size, hp, Nat.le_refl _, by omega, by omega, xr.grew hbV, xg, (hrw.grew hbV).down (by omega)⟩
  rw [hg]
  clear hbV xg xr hrw ho0 hk hd hAN hg hls hls1
  refine (l1Below_any p a len cap _ _ (hc.only hS.only hB) hB hS.cur).mono ?_
  rintro e v0 ⟨y, hy0', hy1', rfl, ho, hk⟩
  have hS0 := hS.draw ho hk
  clear hS ho hk hy1'
  by_cases hj0 : y = 0
  · subst hj0
    go_wp2_with fail
    refine (l1Int_new p a len cap [-1, 2, 3] 3 _ (hc.only hS0.only hB) hB hS0.cur (by decide) (by decide)).mono ?_
    rintro e v1 ⟨z, hz, rfl, ho, hk⟩
    have hzi : Hid (inI64 z) := list_in _ (by decide) z hz
    have hU := hS0.draw ho hk
    clear hS0 ho hk hz
    have kj : v1.cell? ⟨g, 2, none⟩ = some (.int .i64 ac) := hU.bg.cell 2
    have fj := hU.bg.froz 2
    have hT := hU.putAc z
    generalize hX : v1.setCell ⟨g, 2, none⟩ (.int .i64 z) = Y at hT
    clear hU
    have c0 : _ = some (Value.slice (some ⟨qp, 0, none⟩) pn pcap) := hT.bg.cell 0
    have c1 : _ = some (Value.slice (some ⟨q, 0, none⟩) 2 scap) := hT.bg.cell 1
    have c2 : _ = some (Value.int .i64 z) := hT.bg.cell 2
    have c3 : _ = some (Value.int .i64 cl) := hT.bg.cell 3
    have xr := hT.br
    go_wp2_with (refine wpList_store_row rfl 37 (.tmp 2) _ rfl w.heap.size _ (by rfl) (by rfl) _ _ xr (by kernel_rfl) (by rfl) (by simp [Value.oneCell']) ?_)
    (try simp only [Exit.inBlock, Exit.then]); refine bodyPost_ret (results_cell_row rfl _ _ w.heap.size _ _ _ _ rfl (setRow_heap _ _ _ _ _ _ xr) Tryz.underlying37 rfl (by kernel_rfl)) rfl ?_
    exact ⟨_, ⟨by show 1 ≤ pn ∧ pn ≤ 11; omega, by show 1 ≤ 2 ∧ 2 ≤ 3; decide, hzi.out, HC.out, HP.out, HS.out⟩, rfl, hT.only.setRow (Nat.le_refl _) _, hT.cur.setRow hp _, hT.rw.setRow xr _⟩
  by_cases hj1 : y = 1
  · subst hj1
    go_wp2_with fail
    refine (l1Int_new p a len cap [-1, 0, 9999, 10000] 3 _ (hc.only hS0.only hB) hB hS0.cur (by decide) (by decide)).mono ?_
    rintro e v1 ⟨z, hz, rfl, ho, hk⟩
    have hzi : Hid (inI64 z) := list_in _ (by decide) z hz
    have hU := hS0.draw ho hk
    clear hS0 ho hk hz
    have kj : v1.cell? ⟨g, 3, none⟩ = some (.int .i64 cl) := hU.bg.cell 3
    have fj := hU.bg.froz 3
    have hT := hU.putCl z
    generalize hX : v1.setCell ⟨g, 3, none⟩ (.int .i64 z) = Y at hT
    clear hU
    have c0 : _ = some (Value.slice (some ⟨qp, 0, none⟩) pn pcap) := hT.bg.cell 0
    have c1 : _ = some (Value.slice (some ⟨q, 0, none⟩) 2 scap) := hT.bg.cell 1
    have c2 : _ = some (Value.int .i64 ac) := hT.bg.cell 2
    have c3 : _ = some (Value.int .i64 z) := hT.bg.cell 3
    have xr := hT.br
    go_wp2_with (refine wpList_store_row rfl 37 (.tmp 2) _ rfl w.heap.size _ (by rfl) (by rfl) _ _ xr (by kernel_rfl) (by rfl) (by simp [Value.oneCell']) ?_)
    (try simp only [Exit.inBlock, Exit.then]); refine bodyPost_ret (results_cell_row rfl _ _ w.heap.size _ _ _ _ rfl (setRow_heap _ _ _ _ _ _ xr) Tryz.underlying37 rfl (by kernel_rfl)) rfl ?_
    exact ⟨_, ⟨by show 1 ≤ pn ∧ pn ≤ 11; omega, by show 1 ≤ 2 ∧ 2 ≤ 3; decide, HA.out, hzi.out, HP.out, HS.out⟩, rfl, hT.only.setRow (Nat.le_refl _) _, hT.cur.setRow hp _, hT.rw.setRow xr _⟩
  by_cases hj2 : y = 2
  · subst hj2
    have hSD := hS0.drew
    have hcD := hc.only hSD.only hB
    have sz0 := hSD.only.size
    have e0 : v0.cell? ⟨g, 1, none⟩ = some (.slice (some ⟨q, 0, none⟩) 2 scap) := hS0.bg.cell 1
    have e0' : v0.drew.cell? ⟨g, 1, none⟩ = some (.slice (some ⟨q, 0, none⟩) 2 scap) := hS0.bg.cell 1
    go_wp2_with fail
    go_region_law (first | (refine step_appendE2 rfl (.tmp 24) (.tmp 28) 35 rfl w.heap.size 137 j0 _ 3 24 Tryz.underlying35 hj hy0 hy1 hy2 rfl (by decide) _ _ _ rfl (own1.alloc _) ⟨v1.heap.size, 0, none⟩ 1 1 (sdC ⟨z, 0, false⟩) rfl rfl nw1 (by intro u hu; exact sdC_one 1 (fun _ => ⟨z, 0, false⟩) u (by simpa [valsE] using hu)) (by show 2 + 1 ≤ maxLen; unfold maxLen; omega) (by show (2 + 1) * 24 ≤ _; omega) (Nat.le_trans sz1 (below_new2'' v1 _).size) ?_; intro w4v w4 hown4 hgr4 _; obtain ⟨na4, cap4, rfl, hc4, bg4, hS7⟩ := hS1.appS ⟨z, 0, false⟩ hown4 hgr4; have kj : w4.cell? ⟨g, 1, none⟩ = some (.slice (some ⟨q, 0, none⟩) 2 scap) := bg4.cell 1; have fj := bg4.froz 1) | (go_simp; go_at_call 100; refine (l1Raw_any p a len cap v0.drew hcD hB hSD.cur).mono ?_; rintro e v1 ⟨z, hz, rfl, ho1, hk1⟩; have hS1 := hSD.draw ho1 hk1; have e1 : v1.cell? ⟨g, 1, none⟩ = some (.slice (some ⟨q, 0, none⟩) 2 scap) := hS1.bg.cell 1; have e2 : (v1.alloc (.cells #[.int .i64 z, .int .i64 0, .bool false] 137)).cell? ⟨g, 1, none⟩ = some (.slice (some ⟨q, 0, none⟩) 2 scap) := (hS1.alloc _).bg.cell 1; have own1 := (hS1.rw.os); have sz1 := hS1.only.size; have nw1 := cells_new v1 (sdC ⟨z, 0, false⟩) 137))
    all_goals
      have HW : Hid ((⟨z, 0, false⟩ : Sd).wf) := ⟨wf_i64 hz, wf_i64 (show inI64 0 from ⟨by decide, by decide⟩)⟩
      clear e0 e0' e1 e2 own1 nw1 sz1 sz0 hS1 hSD hS0 kj fj hown4 hgr4
      generalize w4.setCell ⟨g, 1, none⟩ (.slice na4 (2 + 1) cap4) = Y at hS7 ⊢
      have c0 : _ = some (Value.slice (some ⟨qp, 0, none⟩) pn pcap) := hS7.bg.cell 0
      have c1 : _ = some (Value.slice na4 (2 + 1) cap4) := hS7.bg.cell 1
      have c2 : _ = some (Value.int .i64 ac) := hS7.bg.cell 2
      have c3 : _ = some (Value.int .i64 cl) := hS7.bg.cell 3
      have xr := hS7.br
      go_wp2_with (refine wpList_store_row rfl 37 (.tmp 2) _ rfl w.heap.size _ (by rfl) (by rfl) _ _ xr (by kernel_rfl) (by rfl) (by simp [Value.oneCell']) ?_)
      (try simp only [Exit.inBlock, Exit.then]); refine bodyPost_ret (results_cell_row rfl _ _ w.heap.size _ _ _ _ rfl (setRow_heap _ _ _ _ _ _ xr) Tryz.underlying37 rfl (by kernel_rfl)) rfl ?_
      exact ⟨_, ⟨by show 1 ≤ pn ∧ pn ≤ 11; omega, by show 1 ≤ 2 + 1 ∧ 2 + 1 ≤ 3; decide, HA.out, HC.out, HP.out, snoc_all HS.out HW.out⟩, rfl, hS7.only.setRow (Nat.le_refl _) _, hS7.cur.setRow hp _, hS7.rw.setRow xr _⟩
  by_cases hj3 : y = 3
  · subst hj3
    have hSD := hS0.drew
    have hcD := hc.only hSD.only hB
    have h02 : 0 < 2 := by decide
    have SK0 : v0.drew.cell? ⟨g, 1, none⟩ = some (.slice (some ⟨q, 0, none⟩) 2 scap) := hSD.bg.cell 1
    have HSD : Hid (∀ {s : Stt} {u : World}, s.sa = some ⟨q, 0, none⟩ → s.sn = 2 → s.scap = scap → DT w p a len cap w.heap.size g s u → u.cell? ⟨g, 1, none⟩ = some (.slice (some ⟨q, 0, none⟩) 2 scap)) := fun {s u} h1 h2 h3 hh => by have := hh.bg.cell 1; simp only [h1, h2, h3] at this; exact this
    go_wp2_with fail
    go_region_held_law (fun u : World => u.cell? ⟨g, 1, none⟩ = some (.slice (some ⟨q, 0, none⟩) 2 scap)) (first | assumption | exact HSD.out rfl rfl rfl (hSD.alloc _) | exact HSD.out rfl rfl rfl hS1 | exact HSD.out rfl rfl rfl (hS1.side (j := 1) (.int .i64 x1) rfl (poS_set (k := 0) (by decide) x1 ss))) ((go_at_call 100; refine (l1Raw_any p a len cap v0.drew hcD hB hSD.cur).mono ?_; rintro e v1 ⟨x1, hx1, rfl, ho1, hk1⟩; have hS1 := hSD.draw ho1 hk1; have kc : v1.cell? ⟨q, 1, none⟩ = some (.int .i64 (ss 0).po) := (side_cell (n := 2) hS1.rw.os (k := 0) h02).2; have kf := hS1.rw.os.frozenAt 1))
    all_goals
      have hT1 := hS1.side (j := 1) (.int .i64 x1) rfl (poS_set (k := 0) (by decide) x1 ss)
      have HW : Hid (∀ j, j < 2 → (poS 0 x1 ss j).wf) := fun j hj => by
        unfold poS
        split
        · exact ⟨(HS.out 0 (by decide)).1, wf_i64 hx1⟩
        · exact HS.out j hj
      generalize poS 0 x1 ss = G1 at hT1 HW
      generalize v1.setCell ⟨q, 1, none⟩ (.int .i64 x1) = Y at hT1 ⊢
      clear kc kf hS1 SK0 hSD HSD hS0
      have c0 : _ = some (Value.slice (some ⟨qp, 0, none⟩) pn pcap) := hT1.bg.cell 0
      have c1 : _ = some (Value.slice (some ⟨q, 0, none⟩) 2 scap) := hT1.bg.cell 1
      have c2 : _ = some (Value.int .i64 ac) := hT1.bg.cell 2
      have c3 : _ = some (Value.int .i64 cl) := hT1.bg.cell 3
      have xr := hT1.br
      go_wp2_with (refine wpList_store_row rfl 37 (.tmp 2) _ rfl w.heap.size _ (by rfl) (by rfl) _ _ xr (by kernel_rfl) (by rfl) (by simp [Value.oneCell']) ?_)
      (try simp only [Exit.inBlock, Exit.then]); refine bodyPost_ret (results_cell_row rfl _ _ w.heap.size _ _ _ _ rfl (setRow_heap _ _ _ _ _ _ xr) Tryz.underlying37 rfl (by kernel_rfl)) rfl ?_
      exact ⟨_, ⟨by show 1 ≤ pn ∧ pn ≤ 11; omega, by show 1 ≤ 2 ∧ 2 ≤ 3; decide, HA.out, HC.out, HP.out, HW.out⟩, rfl, hT1.only.setRow (Nat.le_refl _) _, hT1.cur.setRow hp _, hT1.rw.setRow xr _⟩
  by_cases hj4 : y = 4
  · subst hj4
    have hSD := hS0.drew
    have hcD := hc.only hSD.only hB
    have sz0 := hSD.only.size
    have e0 : v0.cell? ⟨g, 0, none⟩ = some (.slice (some ⟨qp, 0, none⟩) pn pcap) := hS0.bg.cell 0
    have e0' : v0.drew.cell? ⟨g, 0, none⟩ = some (.slice (some ⟨qp, 0, none⟩) pn pcap) := hS0.bg.cell 0
    go_wp2_with fail
    go_region_law (first | (refine step_appendE2 rfl (.tmp 42) (.tmp 45) 34 rfl w.heap.size 139 i0 _ 13 96 Tryz.underlying34 hi hz0 hz1 hz2 rfl (by decide) _ _ _ rfl (own1.alloc _) ⟨v1.heap.size, 0, none⟩ 1 1 (pcC x) rfl rfl nw1 (by intro u hu; exact pcC_one 1 (fun _ => x) u (by simpa [valsE] using hu)) (by show pn + 1 ≤ maxLen; unfold maxLen; omega) (by show (pn + 1) * 96 ≤ _; omega) (Nat.le_trans sz1 (below_new2'' v1 _).size) ?_; intro w4v w4 hown4 hgr4 _; obtain ⟨na4, cap4, rfl, hc4, bg4, hS7⟩ := hS1.app x hown4 hgr4; have kj : w4.cell? ⟨g, 0, none⟩ = some (.slice (some ⟨qp, 0, none⟩) pn pcap) := bg4.cell 0; have fj := bg4.froz 0) | (go_simp; go_at_call 101; refine (l4Any_wf p a len cap v0.drew hcD hB hSD.cur).mono ?_; rintro e v1 ⟨x, hx, rfl, ho1, hk1⟩; have hS1 := hSD.draw ho1 hk1; have e1 : v1.cell? ⟨g, 0, none⟩ = some (.slice (some ⟨qp, 0, none⟩) pn pcap) := hS1.bg.cell 0; have e2 : (v1.alloc (.cells #[.int .i64 x.id, .int .i64 x.ow, .int .i64 x.si, .int .i64 x.zo, .int .i64 x.st, .int .i64 x.po, .int .i64 x.to, .int .i64 x.tr, .int .i64 x.pl, .int .i64 x.mi, .int .i64 x.ma, .bool x.de, .bool x.be] 139)).cell? ⟨g, 0, none⟩ = some (.slice (some ⟨qp, 0, none⟩) pn pcap) := (hS1.alloc _).bg.cell 0; have own1 := (hS1.rw.op); have sz1 := hS1.only.size; have nw1 := cells_new v1 (pcC x) 139))
    all_goals
      have HW : Hid x.wf := hx
      clear e0 e0' e1 e2 own1 nw1 sz1 sz0 hS1 hSD hS0 kj fj hown4 hgr4
      generalize w4.setCell ⟨g, 0, none⟩ (.slice na4 (pn + 1) cap4) = Y at hS7 ⊢
      have c0 : _ = some (Value.slice na4 (pn + 1) cap4) := hS7.bg.cell 0
      have c1 : _ = some (Value.slice (some ⟨q, 0, none⟩) 2 scap) := hS7.bg.cell 1
      have c2 : _ = some (Value.int .i64 ac) := hS7.bg.cell 2
      have c3 : _ = some (Value.int .i64 cl) := hS7.bg.cell 3
      have xr := hS7.br
      go_wp2_with (refine wpList_store_row rfl 37 (.tmp 2) _ rfl w.heap.size _ (by rfl) (by rfl) _ _ xr (by kernel_rfl) (by rfl) (by simp [Value.oneCell']) ?_)
      (try simp only [Exit.inBlock, Exit.then]); refine bodyPost_ret (results_cell_row rfl _ _ w.heap.size _ _ _ _ rfl (setRow_heap _ _ _ _ _ _ xr) Tryz.underlying37 rfl (by kernel_rfl)) rfl ?_
      exact ⟨_, ⟨by show 1 ≤ pn + 1 ∧ pn + 1 ≤ 11; omega, by show 1 ≤ 2 ∧ 2 ≤ 3; decide, HA.out, HC.out, snoc_all HP.out HW.out, HS.out⟩, rfl, hS7.only.setRow (Nat.le_refl _) _, hS7.cur.setRow hp _, hS7.rw.setRow xr _⟩
  by_cases hj5 : y = 5
  · subst hj5
    have kj : v0.cell? ⟨g, 1, none⟩ = some (.slice (some ⟨q, 0, none⟩) 2 scap) := hS0.bg.cell 1
    have fj := hS0.bg.froz 1
    obtain ⟨_, _, hsl, hcl, _⟩ := row_form hS0.rw.os
    simp only [Value.slice.injEq, true_and] at hsl
    obtain ⟨rfl, rfl⟩ := hsl
    have hc2 : (1 : Int) ≤ (scap : Int) := by have : 2 ≤ scap := hcl; omega
    have hT := hS0.put (s' := ⟨some ⟨qp, 0, none⟩, pn, pcap, pb, ps, some ⟨q, 0, none⟩, 1, scap, sb, ss, ac, cl⟩) 1 (.slice (some ⟨q, 0, none⟩) 1 scap) rfl ⟨(hS0.rw.set hS0.bg _).op, (show _ from row_less (k := 1) (hS0.rw.set (j := 1) hS0.bg (.slice (some ⟨q, 0, none⟩) 1 scap)).os (show 1 ≤ 2 by decide))⟩
    generalize hX : v0.setCell ⟨g, 1, none⟩ (.slice (some ⟨q, 0, none⟩) 1 scap) = Y at hT
    clear hS0
    have c0 : _ = some (Value.slice (some ⟨qp, 0, none⟩) pn pcap) := hT.bg.cell 0
    have c1 : _ = some (Value.slice (some ⟨q, 0, none⟩) 1 scap) := hT.bg.cell 1
    have c2 : _ = some (Value.int .i64 ac) := hT.bg.cell 2
    have c3 : _ = some (Value.int .i64 cl) := hT.bg.cell 3
    have xr := hT.br
    go_wp2_with (refine wpList_store_row rfl 37 (.tmp 2) _ rfl w.heap.size _ (by rfl) (by rfl) _ _ xr (by kernel_rfl) (by rfl) (by simp [Value.oneCell']) ?_)
    (try simp only [Exit.inBlock, Exit.then]); refine bodyPost_ret (results_cell_row rfl _ _ w.heap.size _ _ _ _ rfl (setRow_heap _ _ _ _ _ _ xr) Tryz.underlying37 rfl (by kernel_rfl)) rfl ?_
    exact ⟨_, ⟨by show 1 ≤ pn ∧ pn ≤ 11; omega, by show 1 ≤ 1 ∧ 1 ≤ 3; decide, HA.out, HC.out, HP.out, fun j hj => HS.out j (by show j < 2; have : j < 1 := hj; omega)⟩, rfl, hT.only.setRow (Nat.le_refl _) _, hT.cur.setRow hp _, hT.rw.setRow xr _⟩
  by_cases hj6 : y = 6
  · subst hj6
    have hSD := hS0.drew
    have hcD := hc.only hSD.only hB
    have SK0 : v0.drew.cell? ⟨g, 0, none⟩ = some (.slice (some ⟨qp, 0, none⟩) pn pcap) := hSD.bg.cell 0
    have HSD : Hid (∀ {s : Stt} {u : World}, s.pa = some ⟨qp, 0, none⟩ → s.pn = pn → s.pcap = pcap → DT w p a len cap w.heap.size g s u → u.cell? ⟨g, 0, none⟩ = some (.slice (some ⟨qp, 0, none⟩) pn pcap)) := fun {s u} h1 h2 h3 hh => by have := hh.bg.cell 0; simp only [h1, h2, h3] at this; exact this
    have hn0 : 0 < pn := by omega
    have hn1 : (0 : Int) < (pn : Int) := by omega
    have hn2 : ¬ ((pn : Int) ≤ 0) := by omega
    go_wp2_with fail
    refine wp_region_held_drew (S := fun u : World => u.cell? ⟨g, 0, none⟩ = some (.slice (some ⟨qp, 0, none⟩) pn pcap)) (by kernel_rfl) SK0 (fun hHeld => ?_)
    refine wpAnyH_take (i := 0) (v := .pointer (some ⟨g, 0, none⟩)) rfl (by kernel_rfl) (by kernel_rfl) (by kernel_rfl) (fun _ _ _ h => h) (Or.inl ⟨by rfl, fun u hSu => by (try dsimp only at hSu); go_simp⟩) hHeld ?_
    try simp only [Act.put, List.setIfInBounds_toArray, List.set_cons_zero, List.set_cons_succ]
    refine wpAnyH_take (i := 1) (v := .slice (some ⟨qp, 0, none⟩) pn pcap) rfl (by kernel_rfl) (by kernel_rfl) (by kernel_rfl) (fun _ _ _ h => h) (Or.inl ⟨by rfl, fun u hSu => by (try dsimp only at hSu); go_simp⟩) hHeld ?_
    try simp only [Act.put, List.setIfInBounds_toArray, List.set_cons_zero, List.set_cons_succ]
    refine wpAnyH_take (i := 2) (v := .pointer (some ⟨p, 0, none⟩)) rfl (by kernel_rfl) (by kernel_rfl) (by kernel_rfl) (fun _ _ _ h => h) (Or.inl ⟨by rfl, fun u hSu => by (try dsimp only at hSu); go_simp⟩) hHeld ?_
    try simp only [Act.put, List.setIfInBounds_toArray, List.set_cons_zero, List.set_cons_succ]
    refine wpAnyH_ready (rs := [3]) (by kernel_rfl) (by simp) ?_
    refine AllReadyH.cons rfl (fun K' hK => ?_) AllReadyH.nil
    go_simp
    go_at_call 101
    refine (l4Any_wf p a len cap v0.drew hcD hB hSD.cur).mono ?_
    rintro e v1 ⟨x, hx, rfl, ho1, hk1⟩
    have hS1 := hSD.draw ho1 hk1
    have hT0 := hS1.piece0 x rfl hn0
    have pk := piece_cells hS1.rw.op hn0
    have ht : v1.there qp 0 13 := fun j hj => by
      refine ⟨?_, hS1.rw.op.frozenAt _⟩
      rw [Nat.zero_add, pk j hj]
      simp [pcC_len, hj]
    refine hK.out _ _ (HSD.out rfl rfl rfl hS1) (fun hHeld => ?_)
    clear hK
    try simp only [Act.put, List.setIfInBounds_toArray, List.set_cons_zero, List.set_cons_succ]
    refine wpAnyH_take (i := 4) (v := .pointer (some ⟨qp, 0, none⟩)) rfl (by kernel_rfl) (by kernel_rfl) (by kernel_rfl) (fun _ _ _ h => h) (Or.inl ⟨by rfl, fun u hSu => by (try dsimp only at hSu); go_simp⟩) hHeld ?_
    try simp only [Act.put, List.setIfInBounds_toArray, List.set_cons_zero, List.set_cons_succ]
    refine wpAnyH_ready (rs := [5]) (by kernel_rfl) (by simp) ?_
    refine AllReadyH.cons rfl (fun K' hK => ?_) AllReadyH.nil
    rw [if_pos (by rfl)]
    refine wp_store_mid 139 (.tmp 60) (.tmp 59) rfl qp 0 #[.int .i64 x.id, .int .i64 x.ow, .int .i64 x.si, .int .i64 x.zo, .int .i64 x.st, .int .i64 x.po, .int .i64 x.to, .int .i64 x.tr, .int .i64 x.pl, .int .i64 x.mi, .int .i64 x.ma, .bool x.de, .bool x.be] (by first | rfl | simp [Act.eval]) rfl ht (by kernel_rfl) (by simp [Value.oneCell']) ?_
    refine hK.out _ _ (HSD.out rfl rfl rfl hT0) (fun hHeld => ?_)
    clear hK
    refine wpAnyH_done (by kernel_rfl) ?_ _
    try simp only [Act.put, List.setIfInBounds_toArray, List.set_cons_zero, List.set_cons_succ]
    clear hHeld
    all_goals
      have hT1 := hS1.piece0 x rfl hn0
      have HW : Hid (∀ j, j < pn → (putP x ps j).wf) := fun j hj => by
        unfold putP
        split
        · exact hx
        · exact HP.out j hj
      dsimp only at hT1
      generalize putP x ps = F1 at hT1 HW
      generalize hY : (((((((((((((v1.setCell ⟨qp, 0, none⟩ (.int .i64 x.id)).setCell ⟨qp, 1, none⟩ (.int .i64 x.ow)).setCell ⟨qp, 2, none⟩ (.int .i64 x.si)).setCell ⟨qp, 3, none⟩ (.int .i64 x.zo)).setCell ⟨qp, 4, none⟩ (.int .i64 x.st)).setCell ⟨qp, 5, none⟩ (.int .i64 x.po)).setCell ⟨qp, 6, none⟩ (.int .i64 x.to)).setCell ⟨qp, 7, none⟩ (.int .i64 x.tr)).setCell ⟨qp, 8, none⟩ (.int .i64 x.pl)).setCell ⟨qp, 9, none⟩ (.int .i64 x.mi)).setCell ⟨qp, 10, none⟩ (.int .i64 x.ma)).setCell ⟨qp, 11, none⟩ (.bool x.de)).setCell ⟨qp, 12, none⟩ (.bool x.be)) = Y at hT1
      (first | rw [show v1.setCells qp 0 (#[.int .i64 x.id, .int .i64 x.ow, .int .i64 x.si, .int .i64 x.zo, .int .i64 x.st, .int .i64 x.po, .int .i64 x.to, .int .i64 x.tr, .int .i64 x.pl, .int .i64 x.mi, .int .i64 x.ma, .bool x.de, .bool x.be] : Array Value).toList = Y from hY] | skip)
      clear SK0 hSD HSD hS0 hS1 pk ht hT0
      have c0 : _ = some (Value.slice (some ⟨qp, 0, none⟩) pn pcap) := hT1.bg.cell 0
      have c1 : _ = some (Value.slice (some ⟨q, 0, none⟩) 2 scap) := hT1.bg.cell 1
      have c2 : _ = some (Value.int .i64 ac) := hT1.bg.cell 2
      have c3 : _ = some (Value.int .i64 cl) := hT1.bg.cell 3
      have xr := hT1.br
      go_wp2_with (refine wpList_store_row rfl 37 (.tmp 2) _ rfl w.heap.size _ (by rfl) (by rfl) _ _ xr (by kernel_rfl) (by rfl) (by simp [Value.oneCell']) ?_)
      (try simp only [Exit.inBlock, Exit.then]); refine bodyPost_ret (results_cell_row rfl _ _ w.heap.size _ _ _ _ rfl (setRow_heap _ _ _ _ _ _ xr) Tryz.underlying37 rfl (by kernel_rfl)) rfl ?_
      exact ⟨_, ⟨by show 1 ≤ pn ∧ pn ≤ 11; omega, by show 1 ≤ 2 ∧ 2 ≤ 3; decide, HA.out, HC.out, HW.out, HS.out⟩, rfl, hT1.only.setRow (Nat.le_refl _) _, hT1.cur.setRow hp _, hT1.rw.setRow xr _⟩
  by_cases hj7 : y = 7
  · subst hj7
    go_wp2
    go_loopw [4] (fun i wr => ∃ (k m : Nat) (pa' : Option Addr) (pcap' : Nat) (F : Nat → Pc), Hid (k = pn + m) ∧ m ≤ 6 ∧ i = .int .i64 (40 + (m : Int)) ∧ Hid (∀ j, j < k → (F j).wf) ∧ DT w p a len cap w.heap.size g ⟨pa', k, pcap', pb, F, some ⟨q, 0, none⟩, 2, scap, sb, ss, ac, cl⟩ wr) (fun i _ => 46 - (intOf i).toNat)
    case atStart => exact ⟨pn, 0, _, _, ps, (rfl : pn = pn), by omega, rfl, HP, hS0⟩
    case round =>
      clear hS0
      obtain ⟨k, m, pa', pcap', F, hkm, hm6, rfl, HF, hS0⟩ := hrel
      have hk1 : 1 ≤ k ∧ k ≤ 11 := by have := hkm.out; omega
      by_cases hlt : m < 6
      · have hk10 : k ≤ 10 := by have := hkm.out; omega
        have y1 : (40 : Int) + (m : Int) < 46 := by omega
        have hSD := hS0.drew
        have hcD := hc.only hSD.only hB
        have sz0 := hSD.only.size
        have e0 : wr.cell? ⟨g, 0, none⟩ = some (.slice pa' k pcap') := hS0.bg.cell 0
        have e0' : wr.drew.cell? ⟨g, 0, none⟩ = some (.slice pa' k pcap') := hS0.bg.cell 0
        go_wp2_with fail
        go_region_law (first | (refine step_appendE2 rfl (.tmp 68) (.tmp 72) 34 rfl w.heap.size 139 i0 _ 13 96 Tryz.underlying34 hi hz0 hz1 hz2 rfl (by decide) _ _ _ rfl (own1.alloc _) ⟨v1.heap.size, 0, none⟩ 1 1 (pcC x) rfl rfl nw1 (by intro u hu; exact pcC_one 1 (fun _ => x) u (by simpa [valsE] using hu)) (by show k + 1 ≤ maxLen; unfold maxLen; omega) (by show (k + 1) * 96 ≤ _; omega) (Nat.le_trans sz1 (below_new2'' v1 _).size) ?_; intro w4v w4 hown4 hgr4 _; obtain ⟨na4, cap4, rfl, hc4, bg4, hS7⟩ := hS1.app x hown4 hgr4; have kj : w4.cell? ⟨g, 0, none⟩ = some (.slice pa' k pcap') := bg4.cell 0; have fj := bg4.froz 0) | (go_simp; go_at_call 99; refine (l4Draw_any p a len cap (40 + (m : Int)) wr.drew hcD hB hSD.cur).mono ?_; rintro e v1 ⟨x, hx, rfl, ho1, hk1⟩; have hS1 := hSD.draw ho1 hk1; have e1 : v1.cell? ⟨g, 0, none⟩ = some (.slice pa' k pcap') := hS1.bg.cell 0; have e2 : (v1.alloc (.cells #[.int .i64 x.id, .int .i64 x.ow, .int .i64 x.si, .int .i64 x.zo, .int .i64 x.st, .int .i64 x.po, .int .i64 x.to, .int .i64 x.tr, .int .i64 x.pl, .int .i64 x.mi, .int .i64 x.ma, .bool x.de, .bool x.be] 139)).cell? ⟨g, 0, none⟩ = some (.slice pa' k pcap') := (hS1.alloc _).bg.cell 0; have own1 := (hS1.rw.op); have sz1 := hS1.only.size; have nw1 := cells_new v1 (pcC x) 139))
        all_goals
          have HW : Hid (∀ j, j < k + 1 → (snoc k F x j).wf) := snoc_all HF.out (hx.wf ⟨by omega, by omega⟩)
          have HX : Hid ((40 : Int) + (m : Int) + 1 = 40 + ((m + 1 : Nat) : Int)) := by show _ = _; push_cast; omega
          clear e0 e0' e1 e2 own1 nw1 sz1 sz0 hS1 hSD hS0 kj fj hown4 hgr4
          dsimp only at hS7
          generalize w4.setCell ⟨g, 0, none⟩ (.slice na4 (k + 1) cap4) = Y at hS7 ⊢
          go_wp2
          go_roundw
          case rel => first | exact ⟨k + 1, m + 1, na4, cap4, snoc k F x, (by have := hkm.out; show k + 1 = pn + (m + 1); omega), by omega, by go_num, HW, hS7⟩ | ((repeat apply Exists.intro); exact ⟨⟨k + 1, m + 1, na4, cap4, snoc k F x, (by have := hkm.out; show k + 1 = pn + (m + 1); omega), by omega, by go_num, HW, hS7⟩, rfl⟩)
          case measure => simp [intOf] <;> omega
      · have y1 : ¬ ((40 : Int) + (m : Int) < 46) := by omega
        have c0 : _ = some (Value.slice pa' k pcap') := hS0.bg.cell 0
        have c1 : _ = some (Value.slice (some ⟨q, 0, none⟩) 2 scap) := hS0.bg.cell 1
        have c2 : _ = some (Value.int .i64 ac) := hS0.bg.cell 2
        have c3 : _ = some (Value.int .i64 cl) := hS0.bg.cell 3
        have xr := hS0.br
        go_wp2_with (refine wpList_store_row rfl 37 (.tmp 2) _ rfl w.heap.size _ (by rfl) (by rfl) _ _ xr (by kernel_rfl) (by rfl) (by simp [Value.oneCell']) ?_)
        (try simp only [Exit.inBlock, Exit.then]); refine bodyPost_ret (results_cell_row rfl _ _ w.heap.size _ _ _ _ rfl (setRow_heap _ _ _ _ _ _ xr) Tryz.underlying37 rfl (by kernel_rfl)) rfl ?_
        exact ⟨_, ⟨by show 1 ≤ k ∧ k ≤ 11; omega, by show 1 ≤ 2 ∧ 2 ≤ 3; decide, HA.out, HC.out, HF.out, HS.out⟩, rfl, hS0.only.setRow (Nat.le_refl _) _, hS0.cur.setRow hp _, hS0.rw.setRow xr _⟩
  · have hT := hS0
    clear hS0
    have c0 : _ = some (Value.slice (some ⟨qp, 0, none⟩) pn pcap) := hT.bg.cell 0
    have c1 : _ = some (Value.slice (some ⟨q, 0, none⟩) 2 scap) := hT.bg.cell 1
    have c2 : _ = some (Value.int .i64 ac) := hT.bg.cell 2
    have c3 : _ = some (Value.int .i64 cl) := hT.bg.cell 3
    have xr := hT.br
    go_wp2_with (refine wpList_store_row rfl 37 (.tmp 2) _ rfl w.heap.size _ (by rfl) (by rfl) _ _ xr (by kernel_rfl) (by rfl) (by simp [Value.oneCell']) ?_)
    (try simp only [Exit.inBlock, Exit.then]); refine bodyPost_ret (results_cell_row rfl _ _ w.heap.size _ _ _ _ rfl (setRow_heap _ _ _ _ _ _ xr) Tryz.underlying37 rfl (by kernel_rfl)) rfl ?_
    exact ⟨_, ⟨by show 1 ≤ pn ∧ pn ≤ 11; omega, by show 1 ≤ 2 ∧ 2 ≤ 3; decide, HA.out, HC.out, HP.out, HS.out⟩, rfl, hT.only.setRow (Nat.le_refl _) _, hT.cur.setRow hp _, hT.rw.setRow xr _⟩
end Go.Proofs.YtodfdfncdoliiadGreat
