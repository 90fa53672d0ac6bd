/-
  Chapter 6: the draw l6Id. Written by tools/drawpa.gen.py. Chapter 6: the draws l6Draw, l6Any: what is drawn is some Ev. Written by tools/drawev.gen.py. Own work.
-/
import Derived.Test.YtodfdfncdoliiadGreatDrawT3
import Derived.Deep.RegionHeld
import Derived.Test.YtodfdfncdoliiadGreatGEvA3
import Derived.Deep.DeepCutAuto
import Derived.Deep.CutBlock
namespace Go.Proofs.YtodfdfncdoliiadGreat
open Go.ChangeShapes Go.WideShapes Go.ChangeAt Go.RowKit
set_option maxRecDepth 100000
set_option linter.unusedVariables false
set_option linter.unusedSimpArgs false

theorem piece_id {u : World} {B q c n : Nat} {G : Nat → Pc} (h : u.ownsRow B 139 13 (.slice (some ⟨q, 0, none⟩) n c) n (valsE pcC n G)) {k : Nat} (hk : k < n) : u.cell? ⟨q, k * 13, none⟩ = some (.int .i64 (G k).id) := by
  have e0 := h.cellAt (k * 13 + 0) (by omega)
  rw [valsE_get pcC_len n G k 0 hk (by omega)] at e0
  exact e0
set_option maxHeartbeats 2000000 in
theorem l6Id_any (p : Nat) (a : Option Addr) (len cap : Nat) (s : Stt) (w : World) {B C : Nat} (hc : Code w a len B) (hB : B ≤ p) (hcur : Cur w p a len cap) (hs : anS s) (hrw : RowsT w C s) (hC : p < C) :
    Calls Tryz.prog 102 #[.pointer (some ⟨p, 0, none⟩), (.agg #[.slice s.pa s.pn s.pcap, .slice s.sa s.sn s.scap, .int .i64 s.ac, .int .i64 s.cl])] w fun e w' => ∃ x : Int, inI64 x ∧ e = .returned (.int .i64 x) ∧ Only p w w' ∧ Cur w' p a len cap := by
  have hp : p < w.heap.size := hcur.1
  obtain ⟨q, hq⟩ := row_some hrw.op (by have := hs.pn; omega)
  have hpn := hs.pn
  have HI : Hid (∀ j, j < s.pn → inI64 (s.ps j).id) := fun j hj => bounds_i64 (hs.ps j hj _ (by simp))
  have hz : (((s.pn : Nat) : Int) == 0) = false := by simp; omega
  have ho0 : Only p w (w.alloc (.cells #[.slice s.pa s.pn s.pcap, .slice s.sa s.sn s.scap, .int .i64 s.ac, .int .i64 s.cl] 37)) := (Only.refl p w).alloc _
  have hk0 : Cur (w.alloc (.cells #[.slice s.pa s.pn s.pcap, .slice s.sa s.sn s.scap, .int .i64 s.ac, .int .i64 s.cl] 37)) p a len cap := hcur.only ((Only.refl w.heap.size w).alloc _) (Nat.ne_of_lt hp)
  have xb := boxR_new w 37 #[.slice s.pa s.pn s.pcap, .slice s.sa s.sn s.scap, .int .i64 s.ac, .int .i64 s.cl]
  have hr0 : RowsT (w.alloc (.cells #[.slice s.pa s.pn s.pcap, .slice s.sa s.sn s.scap, .int .i64 s.ac, .int .i64 s.cl] 37)) C s := hrw.only ho0 hC
  generalize hW : w.alloc (.cells #[.slice s.pa s.pn s.pcap, .slice s.sa s.sn s.scap, .int .i64 s.ac, .int .i64 s.cl] 37) = W at ho0 hk0 xb hr0
  have hls : w.heap.size < W.heap.size := xb.lt
  clear hs hrw
  rw [hq] at xb hW ⊢
  have HQ : Hid (s.pa = some ⟨q, 0, none⟩) := hq
  clear hq
  go_enter Tryz.func102, Tryz.ntmps102
  have x0 := xb.cell 0
  simp at x0
  go_wp2_with fail
  clear hW hcur x0
  refine (l1Once_any p a len cap _ _ (hc.only ho0 hB) hB hk0).mono ?_
  rintro e v1 ⟨b, rfl, ho, hk⟩
  replace ho0 := ho0.trans ho
  replace xb := xb.onlyR ho (by omega)
  replace hr0 := hr0.only ho hC
  clear hk0 ho
  cases b with
  | true =>
    go_wp2_with fail
    refine (l1Below_any p a len cap _ _ (hc.only ho0 hB) hB hk).mono ?_
    rintro e v2 ⟨x, hx0, hx1, rfl, ho, hk⟩
    have hx2 := hx1 (by omega)
    go_wp2
    go_ret
    exact ⟨_, ⟨by omega, by omega⟩, rfl, ho0.trans ho, hk⟩
  | false =>
    go_wp2_with fail
    have hcD : Code v1.drew a len B := hc.only ho0.drew hB
    have hrD : RowsT v1.drew C s := ⟨hr0.op, hr0.os⟩
    have hkD : Cur v1.drew p a len cap := hk
    have xd : v1.cell? ⟨w.heap.size, 0, none⟩ = some (.slice (some ⟨q, 0, none⟩) s.pn s.pcap) := by have := xb.cell 0; simpa using this
    have hlv : w.heap.size < v1.heap.size := xb.lt
    have SK : ∀ u : World, Only p v1.drew u → u.cell? ⟨w.heap.size, 0, none⟩ = some (.slice (some ⟨q, 0, none⟩) s.pn s.pcap) ∧ ∀ j : Nat, j < s.pn → u.cell? ⟨q, j * 13, none⟩ = some (.int .i64 (s.ps j).id) := fun u hu => ⟨(hu.cell (q := ⟨w.heap.size, 0, none⟩) hlv (by show w.heap.size ≠ p; omega)).trans xd, fun j hj => piece_id (by have h9 := (hrD.only hu hC).op; rwa [HQ.out] at h9) hj⟩
    have SA := SK _ (Only.refl _ _)
    clear xd
    go_region_held (fun u : World => u.cell? ⟨w.heap.size, 0, none⟩ = some (.slice (some ⟨q, 0, none⟩) s.pn s.pcap) ∧ ∀ j : Nat, j < s.pn → u.cell? ⟨q, j * 13, none⟩ = some (.int .i64 (s.ps j).id)) (first | exact SA | exact SK _ ho2) ((go_at_call 52; refine (l1Below_any p a len cap _ v1.drew hcD hB hkD).mono ?_; rintro e v2 ⟨x, hx0, hx1, rfl, ho2, hk2⟩; have hx2 := hx1 (by omega); obtain ⟨k, rfl⟩ := Int.eq_ofNat_of_zero_le hx0; have hlt : k < s.pn := (by omega)))
    all_goals go_wp2
    all_goals go_ret
    all_goals exact ⟨_, HI.out k hlt, rfl, ho0.drew.trans ho2, hk2⟩
end Go.Proofs.YtodfdfncdoliiadGreat
namespace Go.Proofs.YtodfdfncdoliiadGreat
open Go.ChangeShapes Go.WideShapes Go.ChangeAt Go.RowKit
set_option maxRecDepth 100000
set_option linter.unusedVariables false
set_option linter.unusedSimpArgs false

theorem BoxE.onlyP {w w' : World} {b t p : Nat} {q : Ev} (h : BoxE w b t q) (ho : Only p w w') (hp : b ≠ p) : BoxE w' b t q := (ho.block b h.lt hp).trans h
theorem BoxE.froz {w : World} {b t : Nat} {q : Ev} (h : BoxE w b t q) (j : Nat) : w.frozen? ⟨b, j, none⟩ = false := frozen_of_row w b j _ t h
theorem BoxE.put {w : World} {b t : Nat} {q q' : Ev} (h : BoxE w b t q) (j : Nat) (v : Value) (e : (#[.int .i64 q.kd, .int .i64 q.sr, .int .i64 q.pi, .int .i64 q.si, .int .i64 q.nn, .int .i64 q.zo, .bool q.be] : Array Value).setIfInBounds j v = #[.int .i64 q'.kd, .int .i64 q'.sr, .int .i64 q'.pi, .int .i64 q'.si, .int .i64 q'.nn, .int .i64 q'.zo, .bool q'.be]) : BoxE (w.setCell ⟨b, j, none⟩ v) b t q' := by
  unfold BoxE
  rw [Go.heap_setCell_same w b j _ t v h, e]
theorem ev_wf {a b c d e f : Int} {x : Bool} (h0 : inI64 a) (h1 : inI64 b) (h2 : inI64 c) (h3 : inI64 d) (h4 : inI64 e) (h5 : inI64 f) : Ev.wf ⟨a, b, c, d, e, f, x⟩ := fun x hx => by
  simp only [List.mem_cons, List.mem_nil_iff, or_false] at hx
  rcases hx with rfl | rfl | rfl | rfl | rfl | rfl
  · exact wf_i64 h0
  · exact wf_i64 h1
  · exact wf_i64 h2
  · exact wf_i64 h3
  · exact wf_i64 h4
  · exact wf_i64 h5
theorem ev_at {q : Ev} (h : q.wf) : inI64 q.kd ∧ inI64 q.sr ∧ inI64 q.pi ∧ inI64 q.si ∧ inI64 q.nn ∧ inI64 q.zo :=
  ⟨bounds_i64 (h _ (by simp)), bounds_i64 (h _ (by simp)), bounds_i64 (h _ (by simp)), bounds_i64 (h _ (by simp)), bounds_i64 (h _ (by simp)), bounds_i64 (h _ (by simp))⟩
/-- while one is drawn: the cursor p, the state's cell and the answer's cell ahead of g, what is under way at g -/
structure PE (w : World) (p : Nat) (a : Option Addr) (len cap : Nat) (s : Stt) (g : Nat) (q : Ev) (u : World) : Prop where
  only : Only p w u
  cur : Cur u p a len cap
  pr : p < w.heap.size
  rg : w.heap.size + 1 < g
  bx : BoxR u w.heap.size 37 #[.slice s.pa s.pn s.pcap, .slice s.sa s.sn s.scap, .int .i64 s.ac, .int .i64 s.cl]
  br : BoxE u (w.heap.size + 1) 39 ⟨0, 0, 0, 0, 0, 0, false⟩
  bg : BoxE u g 39 q
  wf : q.wf
section
variable {w : World} {p : Nat} {a : Option Addr} {len cap : Nat} {s : Stt} {g : Nat} {q : Ev} {u u' : World}
theorem PE.draw (h : PE w p a len cap s g q u) (ho : Only p u u') (hk : Cur u' p a len cap) : PE w p a len cap s g q u' :=
  have h1 := h.pr
  have h2 := h.rg
  ⟨h.only.trans ho, hk, h.pr, h.rg, h.bx.onlyR ho (by omega), h.br.onlyP ho (by omega), h.bg.onlyP ho (by omega), h.wf⟩
theorem PE.put (h : PE w p a len cap s g q u) (j : Nat) (v : Value) {q' : Ev} (e : (#[.int .i64 q.kd, .int .i64 q.sr, .int .i64 q.pi, .int .i64 q.si, .int .i64 q.nn, .int .i64 q.zo, .bool q.be] : Array Value).setIfInBounds j v = #[.int .i64 q'.kd, .int .i64 q'.sr, .int .i64 q'.pi, .int .i64 q'.si, .int .i64 q'.nn, .int .i64 q'.zo, .bool q'.be]) (hw : q'.wf) : PE w p a len cap s g q' (u.setCell ⟨g, j, none⟩ v) :=
  have h1 := h.pr
  have h2 := h.rg
  ⟨h.only.setCell (.inr (by show w.heap.size ≤ g; omega)) v, h.cur.only ((Only.refl g u).setCell (.inl rfl) v) (by omega), h.pr, h.rg, (Below.heap_setCell _ _ _ _ (by show w.heap.size ≠ g; omega)).trans h.bx, (Below.heap_setCell _ _ _ _ (by show w.heap.size + 1 ≠ g; omega)).trans h.br, h.bg.put j v e, hw⟩
theorem PE.putKd (h : PE w p a len cap s g q u) {x : Int} (hx : inI64 x) : PE w p a len cap s g { q with kd := x } (u.setCell ⟨g, 0, none⟩ (.int .i64 x)) :=
  have k := ev_at h.wf
  h.put 0 _ rfl (ev_wf hx k.2.1 k.2.2.1 k.2.2.2.1 k.2.2.2.2.1 k.2.2.2.2.2)
theorem PE.putSr (h : PE w p a len cap s g q u) {x : Int} (hx : inI64 x) : PE w p a len cap s g { q with sr := x } (u.setCell ⟨g, 1, none⟩ (.int .i64 x)) :=
  have k := ev_at h.wf
  h.put 1 _ rfl (ev_wf k.1 hx k.2.2.1 k.2.2.2.1 k.2.2.2.2.1 k.2.2.2.2.2)
theorem PE.putPi (h : PE w p a len cap s g q u) {x : Int} (hx : inI64 x) : PE w p a len cap s g { q with pi := x } (u.setCell ⟨g, 2, none⟩ (.int .i64 x)) :=
  have k := ev_at h.wf
  h.put 2 _ rfl (ev_wf k.1 k.2.1 hx k.2.2.2.1 k.2.2.2.2.1 k.2.2.2.2.2)
theorem PE.putSi (h : PE w p a len cap s g q u) {x : Int} (hx : inI64 x) : PE w p a len cap s g { q with si := x } (u.setCell ⟨g, 3, none⟩ (.int .i64 x)) :=
  have k := ev_at h.wf
  h.put 3 _ rfl (ev_wf k.1 k.2.1 k.2.2.1 hx k.2.2.2.2.1 k.2.2.2.2.2)
theorem PE.putNn (h : PE w p a len cap s g q u) {x : Int} (hx : inI64 x) : PE w p a len cap s g { q with nn := x } (u.setCell ⟨g, 4, none⟩ (.int .i64 x)) :=
  have k := ev_at h.wf
  h.put 4 _ rfl (ev_wf k.1 k.2.1 k.2.2.1 k.2.2.2.1 hx k.2.2.2.2.2)
theorem PE.putZo (h : PE w p a len cap s g q u) {x : Int} (hx : inI64 x) : PE w p a len cap s g { q with zo := x } (u.setCell ⟨g, 5, none⟩ (.int .i64 x)) :=
  have k := ev_at h.wf
  h.put 5 _ rfl (ev_wf k.1 k.2.1 k.2.2.1 k.2.2.2.1 k.2.2.2.2.1 hx)
theorem PE.putBe (h : PE w p a len cap s g q u) (x : Bool) : PE w p a len cap s g { q with be := x } (u.setCell ⟨g, 6, none⟩ (.bool x)) :=
  have k := ev_at h.wf
  h.put 6 _ rfl (ev_wf k.1 k.2.1 k.2.2.1 k.2.2.2.1 k.2.2.2.2.1 k.2.2.2.2.2)
end
set_option maxHeartbeats 8000000 in
theorem l6Draw_any (p : Nat) (a : Option Addr) (len cap : Nat) (s : Stt) (w : World) {B C : Nat} (hc : Code w a len B) (hB : B ≤ p) (hcur : Cur w p a len cap) (hs : anS s) (hrw : RowsT w C s) (hC : p < C) :
    Calls Tryz.prog 49 #[.pointer (some ⟨p, 0, none⟩), (.agg #[.slice s.pa s.pn s.pcap, .slice s.sa s.sn s.scap, .int .i64 s.ac, .int .i64 s.cl])] w fun e w' => ∃ q : Ev, q.wf ∧ e = .returned (.agg #[.int .i64 q.kd, .int .i64 q.sr, .int .i64 q.pi, .int .i64 q.si, .int .i64 q.nn, .int .i64 q.zo, .bool q.be]) ∧ Only p w w' ∧ Cur w' p a len cap := by
  have hp : p < w.heap.size := hcur.1
  have ho0 : Only p w ((w.alloc (.cells #[.slice s.pa s.pn s.pcap, .slice s.sa s.sn s.scap, .int .i64 s.ac, .int .i64 s.cl] 37)).alloc (.cells #[.int .i64 0, .int .i64 0, .int .i64 0, .int .i64 0, .int .i64 0, .int .i64 0, .bool false] 39)) := ((Only.refl p w).alloc _).alloc _
  have hk0 : Cur ((w.alloc (.cells #[.slice s.pa s.pn s.pcap, .slice s.sa s.sn s.scap, .int .i64 s.ac, .int .i64 s.cl] 37)).alloc (.cells #[.int .i64 0, .int .i64 0, .int .i64 0, .int .i64 0, .int .i64 0, .int .i64 0, .bool false] 39)) p a len cap := (hcur.only ((Only.refl w.heap.size w).alloc _) (Nat.ne_of_lt hp)).only ((Only.refl (w.heap.size + 1) _).alloc _) (by omega)
  have xb := (boxR_new w 37 #[.slice s.pa s.pn s.pcap, .slice s.sa s.sn s.scap, .int .i64 s.ac, .int .i64 s.cl]).alloc (.cells #[.int .i64 0, .int .i64 0, .int .i64 0, .int .i64 0, .int .i64 0, .int .i64 0, .bool false] 39)
  have br : BoxE ((w.alloc (.cells #[.slice s.pa s.pn s.pcap, .slice s.sa s.sn s.scap, .int .i64 s.ac, .int .i64 s.cl] 37)).alloc (.cells #[.int .i64 0, .int .i64 0, .int .i64 0, .int .i64 0, .int .i64 0, .int .i64 0, .bool false] 39)) (w.heap.size + 1) 39 ⟨0, 0, 0, 0, 0, 0, false⟩ := heap_alloc2_new _ _ _
  generalize hW : (w.alloc (.cells #[.slice s.pa s.pn s.pcap, .slice s.sa s.sn s.scap, .int .i64 s.ac, .int .i64 s.cl] 37)).alloc (.cells #[.int .i64 0, .int .i64 0, .int .i64 0, .int .i64 0, .int .i64 0, .int .i64 0, .bool false] 39) = W at ho0 hk0 xb br
  have hlw : w.heap.size + 1 < W.heap.size := br.lt
  go_enter Tryz.func49, Tryz.ntmps49
  go_wp2_with fail
  clear hW hcur
  refine (l1Int_new p a len cap [1, 1, 1, 2, 2, 3, 4, 5, 6] 3 _ (hc.only ho0 hB) hB hk0 (by decide) (by decide)).mono ?_
  rintro e y1_ ⟨kd, m_, rfl, ho, hk⟩
  have i_kd : inI64 kd := by simp at m_; unfold inI64; omega
  replace xb := xb.onlyR ho (by omega)
  replace br := br.onlyP ho (by omega)
  replace ho0 := ho0.trans ho
  clear hk0 ho m_
  have hlv : w.heap.size + 1 < y1_.heap.size := br.lt
  have i_0 : inI64 0 := by unfold inI64; omega
  have i_1 : inI64 (-1) := by unfold inI64; omega
  have H : PE w p a len cap s y1_.heap.size ⟨kd, 0, 0, -1, 0, 0, false⟩ (y1_.alloc (.cells #[.int .i64 kd, .int .i64 0, .int .i64 0, .int .i64 (-1), .int .i64 0, .int .i64 0, .bool false] 39)) := ⟨ho0.alloc _, hk.only ((Only.refl y1_.heap.size y1_).alloc _) (Nat.ne_of_lt hk.1), hp, hlv, xb.alloc _, br.alloc _, (boxR_new _ _ _ : BoxR (y1_.alloc (.cells #[.int .i64 kd, .int .i64 0, .int .i64 0, .int .i64 (-1), .int .i64 0, .int .i64 0, .bool false] 39)) _ _ _), ev_wf i_kd i_0 i_0 i_1 i_0 i_0⟩
  clear ho0 hk xb br hlw i_1
  go_upto_region 2 with fail
  generalize hN : y1_.alloc (.cells #[.int .i64 kd, .int .i64 0, .int .i64 0, .int .i64 (-1), .int .i64 0, .int .i64 0, .bool false] 39) = V at H ⊢
  clear hN
  obtain ⟨g, hg⟩ : ∃ g, y1_.heap.size = g := ⟨_, rfl⟩
  rw [hg] at H hlv ⊢
  clear hg
  go_wp2_with fail
  refine (l1Int_new p a len cap [1, 2, 3, 5, 0, 8, 2147483647] 3 _ (hc.only H.only hB) hB H.cur (by decide) (by decide)).mono ?_
  rintro e y2_ ⟨nn, m_, rfl, ho, hk⟩
  have i_nn : inI64 nn := by simp at m_; unfold inI64; omega
  replace H := H.draw ho hk
  clear ho hk
  clear m_
  have kj4 := H.bg.cells.2.2.2.2.1
  have fj4 := H.bg.froz 4
  have H' := H.putNn i_nn
  clear H
  generalize hXy3_ : y2_.setCell ⟨g, 4, none⟩ (.int .i64 nn) = y3_ at H'
  have H := H'
  clear H'
  have K0 : y3_.cell? ⟨g, 0, none⟩ = some (.int .i64 kd) := H.bg.cells.1
  go_upto_block 0 with fail
  clear kj4 fj4
  clear K0
  generalize ({ (⟨kd, 0, 0, -1, 0, 0, false⟩ : Ev) with nn := nn } : Ev) = q0 at H
  go_cut [] (fun wc => ∃ q : Ev, PE w p a len cap s g q wc)
  case first =>
    cases h1 : (kd == 1)
    case true =>
      have X0 := H.bx.cell 0
      have X1 := H.bx.cell 1
      have X2 := H.bx.cell 2
      have X3 := H.bx.cell 3
      simp at X0 X1 X2 X3
      go_wp2_with fail
      refine (l6Id_any p a len cap s _ (hc.only H.only hB) hB H.cur hs (hrw.only H.only hC) hC).mono ?_
      rintro e y4_ ⟨x1, i_x1, rfl, ho, hk⟩
      replace H := H.draw ho hk
      clear ho hk
      clear X0 X1 X2 X3
      have kj1 := H.bg.cells.2.1
      have fj1 := H.bg.froz 1
      have H' := H.putSr i_x1
      clear H
      generalize hXy5_ : y4_.setCell ⟨g, 1, none⟩ (.int .i64 x1) = y5_ at H'
      have H := H'
      clear H'
      go_wp2_with fail
      clear kj1 fj1
      refine (l1Once_any p a len cap _ _ (hc.only H.only hB) hB H.cur).mono ?_
      rintro e y6_ ⟨b, rfl, ho, hk⟩
      replace H := H.draw ho hk
      clear ho hk
      cases b with
      | true =>
        go_wp2_with fail
        refine (l1Below_any p a len cap _ _ (hc.only H.only hB) hB H.cur).mono ?_
        rintro e y7_ ⟨x2, n0_, n1_, rfl, ho, hk⟩
        have n2_ := n1_ (by omega)
        replace H := H.draw ho hk
        clear ho hk
        have i_x2 : inI64 x2 := by unfold inI64; omega
        clear n0_ n1_ n2_
        have kj3 := H.bg.cells.2.2.2.1
        have fj3 := H.bg.froz 3
        have H' := H.putSi i_x2
        clear H
        go_wp2_with fail
        go_meet
        case rel => exact ⟨_, H'⟩
      | false =>
        have X0 := H.bx.cell 0
        have X1 := H.bx.cell 1
        have X2 := H.bx.cell 2
        have X3 := H.bx.cell 3
        simp at X0 X1 X2 X3
        go_wp2_with fail
        refine (l6Id_any p a len cap s _ (hc.only H.only hB) hB H.cur hs (hrw.only H.only hC) hC).mono ?_
        rintro e y8_ ⟨x2, i_x2, rfl, ho, hk⟩
        replace H := H.draw ho hk
        clear ho hk
        clear X0 X1 X2 X3
        have kj2 := H.bg.cells.2.2.1
        have fj2 := H.bg.froz 2
        have H' := H.putPi i_x2
        clear H
        go_wp2_with fail
        go_meet
        case rel => exact ⟨_, H'⟩
    case false =>
      cases h2 : (kd == 2)
      case true =>
        have X0 := H.bx.cell 0
        have X1 := H.bx.cell 1
        have X2 := H.bx.cell 2
        have X3 := H.bx.cell 3
        simp at X0 X1 X2 X3
        go_wp2_with fail
        refine (l6Id_any p a len cap s _ (hc.only H.only hB) hB H.cur hs (hrw.only H.only hC) hC).mono ?_
        rintro e y9_ ⟨x1, i_x1, rfl, ho, hk⟩
        replace H := H.draw ho hk
        clear ho hk
        clear X0 X1 X2 X3
        have kj2 := H.bg.cells.2.2.1
        have fj2 := H.bg.froz 2
        have H' := H.putPi i_x1
        clear H
        generalize hXy10_ : y9_.setCell ⟨g, 2, none⟩ (.int .i64 x1) = y10_ at H'
        have H := H'
        clear H'
        have kj4 := H.bg.cells.2.2.2.2.1
        have fj4 := H.bg.froz 4
        have H' := H.putNn i_0
        clear H
        generalize hXy11_ : y10_.setCell ⟨g, 4, none⟩ (.int .i64 0) = y11_ at H'
        have H := H'
        clear H'
        go_wp2_with fail
        clear kj4 fj4
        clear kj2 fj2
        refine (l1Int_new p a len cap [3, 3, 1, 2, 4] 3 _ (hc.only H.only hB) hB H.cur (by decide) (by decide)).mono ?_
        rintro e y12_ ⟨zo, m_, rfl, ho, hk⟩
        have i_zo : inI64 zo := by simp at m_; unfold inI64; omega
        replace H := H.draw ho hk
        clear ho hk
        clear m_
        have kj5 := H.bg.cells.2.2.2.2.2.1
        have fj5 := H.bg.froz 5
        have H' := H.putZo i_zo
        clear H
        generalize hXy13_ : y12_.setCell ⟨g, 5, none⟩ (.int .i64 zo) = y13_ at H'
        have H := H'
        clear H'
        have Kz : y13_.cell? ⟨g, 5, none⟩ = some (.int .i64 zo) := H.bg.cells.2.2.2.2.2.1
        cases hz : (zo == 2)
        case false =>
          go_wp2_with fail
          go_meet
          case rel => exact ⟨_, H⟩
        case true =>
          go_wp2_with fail
          clear kj5 fj5
          clear Kz
          refine (l1Int_new p a len cap [0, 0, 1, 2] 3 _ (hc.only H.only hB) hB H.cur (by decide) (by decide)).mono ?_
          rintro e y14_ ⟨n2, m_, rfl, ho, hk⟩
          have i_n2 : inI64 n2 := by simp at m_; unfold inI64; omega
          replace H := H.draw ho hk
          clear ho hk
          clear m_
          have kj4 := H.bg.cells.2.2.2.2.1
          have fj4 := H.bg.froz 4
          have H' := H.putNn i_n2
          clear H
          generalize hXy15_ : y14_.setCell ⟨g, 4, none⟩ (.int .i64 n2) = y15_ at H'
          have H := H'
          clear H'
          go_wp2_with fail
          clear kj4 fj4
          refine (l1Once_any p a len cap _ _ (hc.only H.only hB) hB H.cur).mono ?_
          rintro e y16_ ⟨b, rfl, ho, hk⟩
          replace H := H.draw ho hk
          clear ho hk
          have kj6 := H.bg.cells.2.2.2.2.2.2
          have fj6 := H.bg.froz 6
          have H' := H.putBe b
          clear H
          go_wp2_with fail
          go_meet
          case rel => exact ⟨_, H'⟩
      case false =>
        cases h3 : (kd == 3)
        case true =>
          go_wp2_with fail
          refine (l1Below_any p a len cap _ _ (hc.only H.only hB) hB H.cur).mono ?_
          rintro e y17_ ⟨x2, n0_, n1_, rfl, ho, hk⟩
          have n2_ := n1_ (by omega)
          replace H := H.draw ho hk
          clear ho hk
          have i_x2 : inI64 x2 := by unfold inI64; omega
          clear n0_ n1_ n2_
          have kj3 := H.bg.cells.2.2.2.1
          have fj3 := H.bg.froz 3
          have H' := H.putSi i_x2
          clear H
          go_wp2_with fail
          go_meet
          case rel => exact ⟨_, H'⟩
        case false =>
          cases h4 : (kd == 4)
          case true =>
            go_wp2_with fail
            refine (l1Below_any p a len cap _ _ (hc.only H.only hB) hB H.cur).mono ?_
            rintro e y18_ ⟨x2, n0_, n1_, rfl, ho, hk⟩
            have n2_ := n1_ (by omega)
            replace H := H.draw ho hk
            clear ho hk
            have i_x2 : inI64 x2 := by unfold inI64; omega
            clear n0_ n1_ n2_
            have kj3 := H.bg.cells.2.2.2.1
            have fj3 := H.bg.froz 3
            have H' := H.putSi i_x2
            clear H
            go_wp2_with fail
            go_meet
            case rel => exact ⟨_, H'⟩
          case false =>
            have X0 := H.bx.cell 0
            have X1 := H.bx.cell 1
            have X2 := H.bx.cell 2
            have X3 := H.bx.cell 3
            simp at X0 X1 X2 X3
            go_wp2_with fail
            refine (l6Id_any p a len cap s _ (hc.only H.only hB) hB H.cur hs (hrw.only H.only hC) hC).mono ?_
            rintro e y19_ ⟨x2, i_x2, rfl, ho, hk⟩
            replace H := H.draw ho hk
            clear ho hk
            clear X0 X1 X2 X3
            have kj2 := H.bg.cells.2.2.1
            have fj2 := H.bg.froz 2
            have H' := H.putPi i_x2
            clear H
            go_wp2_with fail
            go_meet
            case rel => exact ⟨_, H'⟩
  case rest =>
    clear H
    obtain ⟨q, H⟩ := hcut
    obtain ⟨k0, k1, k2, k3, k4, k5, k6⟩ : Cells7 _ _ _ := H.bg.cells
    go_wp2_with (refine wpList_store_row rfl 39 (.tmp 4) _ rfl (w.heap.size + 1) _ (by rfl) (by rfl) _ _ H.br (by kernel_rfl) (by rfl) (by simp [Value.oneCell']) ?_)
    (try simp only [Exit.inBlock, Exit.then]); refine bodyPost_ret (results_cell_row rfl _ _ (w.heap.size + 1) _ _ _ _ rfl (setRow_heap _ _ _ _ _ _ H.br) Tryz.underlying39 rfl (by kernel_rfl)) rfl ?_
    exact ⟨_, H.wf, rfl, H.only.setRow (by omega) _, H.cur.setRow (by omega) _⟩
set_option maxHeartbeats 8000000 in
theorem l6Any_any (p : Nat) (a : Option Addr) (len cap : Nat) (s : Stt) (w : World) {B C : Nat} (hc : Code w a len B) (hB : B ≤ p) (hcur : Cur w p a len cap) (hs : anS s) (hrw : RowsT w C s) (hC : p < C) :
    Calls Tryz.prog 48 #[.pointer (some ⟨p, 0, none⟩), (.agg #[.slice s.pa s.pn s.pcap, .slice s.sa s.sn s.scap, .int .i64 s.ac, .int .i64 s.cl])] w fun e w' => ∃ q : Ev, q.wf ∧ e = .returned (.agg #[.int .i64 q.kd, .int .i64 q.sr, .int .i64 q.pi, .int .i64 q.si, .int .i64 q.nn, .int .i64 q.zo, .bool q.be]) ∧ Only p w w' ∧ Cur w' p a len cap := by
  have hp : p < w.heap.size := hcur.1
  have ho0 : Only p w ((w.alloc (.cells #[.slice s.pa s.pn s.pcap, .slice s.sa s.sn s.scap, .int .i64 s.ac, .int .i64 s.cl] 37)).alloc (.cells #[.int .i64 0, .int .i64 0, .int .i64 0, .int .i64 0, .int .i64 0, .int .i64 0, .bool false] 39)) := ((Only.refl p w).alloc _).alloc _
  have hk0 : Cur ((w.alloc (.cells #[.slice s.pa s.pn s.pcap, .slice s.sa s.sn s.scap, .int .i64 s.ac, .int .i64 s.cl] 37)).alloc (.cells #[.int .i64 0, .int .i64 0, .int .i64 0, .int .i64 0, .int .i64 0, .int .i64 0, .bool false] 39)) p a len cap := (hcur.only ((Only.refl w.heap.size w).alloc _) (Nat.ne_of_lt hp)).only ((Only.refl (w.heap.size + 1) _).alloc _) (by omega)
  have xb := (boxR_new w 37 #[.slice s.pa s.pn s.pcap, .slice s.sa s.sn s.scap, .int .i64 s.ac, .int .i64 s.cl]).alloc (.cells #[.int .i64 0, .int .i64 0, .int .i64 0, .int .i64 0, .int .i64 0, .int .i64 0, .bool false] 39)
  have br : BoxE ((w.alloc (.cells #[.slice s.pa s.pn s.pcap, .slice s.sa s.sn s.scap, .int .i64 s.ac, .int .i64 s.cl] 37)).alloc (.cells #[.int .i64 0, .int .i64 0, .int .i64 0, .int .i64 0, .int .i64 0, .int .i64 0, .bool false] 39)) (w.heap.size + 1) 39 ⟨0, 0, 0, 0, 0, 0, false⟩ := heap_alloc2_new _ _ _
  generalize hW : (w.alloc (.cells #[.slice s.pa s.pn s.pcap, .slice s.sa s.sn s.scap, .int .i64 s.ac, .int .i64 s.cl] 37)).alloc (.cells #[.int .i64 0, .int .i64 0, .int .i64 0, .int .i64 0, .int .i64 0, .int .i64 0, .bool false] 39) = W at ho0 hk0 xb br
  have hlw : w.heap.size + 1 < W.heap.size := br.lt
  go_enter Tryz.func48, Tryz.ntmps48
  have X0 := xb.cell 0
  have X1 := xb.cell 1
  have X2 := xb.cell 2
  have X3 := xb.cell 3
  simp at X0 X1 X2 X3
  go_wp2_with fail
  clear hW hcur X0 X1 X2 X3
  refine (l6Draw_any p a len cap s _ (hc.only ho0 hB) hB hk0 hs (hrw.only ho0 hC) hC).mono ?_
  rintro e v0 ⟨q, hq, rfl, ho, hk⟩
  replace xb := xb.onlyR ho (by omega)
  replace br := br.onlyP ho (by omega)
  replace ho0 := ho0.trans ho
  clear hk0 ho
  have hlv : w.heap.size + 1 < v0.heap.size := br.lt
  have H : PE w p a len cap s v0.heap.size q (v0.alloc (.cells #[.int .i64 q.kd, .int .i64 q.sr, .int .i64 q.pi, .int .i64 q.si, .int .i64 q.nn, .int .i64 q.zo, .bool q.be] 39)) := ⟨ho0.alloc _, hk.only ((Only.refl v0.heap.size v0).alloc _) (Nat.ne_of_lt hk.1), hp, hlv, xb.alloc _, br.alloc _, (boxR_new _ _ _ : BoxR (v0.alloc (.cells #[.int .i64 q.kd, .int .i64 q.sr, .int .i64 q.pi, .int .i64 q.si, .int .i64 q.nn, .int .i64 q.zo, .bool q.be] 39)) _ _ _), hq⟩
  clear ho0 hk xb br hlw hq
  go_wp2_with fail
  generalize hN : v0.alloc (.cells #[.int .i64 q.kd, .int .i64 q.sr, .int .i64 q.pi, .int .i64 q.si, .int .i64 q.nn, .int .i64 q.zo, .bool q.be] 39) = V at H ⊢
  clear hN
  obtain ⟨g, hg⟩ : ∃ g, v0.heap.size = g := ⟨_, rfl⟩
  rw [hg] at H hlv ⊢
  clear hg
  refine (l1Below_any p a len cap _ _ (hc.only H.only hB) hB H.cur).mono ?_
  rintro e y1_ ⟨x, n0_, n1_, rfl, ho, hk⟩
  replace H := H.draw ho hk
  clear ho hk
  clear n0_ n1_
  go_upto_block 0 with fail
  go_cut [] (fun wc => ∃ q : Ev, PE w p a len cap s g q wc)
  case first =>
    cases t0 : (x == 0)
    case true =>
      go_wp2_with fail
      refine (l1Int_new p a len cap [0, 1, 2, 3, 5, 7] 3 _ (hc.only H.only hB) hB H.cur (by decide) (by decide)).mono ?_
      rintro e y2_ ⟨z, m_, rfl, ho, hk⟩
      have i_z : inI64 z := by simp at m_; unfold inI64; omega
      replace H := H.draw ho hk
      clear ho hk
      clear m_
      have kj0 := H.bg.cells.1
      have fj0 := H.bg.froz 0
      have H' := H.putKd i_z
      clear H
      go_wp2_with fail
      go_meet
      case rel => exact ⟨_, H'⟩
    case false =>
      cases t1 : (x == 1)
      case true =>
        go_wp2_with fail
        refine (l1Int_new p a len cap [0, 1, 99, 100] 3 _ (hc.only H.only hB) hB H.cur (by decide) (by decide)).mono ?_
        rintro e y3_ ⟨z, m_, rfl, ho, hk⟩
        have i_z : inI64 z := by simp at m_; unfold inI64; omega
        replace H := H.draw ho hk
        clear ho hk
        clear m_
        have kj1 := H.bg.cells.2.1
        have fj1 := H.bg.froz 1
        have H' := H.putSr i_z
        clear H
        go_wp2_with fail
        go_meet
        case rel => exact ⟨_, H'⟩
      case false =>
        cases t2 : (x == 2)
        case true =>
          go_wp2_with fail
          refine (l1Int_new p a len cap [0, 99, 100, -1] 3 _ (hc.only H.only hB) hB H.cur (by decide) (by decide)).mono ?_
          rintro e y4_ ⟨z, m_, rfl, ho, hk⟩
          have i_z : inI64 z := by simp at m_; unfold inI64; omega
          replace H := H.draw ho hk
          clear ho hk
          clear m_
          have kj2 := H.bg.cells.2.2.1
          have fj2 := H.bg.froz 2
          have H' := H.putPi i_z
          clear H
          go_wp2_with fail
          go_meet
          case rel => exact ⟨_, H'⟩
        case false =>
          cases t3 : (x == 3)
          case true =>
            go_wp2_with fail
            refine (l1Int_new p a len cap [-2, -1, 0, 2, 3] 3 _ (hc.only H.only hB) hB H.cur (by decide) (by decide)).mono ?_
            rintro e y5_ ⟨z, m_, rfl, ho, hk⟩
            have i_z : inI64 z := by simp at m_; unfold inI64; omega
            replace H := H.draw ho hk
            clear ho hk
            clear m_
            have kj3 := H.bg.cells.2.2.2.1
            have fj3 := H.bg.froz 3
            have H' := H.putSi i_z
            clear H
            go_wp2_with fail
            go_meet
            case rel => exact ⟨_, H'⟩
          case false =>
            cases t4 : (x == 4)
            case true =>
              go_wp2_with fail
              refine (l1Raw_any p a len cap _ (hc.only H.only hB) hB H.cur).mono ?_
              rintro e y6_ ⟨z, i_z, rfl, ho, hk⟩
              replace H := H.draw ho hk
              clear ho hk
              have kj4 := H.bg.cells.2.2.2.2.1
              have fj4 := H.bg.froz 4
              have H' := H.putNn i_z
              clear H
              go_wp2_with fail
              go_meet
              case rel => exact ⟨_, H'⟩
            case false =>
              cases t5 : (x == 5)
              case true =>
                go_wp2_with fail
                refine (l1Int_new p a len cap [0, 2, 4, 5] 3 _ (hc.only H.only hB) hB H.cur (by decide) (by decide)).mono ?_
                rintro e y7_ ⟨z, m_, rfl, ho, hk⟩
                have i_z : inI64 z := by simp at m_; unfold inI64; omega
                replace H := H.draw ho hk
                clear ho hk
                clear m_
                have kj5 := H.bg.cells.2.2.2.2.2.1
                have fj5 := H.bg.froz 5
                have H' := H.putZo i_z
                clear H
                go_wp2_with fail
                go_meet
                case rel => exact ⟨_, H'⟩
              case false =>
                cases t6 : (x == 6)
                case true =>
                  have kj6 := H.bg.cells.2.2.2.2.2.2
                  have fj6 := H.bg.froz 6
                  have H' := H.putBe (!q.be)
                  clear H
                  go_wp2_with fail
                  go_meet
                  case rel => exact ⟨_, H'⟩
                case false =>
                  go_wp2_with fail
                  go_meet
                  case rel => exact ⟨_, H⟩
  case rest =>
    clear H
    obtain ⟨q, H⟩ := hcut
    obtain ⟨k0, k1, k2, k3, k4, k5, k6⟩ : Cells7 _ _ _ := H.bg.cells
    go_wp2_with (refine wpList_store_row rfl 39 (.tmp 4) _ rfl (w.heap.size + 1) _ (by rfl) (by rfl) _ _ H.br (by kernel_rfl) (by rfl) (by simp [Value.oneCell']) ?_)
    (try simp only [Exit.inBlock, Exit.then]); refine bodyPost_ret (results_cell_row rfl _ _ (w.heap.size + 1) _ _ _ _ rfl (setRow_heap _ _ _ _ _ _ H.br) Tryz.underlying39 rfl (by kernel_rfl)) rfl ?_
    exact ⟨_, H.wf, rfl, H.only.setRow (by omega) _, H.cur.setRow (by omega) _⟩
end Go.Proofs.YtodfdfncdoliiadGreat
