/-
  Chapter 7: the draws l6Id, l7Draw, l7Any: what is drawn is some Pt. Written by tools/drawpa.gen.py. Own work.
-/
import Derived.Test.YtodfdfncdoliiadGreatGDrawId2
import Derived.Test.YtodfdfncdoliiadGreatGPaA4
import Derived.Deep.DeepCutAuto
import Derived.Deep.CutBlock
namespace Go.Proofs.YtodfdfncdoliiadGreat
open Go.ChangeShapes Go.WideShapes Go.ChangeAt Go.RowKit
set_option maxRecDepth 100000
set_option linter.unusedVariables false
set_option linter.unusedSimpArgs false

theorem BoxPt.onlyP {w w' : World} {b t p : Nat} {q : Pt} (h : BoxPt w b t q) (ho : Only p w w') (hp : b ≠ p) : BoxPt w' b t q := (ho.block b h.lt hp).trans h
theorem BoxPt.froz {w : World} {b t : Nat} {q : Pt} (h : BoxPt w b t q) (j : Nat) : w.frozen? ⟨b, j, none⟩ = false := frozen_of_row w b j _ t h
theorem BoxPt.put {w : World} {b t : Nat} {q q' : Pt} (h : BoxPt w b t q) (j : Nat) (v : Value) (e : (#[.int .i64 q.kd, .int .i64 q.wh, .int .i64 q.sr, .int .i64 q.tr, .int .i64 q.pi, .int .i64 q.le, .int .i64 q.zo] : Array Value).setIfInBounds j v = #[.int .i64 q'.kd, .int .i64 q'.wh, .int .i64 q'.sr, .int .i64 q'.tr, .int .i64 q'.pi, .int .i64 q'.le, .int .i64 q'.zo]) : BoxPt (w.setCell ⟨b, j, none⟩ v) b t q' := by
  unfold BoxPt
  rw [Go.heap_setCell_same w b j _ t v h, e]
theorem pt_wf {a b c d e f g : Int} (h0 : inI64 a) (h1 : inI64 b) (h2 : inI64 c) (h3 : inI64 d) (h4 : inI64 e) (h5 : inI64 f) (h6 : inI64 g) : Pt.wf ⟨a, b, c, d, e, f, g⟩ := fun x hx => by
  simp only [List.mem_cons, List.mem_nil_iff, or_false] at hx
  rcases hx with rfl | rfl | rfl | rfl | rfl | rfl | rfl
  · exact wf_i64 h0
  · exact wf_i64 h1
  · exact wf_i64 h2
  · exact wf_i64 h3
  · exact wf_i64 h4
  · exact wf_i64 h5
  · exact wf_i64 h6
theorem pt_at {q : Pt} (h : q.wf) : inI64 q.kd ∧ inI64 q.wh ∧ inI64 q.sr ∧ inI64 q.tr ∧ inI64 q.pi ∧ inI64 q.le ∧ inI64 q.zo :=
  ⟨bounds_i64 (h _ (by simp)), bounds_i64 (h _ (by simp)), bounds_i64 (h _ (by simp)), bounds_i64 (h _ (by simp)), bounds_i64 (h _ (by simp)), bounds_i64 (h _ (by simp)), bounds_i64 (h _ (by simp))⟩
/-- while one is drawn: the cursor p, the state's cell and the answer's cell ahead of g, what is under way at g -/
structure PT (w : World) (p : Nat) (a : Option Addr) (len cap : Nat) (s : Stt) (g : Nat) (q : Pt) (u : World) : Prop where
  only : Only p w u
  cur : Cur u p a len cap
  pr : p < w.heap.size
  rg : w.heap.size + 1 < g
  bx : BoxR u w.heap.size 37 #[.slice s.pa s.pn s.pcap, .slice s.sa s.sn s.scap, .int .i64 s.ac, .int .i64 s.cl]
  br : BoxPt u (w.heap.size + 1) 25 ⟨0, 0, 0, 0, 0, 0, 0⟩
  bg : BoxPt u g 25 q
  wf : q.wf
section
variable {w : World} {p : Nat} {a : Option Addr} {len cap : Nat} {s : Stt} {g : Nat} {q : Pt} {u u' : World}
theorem PT.draw (h : PT w p a len cap s g q u) (ho : Only p u u') (hk : Cur u' p a len cap) : PT w p a len cap s g q u' :=
  have h1 := h.pr
  have h2 := h.rg
  ⟨h.only.trans ho, hk, h.pr, h.rg, h.bx.onlyR ho (by omega), h.br.onlyP ho (by omega), h.bg.onlyP ho (by omega), h.wf⟩
theorem PT.alloc (h : PT w p a len cap s g q u) (o : Obj) : PT w p a len cap s g q (u.alloc o) :=
  ⟨h.only.alloc o, h.cur.only ((Only.refl u.heap.size u).alloc o) (Nat.ne_of_lt h.cur.1), h.pr, h.rg, h.bx.alloc o, h.br.alloc o, h.bg.alloc o, h.wf⟩
theorem PT.put (h : PT w p a len cap s g q u) (j : Nat) (v : Value) {q' : Pt} (e : (#[.int .i64 q.kd, .int .i64 q.wh, .int .i64 q.sr, .int .i64 q.tr, .int .i64 q.pi, .int .i64 q.le, .int .i64 q.zo] : Array Value).setIfInBounds j v = #[.int .i64 q'.kd, .int .i64 q'.wh, .int .i64 q'.sr, .int .i64 q'.tr, .int .i64 q'.pi, .int .i64 q'.le, .int .i64 q'.zo]) (hw : q'.wf) : PT w p a len cap s g q' (u.setCell ⟨g, j, none⟩ v) :=
  have h1 := h.pr
  have h2 := h.rg
  ⟨h.only.setCell (.inr (by show w.heap.size ≤ g; omega)) v, h.cur.only ((Only.refl g u).setCell (.inl rfl) v) (by omega), h.pr, h.rg, (Below.heap_setCell _ _ _ _ (by show w.heap.size ≠ g; omega)).trans h.bx, (Below.heap_setCell _ _ _ _ (by show w.heap.size + 1 ≠ g; omega)).trans h.br, h.bg.put j v e, hw⟩
theorem PT.putKd (h : PT w p a len cap s g q u) {x : Int} (hx : inI64 x) : PT w p a len cap s g { q with kd := x } (u.setCell ⟨g, 0, none⟩ (.int .i64 x)) :=
  have k := pt_at h.wf
  h.put 0 _ rfl (pt_wf hx k.2.1 k.2.2.1 k.2.2.2.1 k.2.2.2.2.1 k.2.2.2.2.2.1 k.2.2.2.2.2.2)
theorem PT.putWh (h : PT w p a len cap s g q u) {x : Int} (hx : inI64 x) : PT w p a len cap s g { q with wh := x } (u.setCell ⟨g, 1, none⟩ (.int .i64 x)) :=
  have k := pt_at h.wf
  h.put 1 _ rfl (pt_wf k.1 hx k.2.2.1 k.2.2.2.1 k.2.2.2.2.1 k.2.2.2.2.2.1 k.2.2.2.2.2.2)
theorem PT.putSr (h : PT w p a len cap s g q u) {x : Int} (hx : inI64 x) : PT w p a len cap s g { q with sr := x } (u.setCell ⟨g, 2, none⟩ (.int .i64 x)) :=
  have k := pt_at h.wf
  h.put 2 _ rfl (pt_wf k.1 k.2.1 hx k.2.2.2.1 k.2.2.2.2.1 k.2.2.2.2.2.1 k.2.2.2.2.2.2)
theorem PT.putTr (h : PT w p a len cap s g q u) {x : Int} (hx : inI64 x) : PT w p a len cap s g { q with tr := x } (u.setCell ⟨g, 3, none⟩ (.int .i64 x)) :=
  have k := pt_at h.wf
  h.put 3 _ rfl (pt_wf k.1 k.2.1 k.2.2.1 hx k.2.2.2.2.1 k.2.2.2.2.2.1 k.2.2.2.2.2.2)
theorem PT.putPi (h : PT w p a len cap s g q u) {x : Int} (hx : inI64 x) : PT w p a len cap s g { q with pi := x } (u.setCell ⟨g, 4, none⟩ (.int .i64 x)) :=
  have k := pt_at h.wf
  h.put 4 _ rfl (pt_wf k.1 k.2.1 k.2.2.1 k.2.2.2.1 hx k.2.2.2.2.2.1 k.2.2.2.2.2.2)
theorem PT.putLe (h : PT w p a len cap s g q u) {x : Int} (hx : inI64 x) : PT w p a len cap s g { q with le := x } (u.setCell ⟨g, 5, none⟩ (.int .i64 x)) :=
  have k := pt_at h.wf
  h.put 5 _ rfl (pt_wf k.1 k.2.1 k.2.2.1 k.2.2.2.1 k.2.2.2.2.1 hx k.2.2.2.2.2.2)
theorem PT.putZo (h : PT w p a len cap s g q u) {x : Int} (hx : inI64 x) : PT w p a len cap s g { q with zo := x } (u.setCell ⟨g, 6, none⟩ (.int .i64 x)) :=
  have k := pt_at h.wf
  h.put 6 _ rfl (pt_wf k.1 k.2.1 k.2.2.1 k.2.2.2.1 k.2.2.2.2.1 k.2.2.2.2.2.1 hx)
end
set_option maxHeartbeats 8000000 in
theorem l7Draw_any (p : Nat) (a : Option Addr) (len cap : Nat) (s : Stt) (w : World) {B C : Nat} (hc : Code w a len B) (hB : B ≤ p) (hcur : Cur w p a len cap) (hs : anS s) (hrw : RowsT w C s) (hC : p < C) :
    Calls Tryz.prog 136 #[.pointer (some ⟨p, 0, none⟩), (.agg #[.slice s.pa s.pn s.pcap, .slice s.sa s.sn s.scap, .int .i64 s.ac, .int .i64 s.cl])] w fun e w' => ∃ q : Pt, q.wf ∧ e = .returned (.agg #[.int .i64 q.kd, .int .i64 q.wh, .int .i64 q.sr, .int .i64 q.tr, .int .i64 q.pi, .int .i64 q.le, .int .i64 q.zo]) ∧ Only p w w' ∧ Cur w' p a len cap := by
  have hp : p < w.heap.size := hcur.1
  have ho0 : Only p w ((w.alloc (.cells #[.slice s.pa s.pn s.pcap, .slice s.sa s.sn s.scap, .int .i64 s.ac, .int .i64 s.cl] 37)).alloc (.cells #[.int .i64 0, .int .i64 0, .int .i64 0, .int .i64 0, .int .i64 0, .int .i64 0, .int .i64 0] 25)) := ((Only.refl p w).alloc _).alloc _
  have hk0 : Cur ((w.alloc (.cells #[.slice s.pa s.pn s.pcap, .slice s.sa s.sn s.scap, .int .i64 s.ac, .int .i64 s.cl] 37)).alloc (.cells #[.int .i64 0, .int .i64 0, .int .i64 0, .int .i64 0, .int .i64 0, .int .i64 0, .int .i64 0] 25)) p a len cap := (hcur.only ((Only.refl w.heap.size w).alloc _) (Nat.ne_of_lt hp)).only ((Only.refl (w.heap.size + 1) _).alloc _) (by omega)
  have xb := (boxR_new w 37 #[.slice s.pa s.pn s.pcap, .slice s.sa s.sn s.scap, .int .i64 s.ac, .int .i64 s.cl]).alloc (.cells #[.int .i64 0, .int .i64 0, .int .i64 0, .int .i64 0, .int .i64 0, .int .i64 0, .int .i64 0] 25)
  have br : BoxPt ((w.alloc (.cells #[.slice s.pa s.pn s.pcap, .slice s.sa s.sn s.scap, .int .i64 s.ac, .int .i64 s.cl] 37)).alloc (.cells #[.int .i64 0, .int .i64 0, .int .i64 0, .int .i64 0, .int .i64 0, .int .i64 0, .int .i64 0] 25)) (w.heap.size + 1) 25 ⟨0, 0, 0, 0, 0, 0, 0⟩ := heap_alloc2_new _ _ _
  generalize hW : (w.alloc (.cells #[.slice s.pa s.pn s.pcap, .slice s.sa s.sn s.scap, .int .i64 s.ac, .int .i64 s.cl] 37)).alloc (.cells #[.int .i64 0, .int .i64 0, .int .i64 0, .int .i64 0, .int .i64 0, .int .i64 0, .int .i64 0] 25) = W at ho0 hk0 xb br
  have hlw : w.heap.size + 1 < W.heap.size := br.lt
  go_enter Tryz.func136, Tryz.ntmps136
  go_wp2_with fail
  clear hW hcur
  refine (l1Int_new p a len cap [1, 1, 1, 1, 2, 2, 3, 4, 5, 6] 3 _ (hc.only ho0 hB) hB hk0 (by decide) (by decide)).mono ?_
  rintro e y1_ ⟨kd, m_, rfl, ho, hk⟩
  have i_kd : inI64 kd := by simp at m_; unfold inI64; omega
  replace xb := xb.onlyR ho (by omega)
  replace br := br.onlyP ho (by omega)
  replace ho0 := ho0.trans ho
  clear hk0 ho m_
  have hk0 := hk
  clear hk
  go_wp2_with fail
  refine (l1Int_new p a len cap [0, 0, 1, 2] 3 _ (hc.only ho0 hB) hB hk0 (by decide) (by decide)).mono ?_
  rintro e y2_ ⟨wh, m_, rfl, ho, hk⟩
  have i_wh : inI64 wh := by simp at m_; unfold inI64; omega
  replace xb := xb.onlyR ho (by omega)
  replace br := br.onlyP ho (by omega)
  replace ho0 := ho0.trans ho
  clear hk0 ho m_
  have hk0 := hk
  clear hk
  have hlv : w.heap.size + 1 < y2_.heap.size := br.lt
  have i_0 : inI64 0 := by unfold inI64; omega
  have H : PT w p a len cap s y2_.heap.size ⟨kd, wh, 0, 0, 0, 0, 0⟩ (y2_.alloc (.cells #[.int .i64 (⟨kd, wh, 0, 0, 0, 0, 0⟩ : Pt).kd, .int .i64 (⟨kd, wh, 0, 0, 0, 0, 0⟩ : Pt).wh, .int .i64 (⟨kd, wh, 0, 0, 0, 0, 0⟩ : Pt).sr, .int .i64 (⟨kd, wh, 0, 0, 0, 0, 0⟩ : Pt).tr, .int .i64 (⟨kd, wh, 0, 0, 0, 0, 0⟩ : Pt).pi, .int .i64 (⟨kd, wh, 0, 0, 0, 0, 0⟩ : Pt).le, .int .i64 (⟨kd, wh, 0, 0, 0, 0, 0⟩ : Pt).zo] 25)) := ⟨ho0.alloc _, hk0.only ((Only.refl y2_.heap.size y2_).alloc _) (Nat.ne_of_lt hk0.1), hp, hlv, xb.alloc _, br.alloc _, boxPt_new _ _ _, pt_wf i_kd i_wh i_0 i_0 i_0 i_0 i_0⟩
  clear ho0 hk0 xb br hlw
  go_wp2_with fail
  obtain ⟨g, hg⟩ : ∃ g, y2_.heap.size = g := ⟨_, rfl⟩
  rw [hg] at H ⊢
  refine (l1Once_any p a len cap _ _ (hc.only H.only hB) hB H.cur).mono ?_
  rintro e y3_ ⟨b, rfl, ho, hk⟩
  replace H := H.draw ho hk
  clear ho hk
  clear hg
  go_upto_if 14 with fail
  generalize (⟨kd, wh, 0, 0, 0, 0, 0⟩ : Pt) = q0 at H
  go_cut [] (fun wc => ∃ q : Pt, PT w p a len cap s g q wc)
  case first =>
    cases b with
    | false =>
      go_wp2_with fail
      go_meet
      case rel => exact ⟨_, H⟩
    | true =>
      go_wp2_with fail
      refine (l1Int_new p a len cap [1, 2, 3] 3 _ (hc.only H.only hB) hB H.cur (by decide) (by decide)).mono ?_
      rintro e y4_ ⟨x1, m_, rfl, ho, hk⟩
      have i_x1 : inI64 x1 := by simp at m_; unfold inI64; omega
      replace H := H.draw ho hk
      clear ho hk
      clear m_
      have kj := H.bg.cells.2.2.2.2.2.1
      have fj := H.bg.froz 5
      have H' := H.putLe i_x1
      clear H
      go_wp2_with fail
      go_meet
      case rel => exact ⟨_, H'⟩
  case rest =>
    clear H
    obtain ⟨q, H⟩ := hcut
    have K0 : wc.cell? ⟨g, 0, none⟩ = some (.int .i64 q.kd) := H.bg.cells.1
    go_upto_block 0 with fail
    clear K0
    go_cut [] (fun wc => ∃ q : Pt, PT w p a len cap s g q wc)
    case first =>
      cases h1 : (q.kd == 1)
      case true =>
        go_wp2_with fail
        refine (l1Once_any p a len cap _ _ (hc.only H.only hB) hB H.cur).mono ?_
        rintro e y5_ ⟨b1, rfl, ho, hk⟩
        replace H := H.draw ho hk
        clear ho hk
        cases b1 with
        | false =>
          go_wp2_with fail
          refine (l1Once_any p a len cap _ _ (hc.only H.only hB) hB H.cur).mono ?_
          rintro e y6_ ⟨b2, rfl, ho, hk⟩
          replace H := H.draw ho hk
          clear ho hk
          cases b2 with
          | false =>
            go_wp2_with fail
            go_meet
            case rel => exact ⟨_, H⟩
          | true =>
            go_wp2_with fail
            refine (l1Int_new p a len cap [1, 2, 4, 3] 3 _ (hc.only H.only hB) hB H.cur (by decide) (by decide)).mono ?_
            rintro e y7_ ⟨x3, m_, rfl, ho, hk⟩
            have i_x3 : inI64 x3 := by simp at m_; unfold inI64; omega
            replace H := H.draw ho hk
            clear ho hk
            clear m_
            have kj := H.bg.cells.2.2.2.1
            have fj := H.bg.froz 3
            have H' := H.putTr i_x3
            clear H
            go_wp2_with fail
            go_meet
            case rel => exact ⟨_, H'⟩
        | true =>
          have X0 := H.bx.cell 0
          have X1 := H.bx.cell 1
          have X2 := H.bx.cell 2
          have X3 := H.bx.cell 3
          simp at X0 X1 X2 X3
          go_wp2_with fail
          refine (l6Id_any p a len cap s _ (hc.only H.only hB) hB H.cur hs (hrw.only H.only hC) hC).mono ?_
          rintro e y8_ ⟨x2, i_x2, rfl, ho, hk⟩
          replace H := H.draw ho hk
          clear ho hk
          clear X0 X1 X2 X3
          have kj := H.bg.cells.2.2.1
          have fj := H.bg.froz 2
          have H' := H.putSr i_x2
          clear H
          generalize hXy9_ : y8_.setCell ⟨g, 2, none⟩ (.int .i64 x2) = y9_ at H'
          go_wp2_with fail
          clear kj fj
          have H := H'
          clear H'
          refine (l1Once_any p a len cap _ _ (hc.only H.only hB) hB H.cur).mono ?_
          rintro e y10_ ⟨b2, rfl, ho, hk⟩
          replace H := H.draw ho hk
          clear ho hk
          cases b2 with
          | false =>
            go_wp2_with fail
            go_meet
            case rel => exact ⟨_, H⟩
          | true =>
            go_wp2_with fail
            refine (l1Int_new p a len cap [1, 2, 4, 3] 3 _ (hc.only H.only hB) hB H.cur (by decide) (by decide)).mono ?_
            rintro e y11_ ⟨x3, m_, rfl, ho, hk⟩
            have i_x3 : inI64 x3 := by simp at m_; unfold inI64; omega
            replace H := H.draw ho hk
            clear ho hk
            clear m_
            have kj := H.bg.cells.2.2.2.1
            have fj := H.bg.froz 3
            have H' := H.putTr i_x3
            clear H
            go_wp2_with fail
            go_meet
            case rel => exact ⟨_, H'⟩
      case false =>
        cases h2 : (q.kd == 2)
        case false =>
          go_wp2_with fail
          go_meet
          case rel => exact ⟨_, H⟩
        case true =>
          go_wp2_with fail
          refine (l1Int_new p a len cap [0, 3, 2] 3 _ (hc.only H.only hB) hB H.cur (by decide) (by decide)).mono ?_
          rintro e y12_ ⟨x4, m_, rfl, ho, hk⟩
          have i_x4 : inI64 x4 := by simp at m_; unfold inI64; omega
          replace H := H.draw ho hk
          clear ho hk
          clear m_
          have kj := H.bg.cells.2.2.2.2.2.2
          have fj := H.bg.froz 6
          have H' := H.putZo i_x4
          clear H
          generalize hXy13_ : y12_.setCell ⟨g, 6, none⟩ (.int .i64 x4) = y13_ at H'
          have kl : y13_.cell? ⟨g, 5, none⟩ = some (.int .i64 q.le) := H'.bg.cells.2.2.2.2.2.1
          have fl := H'.bg.froz 5
          have H2 := H'.putLe (x := 0) (by unfold inI64; omega)
          go_wp2_with fail
          go_meet
          case rel => exact ⟨_, H2⟩
    case rest =>
      clear H
      obtain ⟨q, H⟩ := hcut
      have K0 : wc.cell? ⟨g, 0, none⟩ = some (.int .i64 q.kd) := H.bg.cells.1
      cases h3 : (q.kd == 3)
      case true =>
        have HK : Hid (q.kd = 3) := by show q.kd = 3; simpa using h3
        obtain ⟨k0, k1, k2, k3, k4, k5, k6⟩ : CellsPt _ _ _ := H.bg.cells
        go_wp2_with (refine wpList_store_row rfl 25 (.tmp 4) _ rfl (w.heap.size + 1) _ (by rfl) (by rfl) _ _ H.br (by kernel_rfl) (by rfl) (by simp [Value.oneCell']) ?_)
        (try simp only [Exit.inBlock, Exit.then]); refine bodyPost_ret (results_cell_row rfl _ _ (w.heap.size + 1) _ _ _ _ rfl (setRow_heap _ _ _ _ _ _ H.br) Tryz.underlying25 rfl (by kernel_rfl)) rfl ?_
        exact ⟨_, H.wf, by rw [HK.out], H.only.setRow (by omega) _, H.cur.setRow (by omega) _⟩
      case false =>
        have h3b : (q.kd != 3) = true := by rw [bne, h3]; rfl
        cases h4 : (q.kd == 4)
        case true =>
          have HK : Hid (q.kd = 4) := by show q.kd = 4; simpa using h4
          obtain ⟨k0, k1, k2, k3, k4, k5, k6⟩ : CellsPt _ _ _ := H.bg.cells
          go_wp2_with (refine wpList_store_row rfl 25 (.tmp 4) _ rfl (w.heap.size + 1) _ (by rfl) (by rfl) _ _ H.br (by kernel_rfl) (by rfl) (by simp [Value.oneCell']) ?_)
          (try simp only [Exit.inBlock, Exit.then]); refine bodyPost_ret (results_cell_row rfl _ _ (w.heap.size + 1) _ _ _ _ rfl (setRow_heap _ _ _ _ _ _ H.br) Tryz.underlying25 rfl (by kernel_rfl)) rfl ?_
          exact ⟨_, H.wf, by rw [HK.out], H.only.setRow (by omega) _, H.cur.setRow (by omega) _⟩
        case false =>
          have h4b : (q.kd != 4) = true := by rw [bne, h4]; rfl
          go_wp2_with fail
          clear K0
          refine (l1Once_any p a len cap _ _ (hc.only H.only hB) hB H.cur).mono ?_
          rintro e y14_ ⟨b, rfl, ho, hk⟩
          replace H := H.draw ho hk
          clear ho hk
          cases b with
          | false =>
            obtain ⟨k0, k1, k2, k3, k4, k5, k6⟩ : CellsPt _ _ _ := H.bg.cells
            go_wp2_with (refine wpList_store_row rfl 25 (.tmp 4) _ rfl (w.heap.size + 1) _ (by rfl) (by rfl) _ _ H.br (by kernel_rfl) (by rfl) (by simp [Value.oneCell']) ?_)
            (try simp only [Exit.inBlock, Exit.then]); refine bodyPost_ret (results_cell_row rfl _ _ (w.heap.size + 1) _ _ _ _ rfl (setRow_heap _ _ _ _ _ _ H.br) Tryz.underlying25 rfl (by kernel_rfl)) rfl ?_
            exact ⟨_, H.wf, rfl, H.only.setRow (by omega) _, H.cur.setRow (by omega) _⟩
          | true =>
            have X0 := H.bx.cell 0
            have X1 := H.bx.cell 1
            have X2 := H.bx.cell 2
            have X3 := H.bx.cell 3
            simp at X0 X1 X2 X3
            go_wp2_with fail
            refine (l6Id_any p a len cap s _ (hc.only H.only hB) hB H.cur hs (hrw.only H.only hC) hC).mono ?_
            rintro e y15_ ⟨x5, i_x5, rfl, ho, hk⟩
            replace H := H.draw ho hk
            clear ho hk
            clear X0 X1 X2 X3
            have kj := H.bg.cells.2.2.2.2.1
            have fj := H.bg.froz 4
            have H' := H.putPi i_x5
            clear H
            generalize hXy16_ : y15_.setCell ⟨g, 4, none⟩ (.int .i64 x5) = y16_ at H'
            have H := H'
            obtain ⟨k0, k1, k2, k3, k4, k5, k6⟩ : CellsPt _ _ _ := H.bg.cells
            go_wp2_with (refine wpList_store_row rfl 25 (.tmp 4) _ rfl (w.heap.size + 1) _ (by rfl) (by rfl) _ _ H.br (by kernel_rfl) (by rfl) (by simp [Value.oneCell']) ?_)
            (try simp only [Exit.inBlock, Exit.then]); refine bodyPost_ret (results_cell_row rfl _ _ (w.heap.size + 1) _ _ _ _ rfl (setRow_heap _ _ _ _ _ _ H.br) Tryz.underlying25 rfl (by kernel_rfl)) rfl ?_
            exact ⟨_, H.wf, rfl, H.only.setRow (by omega) _, H.cur.setRow (by omega) _⟩
set_option maxHeartbeats 8000000 in
theorem l7Any_any (p : Nat) (a : Option Addr) (len cap : Nat) (s : Stt) (w : World) {B C : Nat} (hc : Code w a len B) (hB : B ≤ p) (hcur : Cur w p a len cap) (hs : anS s) (hrw : RowsT w C s) (hC : p < C) :
    Calls Tryz.prog 95 #[.pointer (some ⟨p, 0, none⟩), (.agg #[.slice s.pa s.pn s.pcap, .slice s.sa s.sn s.scap, .int .i64 s.ac, .int .i64 s.cl])] w fun e w' => ∃ q : Pt, q.wf ∧ e = .returned (.agg #[.int .i64 q.kd, .int .i64 q.wh, .int .i64 q.sr, .int .i64 q.tr, .int .i64 q.pi, .int .i64 q.le, .int .i64 q.zo]) ∧ Only p w w' ∧ Cur w' p a len cap := by
  have hp : p < w.heap.size := hcur.1
  have ho0 : Only p w ((w.alloc (.cells #[.slice s.pa s.pn s.pcap, .slice s.sa s.sn s.scap, .int .i64 s.ac, .int .i64 s.cl] 37)).alloc (.cells #[.int .i64 0, .int .i64 0, .int .i64 0, .int .i64 0, .int .i64 0, .int .i64 0, .int .i64 0] 25)) := ((Only.refl p w).alloc _).alloc _
  have hk0 : Cur ((w.alloc (.cells #[.slice s.pa s.pn s.pcap, .slice s.sa s.sn s.scap, .int .i64 s.ac, .int .i64 s.cl] 37)).alloc (.cells #[.int .i64 0, .int .i64 0, .int .i64 0, .int .i64 0, .int .i64 0, .int .i64 0, .int .i64 0] 25)) p a len cap := (hcur.only ((Only.refl w.heap.size w).alloc _) (Nat.ne_of_lt hp)).only ((Only.refl (w.heap.size + 1) _).alloc _) (by omega)
  have xb := (boxR_new w 37 #[.slice s.pa s.pn s.pcap, .slice s.sa s.sn s.scap, .int .i64 s.ac, .int .i64 s.cl]).alloc (.cells #[.int .i64 0, .int .i64 0, .int .i64 0, .int .i64 0, .int .i64 0, .int .i64 0, .int .i64 0] 25)
  have br : BoxPt ((w.alloc (.cells #[.slice s.pa s.pn s.pcap, .slice s.sa s.sn s.scap, .int .i64 s.ac, .int .i64 s.cl] 37)).alloc (.cells #[.int .i64 0, .int .i64 0, .int .i64 0, .int .i64 0, .int .i64 0, .int .i64 0, .int .i64 0] 25)) (w.heap.size + 1) 25 ⟨0, 0, 0, 0, 0, 0, 0⟩ := heap_alloc2_new _ _ _
  generalize hW : (w.alloc (.cells #[.slice s.pa s.pn s.pcap, .slice s.sa s.sn s.scap, .int .i64 s.ac, .int .i64 s.cl] 37)).alloc (.cells #[.int .i64 0, .int .i64 0, .int .i64 0, .int .i64 0, .int .i64 0, .int .i64 0, .int .i64 0] 25) = W at ho0 hk0 xb br
  have hlw : w.heap.size + 1 < W.heap.size := br.lt
  go_enter Tryz.func95, Tryz.ntmps95
  have hs0 := hs
  have X0 := xb.cell 0
  have X1 := xb.cell 1
  have X2 := xb.cell 2
  have X3 := xb.cell 3
  simp at X0 X1 X2 X3
  go_wp2_with fail
  clear hW hcur X0 X1 X2 X3
  refine (l7Draw_any p a len cap s _ (hc.only ho0 hB) hB hk0 hs (hrw.only ho0 hC) hC).mono ?_
  rintro e v0 ⟨q, hq, rfl, ho, hk⟩
  replace xb := xb.onlyR ho (by omega)
  replace br := br.onlyP ho (by omega)
  replace ho0 := ho0.trans ho
  clear hk0 ho
  have hlv : w.heap.size + 1 < v0.heap.size := br.lt
  have H : PT w p a len cap s v0.heap.size q (v0.alloc (.cells #[.int .i64 q.kd, .int .i64 q.wh, .int .i64 q.sr, .int .i64 q.tr, .int .i64 q.pi, .int .i64 q.le, .int .i64 q.zo] 25)) := ⟨ho0.alloc _, hk.only ((Only.refl v0.heap.size v0).alloc _) (Nat.ne_of_lt hk.1), hp, hlv, xb.alloc _, br.alloc _, boxPt_new _ _ _, hq⟩
  clear ho0 hk xb br hlw hq
  go_wp2_with fail
  obtain ⟨g, hg⟩ : ∃ g, v0.heap.size = g := ⟨_, rfl⟩
  rw [hg] at H ⊢
  refine (l1Below_any p a len cap _ _ (hc.only H.only hB) hB H.cur).mono ?_
  rintro e y1_ ⟨x, n0_, n1_, rfl, ho, hk⟩
  have n2_ := n1_ (by omega)
  replace H := H.draw ho hk
  clear ho hk
  clear n0_ n1_ n2_ hg
  go_upto_block 0 with fail
  go_cut [] (fun wc => ∃ q : Pt, PT w p a len cap s g q wc)
  case first =>
    cases t0 : (x == 0)
    case true =>
      go_wp2_with fail
      refine (l1Int_new p a len cap [0, 1, 2, 3, 7] 3 _ (hc.only H.only hB) hB H.cur (by decide) (by decide)).mono ?_
      rintro e y2_ ⟨z, m_, rfl, ho, hk⟩
      have i_z : inI64 z := by simp at m_; unfold inI64; omega
      replace H := H.draw ho hk
      clear ho hk
      clear m_
      have kj := H.bg.cells.1
      have fj := H.bg.froz 0
      have H' := H.putKd i_z
      clear H
      go_wp2_with fail
      go_meet
      case rel => exact ⟨_, H'⟩
    case false =>
      cases t1 : (x == 1)
      case true =>
        go_wp2_with fail
        refine (l1Int_new p a len cap [-1, 3] 3 _ (hc.only H.only hB) hB H.cur (by decide) (by decide)).mono ?_
        rintro e y3_ ⟨z, m_, rfl, ho, hk⟩
        have i_z : inI64 z := by simp at m_; unfold inI64; omega
        replace H := H.draw ho hk
        clear ho hk
        clear m_
        have kj := H.bg.cells.2.1
        have fj := H.bg.froz 1
        have H' := H.putWh i_z
        clear H
        go_wp2_with fail
        go_meet
        case rel => exact ⟨_, H'⟩
      case false =>
        cases t2 : (x == 2)
        case true =>
          go_wp2_with fail
          refine (l1Int_new p a len cap [-1, 1, 99, 100] 3 _ (hc.only H.only hB) hB H.cur (by decide) (by decide)).mono ?_
          rintro e y4_ ⟨z, m_, rfl, ho, hk⟩
          have i_z : inI64 z := by simp at m_; unfold inI64; omega
          replace H := H.draw ho hk
          clear ho hk
          clear m_
          have kj := H.bg.cells.2.2.1
          have fj := H.bg.froz 2
          have H' := H.putSr i_z
          clear H
          go_wp2_with fail
          go_meet
          case rel => exact ⟨_, H'⟩
        case false =>
          cases t3 : (x == 3)
          case true =>
            go_wp2_with fail
            refine (l1Int_new p a len cap [-1, 1, 63, 64] 3 _ (hc.only H.only hB) hB H.cur (by decide) (by decide)).mono ?_
            rintro e y5_ ⟨z, m_, rfl, ho, hk⟩
            have i_z : inI64 z := by simp at m_; unfold inI64; omega
            replace H := H.draw ho hk
            clear ho hk
            clear m_
            have kj := H.bg.cells.2.2.2.1
            have fj := H.bg.froz 3
            have H' := H.putTr i_z
            clear H
            go_wp2_with fail
            go_meet
            case rel => exact ⟨_, H'⟩
          case false =>
            cases t4 : (x == 4)
            case true =>
              go_wp2_with fail
              refine (l1Int_new p a len cap [-1, 1, 100] 3 _ (hc.only H.only hB) hB H.cur (by decide) (by decide)).mono ?_
              rintro e y6_ ⟨z, m_, rfl, ho, hk⟩
              have i_z : inI64 z := by simp at m_; unfold inI64; omega
              replace H := H.draw ho hk
              clear ho hk
              clear m_
              have kj := H.bg.cells.2.2.2.2.1
              have fj := H.bg.froz 4
              have H' := H.putPi i_z
              clear H
              go_wp2_with fail
              go_meet
              case rel => exact ⟨_, H'⟩
            case false =>
              cases t5 : (x == 5)
              case true =>
                go_wp2_with fail
                refine (l1Raw_any p a len cap _ (hc.only H.only hB) hB H.cur).mono ?_
                rintro e y7_ ⟨z, i_z, rfl, ho, hk⟩
                replace H := H.draw ho hk
                clear ho hk
                have kj := H.bg.cells.2.2.2.2.2.1
                have fj := H.bg.froz 5
                have H' := H.putLe i_z
                clear H
                go_wp2_with fail
                go_meet
                case rel => exact ⟨_, H'⟩
              case false =>
                cases t6 : (x == 6)
                case true =>
                  go_wp2_with fail
                  refine (l1Int_new p a len cap [-1, 2, 5] 3 _ (hc.only H.only hB) hB H.cur (by decide) (by decide)).mono ?_
                  rintro e y8_ ⟨z, m_, rfl, ho, hk⟩
                  have i_z : inI64 z := by simp at m_; unfold inI64; omega
                  replace H := H.draw ho hk
                  clear ho hk
                  clear m_
                  have kj := H.bg.cells.2.2.2.2.2.2
                  have fj := H.bg.froz 6
                  have H' := H.putZo i_z
                  clear H
                  go_wp2_with fail
                  go_meet
                  case rel => exact ⟨_, H'⟩
                case false =>
                  go_wp2_with fail
                  go_meet
                  case rel => exact ⟨_, H⟩
  case rest =>
    clear H
    obtain ⟨q, H⟩ := hcut
    obtain ⟨k0, k1, k2, k3, k4, k5, k6⟩ : CellsPt _ _ _ := H.bg.cells
    go_wp2_with (refine wpList_store_row rfl 25 (.tmp 4) _ rfl (w.heap.size + 1) _ (by rfl) (by rfl) _ _ H.br (by kernel_rfl) (by rfl) (by simp [Value.oneCell']) ?_)
    (try simp only [Exit.inBlock, Exit.then]); refine bodyPost_ret (results_cell_row rfl _ _ (w.heap.size + 1) _ _ _ _ rfl (setRow_heap _ _ _ _ _ _ H.br) Tryz.underlying25 rfl (by kernel_rfl)) rfl ?_
    exact ⟨_, H.wf, rfl, H.only.setRow (by omega) _, H.cur.setRow (by omega) _⟩
end Go.Proofs.YtodfdfncdoliiadGreat
