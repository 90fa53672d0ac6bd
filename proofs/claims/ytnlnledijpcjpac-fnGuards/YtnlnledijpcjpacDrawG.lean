/-
  Chapter 8: the draws l8Draw, l8Any, DrawBentOf, DrawStronger, DrawHolds. Written by tools/drawgu.gen.py. Chapter 8: the draws DrawBentOf, DrawStronger, DrawHolds. Written by tools/drawgv.gen.py. Own work.
-/
import Derived.Test.YtnlnledijpcjpacDrawT6
import Derived.Test.YtnlnledijpcjpacGuS
import Derived.Deep.DeepCutAuto
import Derived.Deep.CutBlock
import Derived.Deep.RegionHeld
namespace Go.Proofs.Ytnlnledijpcjpac
open Go.ChangeShapes Go.WideShapes Go.ChangeAt Go.RowKit
set_option maxRecDepth 100000
set_option linter.unusedVariables false
set_option linter.unusedSimpArgs false

theorem BoxGd.onlyP {w w' : World} {b t p : Nat} {q : Gd} (h : BoxGd w b t q) (ho : Only p w w') (hp : b ≠ p) : BoxGd w' b t q := (ho.block b h.lt hp).trans h
theorem BoxGd.froz {w : World} {b t : Nat} {q : Gd} (h : BoxGd w b t q) (j : Nat) : w.frozen? ⟨b, j, none⟩ = false := frozen_of_row w b j _ t h
theorem BoxGd.put {w : World} {b t : Nat} {q q' : Gd} (h : BoxGd w b t q) (j : Nat) (v : Value) (e : (#[.int .i64 q.kd, .int .i64 q.nn] : Array Value).setIfInBounds j v = #[.int .i64 q'.kd, .int .i64 q'.nn]) : BoxGd (w.setCell ⟨b, j, none⟩ v) b t q' := by
  unfold BoxGd
  rw [Go.heap_setCell_same w b j _ t v h, e]
theorem BoxGd.old {w : World} {p q : Nat} {t : Nat} {x : Gd} {cs : Array Value} (h : BoxGd w p t x) (hne : p ≠ q) : BoxGd (w.setRow q cs) p t x := by
  unfold BoxGd World.setRow
  simp only [Array.getElem?_modify]
  rw [if_neg (Ne.symm hne)]
  exact h
theorem BoxGd.newRow {w : World} {q t : Nat} {x y : Gd} (h : BoxGd w q t x) : BoxGd (w.setRow q #[.int .i64 y.kd, .int .i64 y.nn]) q t y := setRow_heap _ _ _ _ _ _ h
theorem BoxGd.other {w : World} {b t : Nat} {x : Gd} (h : BoxGd w b t x) {q : Addr} (hq : b ≠ q.block) (v : Value) : BoxGd (w.setCell q v) b t x := (Below.heap_setCell w q v b hq).trans h
/-- while one is drawn: the cursor p, the answer's cell ahead of g, what is under way at g -/
structure PG (w : World) (p : Nat) (a : Option Addr) (len cap : Nat) (g : Nat) (q : Gd) (u : World) : Prop where
  only : Only p w u
  cur : Cur u p a len cap
  pr : p < w.heap.size
  rg : w.heap.size < g
  br : BoxGd u w.heap.size 42 ⟨0, 0⟩
  bg : BoxGd u g 42 q
section
variable {w : World} {p : Nat} {a : Option Addr} {len cap : Nat} {g : Nat} {q : Gd} {u u' : World}
theorem PG.draw (h : PG w p a len cap g q u) (ho : Only p u u') (hk : Cur u' p a len cap) : PG w p a len cap g q u' :=
  have h1 := h.pr
  have h2 := h.rg
  ⟨h.only.trans ho, hk, h.pr, h.rg, h.br.onlyP ho (by omega), h.bg.onlyP ho (by omega)⟩
theorem PG.put (h : PG w p a len cap g q u) (j : Nat) (v : Value) {q' : Gd} (e : (#[.int .i64 q.kd, .int .i64 q.nn] : Array Value).setIfInBounds j v = #[.int .i64 q'.kd, .int .i64 q'.nn]) : PG w p a len cap g q' (u.setCell ⟨g, j, none⟩ v) :=
  have h1 := h.pr
  have h2 := h.rg
  ⟨h.only.setCell (.inr (by show w.heap.size ≤ g; omega)) v, h.cur.only ((Only.refl g u).setCell (.inl rfl) v) (by omega), h.pr, h.rg, (Below.heap_setCell _ _ _ _ (by show w.heap.size ≠ g; omega)).trans h.br, h.bg.put j v e⟩
theorem PG.putKd (h : PG w p a len cap g q u) (x : Int) : PG w p a len cap g ⟨x, q.nn⟩ (u.setCell ⟨g, 0, none⟩ (.int .i64 x)) := h.put 0 _ rfl
theorem PG.putNn (h : PG w p a len cap g q u) (x : Int) : PG w p a len cap g ⟨q.kd, x⟩ (u.setCell ⟨g, 1, none⟩ (.int .i64 x)) := h.put 1 _ rfl
end
set_option maxHeartbeats 8000000 in
theorem l8Draw_any (p : Nat) (a : Option Addr) (len cap : Nat) (w : World) {B : Nat} (hc : Code w a len B) (hB : B ≤ p) (hcur : Cur w p a len cap) :
    Calls Try.prog 82 #[.pointer (some ⟨p, 0, none⟩)] w fun e w' => ∃ q : Gd, e = .returned (.agg #[.int .i64 q.kd, .int .i64 q.nn]) ∧ Only p w w' ∧ Cur w' p a len cap := by
  have hp : p < w.heap.size := hcur.1
  have ho0 : Only p w (w.alloc (.cells #[.int .i64 0, .int .i64 0] 42)) := (Only.refl p w).alloc _
  have hk0 : Cur (w.alloc (.cells #[.int .i64 0, .int .i64 0] 42)) p a len cap := hcur.only ((Only.refl w.heap.size w).alloc _) (Nat.ne_of_lt hp)
  have br : BoxGd (w.alloc (.cells #[.int .i64 0, .int .i64 0] 42)) w.heap.size 42 ⟨0, 0⟩ := boxGd_new w 42 ⟨0, 0⟩
  generalize hW : w.alloc (.cells #[.int .i64 0, .int .i64 0] 42) = W at ho0 hk0 br
  have hlw : w.heap.size < W.heap.size := br.lt
  go_enter Try.func82, Try.ntmps82
  go_wp2_with fail
  clear hW hcur
  refine (l1Once_any p a len cap _ _ (hc.only ho0 hB) hB hk0).mono ?_
  rintro e v1 ⟨b, rfl, ho, hk⟩
  replace br := br.onlyP ho (by omega)
  replace ho0 := ho0.trans ho
  clear hk0 ho
  cases b with
  | false =>
    go_wp2_with (refine wpList_store_row rfl 42 (.tmp 2) _ rfl w.heap.size #[.int .i64 0, .int .i64 0] (by rfl) (by rfl) _ _ br (by kernel_rfl) (by rfl) (by simp [Value.oneCell']) ?_)
    (try simp only [Exit.inBlock, Exit.then]); refine bodyPost_ret (results_cell_row rfl _ _ w.heap.size _ _ _ _ rfl (setRow_heap _ _ _ _ _ _ br) Try.underlying42 rfl (by kernel_rfl)) rfl ?_
    exact ⟨⟨0, 0⟩, rfl, ho0.setRow (by omega) _, hk.setRow (by omega) _⟩
  | true =>
    go_wp2_with fail
    refine (l1Below_any p a len cap _ _ (hc.only ho0 hB) hB hk).mono ?_
    rintro e v2 ⟨x, hx0, hx1, rfl, ho, hk2⟩
    have hx2 := hx1 (by omega)
    replace br := br.onlyP ho (by omega)
    replace ho0 := ho0.trans ho
    clear hk ho hx1
    have hlv : w.heap.size < v2.heap.size := br.lt
    have H : PG w p a len cap v2.heap.size ⟨1 + x, 0⟩ (v2.alloc (.cells #[.int .i64 (1 + x), .int .i64 0] 42)) := ⟨ho0.alloc _, hk2.only ((Only.refl v2.heap.size v2).alloc _) (Nat.ne_of_lt hk2.1), hp, hlv, br.alloc _, boxGd_new v2 42 ⟨1 + x, 0⟩⟩
    clear ho0 hk2 br hlw
    go_upto_block 0 with fail
    generalize hV : v2.alloc (.cells #[.int .i64 (1 + x), .int .i64 0] 42) = V at H ⊢
    clear hV
    obtain ⟨g, hg⟩ : ∃ g, v2.heap.size = g := ⟨_, rfl⟩
    rw [hg] at H hlv ⊢
    clear hg
    go_cut [] (fun wc => ∃ q : Gd, PG w p a len cap g q wc)
    case first =>
      have hkk : x = 0 ∨ x = 1 ∨ x = 2 ∨ x = 3 := by omega
      clear hx0 hx2
      rcases hkk with rfl | rfl | rfl | rfl
      · go_wp2_with fail
        refine (l1Int_new p a len cap [3, 10, 20, 1] 3 _ (hc.only H.only hB) hB H.cur (by decide) (by decide)).mono ?_
        rintro e y1_ ⟨z, m_, rfl, ho, hk⟩
        replace H := H.draw ho hk
        clear ho hk
        clear m_
        have kj := H.bg.cells.2
        have fj := H.bg.froz 1
        have H' := H.putNn z
        clear H
        go_wp2_with fail
        go_meet
        case rel => exact ⟨_, H'⟩
      · go_wp2_with fail
        refine (l1Int_new p a len cap [0, 1, 2] 3 _ (hc.only H.only hB) hB H.cur (by decide) (by decide)).mono ?_
        rintro e y2_ ⟨z, m_, rfl, ho, hk⟩
        replace H := H.draw ho hk
        clear ho hk
        clear m_
        have kj := H.bg.cells.2
        have fj := H.bg.froz 1
        have H' := H.putNn z
        clear H
        go_wp2_with fail
        go_meet
        case rel => exact ⟨_, H'⟩
      · go_wp2_with fail
        go_meet
        case rel => exact ⟨_, H⟩
      · go_wp2_with fail
        refine (l1Int_new p a len cap [0, 1, 2] 3 _ (hc.only H.only hB) hB H.cur (by decide) (by decide)).mono ?_
        rintro e y3_ ⟨z, m_, rfl, ho, hk⟩
        replace H := H.draw ho hk
        clear ho hk
        clear m_
        have kj := H.bg.cells.2
        have fj := H.bg.froz 1
        have H' := H.putNn z
        clear H
        go_wp2_with fail
        go_meet
        case rel => exact ⟨_, H'⟩
    case rest =>
      clear H
      obtain ⟨q, H⟩ := hcut
      obtain ⟨k0, k1⟩ : CellsGd _ _ _ := H.bg.cells
      go_wp2_with (refine wpList_store_row rfl 42 (.tmp 2) _ rfl w.heap.size _ (by rfl) (by rfl) _ _ H.br (by kernel_rfl) (by rfl) (by simp [Value.oneCell']) ?_)
      (try simp only [Exit.inBlock, Exit.then]); refine bodyPost_ret (results_cell_row rfl _ _ w.heap.size _ _ _ _ rfl (setRow_heap _ _ _ _ _ _ H.br) Try.underlying42 rfl (by kernel_rfl)) rfl ?_
      exact ⟨_, rfl, H.only.setRow (by omega) _, H.cur.setRow (by omega) _⟩
set_option maxHeartbeats 8000000 in
theorem l8Any_any (p : Nat) (a : Option Addr) (len cap : Nat) (w : World) {B : Nat} (hc : Code w a len B) (hB : B ≤ p) (hcur : Cur w p a len cap) :
    Calls Try.prog 56 #[.pointer (some ⟨p, 0, none⟩)] w fun e w' => ∃ q : Gd, e = .returned (.agg #[.int .i64 q.kd, .int .i64 q.nn]) ∧ Only p w w' ∧ Cur w' p a len cap := by
  have hp : p < w.heap.size := hcur.1
  have ho0 : Only p w (w.alloc (.cells #[.int .i64 0, .int .i64 0] 42)) := (Only.refl p w).alloc _
  have hk0 : Cur (w.alloc (.cells #[.int .i64 0, .int .i64 0] 42)) p a len cap := hcur.only ((Only.refl w.heap.size w).alloc _) (Nat.ne_of_lt hp)
  have br : BoxGd (w.alloc (.cells #[.int .i64 0, .int .i64 0] 42)) w.heap.size 42 ⟨0, 0⟩ := boxGd_new w 42 ⟨0, 0⟩
  generalize hW : w.alloc (.cells #[.int .i64 0, .int .i64 0] 42) = W at ho0 hk0 br
  have hlw : w.heap.size < W.heap.size := br.lt
  go_enter Try.func56, Try.ntmps56
  go_wp2_with fail
  clear hW hcur
  refine (l8Draw_any p a len cap _ (hc.only ho0 hB) hB hk0).mono ?_
  rintro e v0 ⟨q, rfl, ho, hk⟩
  replace br := br.onlyP ho (by omega)
  replace ho0 := ho0.trans ho
  clear hk0 ho
  have hlv : w.heap.size < v0.heap.size := br.lt
  have H : PG w p a len cap v0.heap.size q (v0.alloc (.cells #[.int .i64 q.kd, .int .i64 q.nn] 42)) := ⟨ho0.alloc _, hk.only ((Only.refl v0.heap.size v0).alloc _) (Nat.ne_of_lt hk.1), hp, hlv, br.alloc _, boxGd_new _ _ _⟩
  clear ho0 hk br hlw
  go_wp2_with fail
  obtain ⟨g, hg⟩ : ∃ g, v0.heap.size = g := ⟨_, rfl⟩
  rw [hg] at H ⊢
  refine (l1Below_any p a len cap _ _ (hc.only H.only hB) hB H.cur).mono ?_
  rintro e y1_ ⟨x, n0_, n1_, rfl, ho, hk⟩
  have n2_ := n1_ (by omega)
  replace H := H.draw ho hk
  clear ho hk
  clear n0_ n1_ n2_ hg
  go_upto_block 0 with fail
  go_cut [] (fun wc => ∃ q : Gd, PG w p a len cap g q wc)
  case first =>
    cases t0 : (x == 0)
    case true =>
      go_wp2_with fail
      refine (l1Int_new p a len cap [-1, 1, 2, 3, 4, 5] 3 _ (hc.only H.only hB) hB H.cur (by decide) (by decide)).mono ?_
      rintro e y2_ ⟨z, m_, rfl, ho, hk⟩
      replace H := H.draw ho hk
      clear ho hk
      clear m_
      have kj := H.bg.cells.1
      have fj := H.bg.froz 0
      have H' := H.putKd z
      clear H
      go_wp2_with fail
      go_meet
      case rel => exact ⟨_, H'⟩
    case false =>
      cases t1 : (x == 1)
      case true =>
        go_wp2_with fail
        refine (l1Raw_any p a len cap _ (hc.only H.only hB) hB H.cur).mono ?_
        rintro e y3_ ⟨z, i_z, rfl, ho, hk⟩
        replace H := H.draw ho hk
        clear ho hk
        have kj := H.bg.cells.2
        have fj := H.bg.froz 1
        have H' := H.putNn z
        clear H
        go_wp2_with fail
        go_meet
        case rel => exact ⟨_, H'⟩
      case false =>
        cases t2 : (x == 2)
        case true =>
          go_wp2_with fail
          refine (l1Int_new p a len cap [1, 8, 9, -1] 3 _ (hc.only H.only hB) hB H.cur (by decide) (by decide)).mono ?_
          rintro e y4_ ⟨z, m_, rfl, ho, hk⟩
          replace H := H.draw ho hk
          clear ho hk
          clear m_
          have kj := H.bg.cells.2
          have fj := H.bg.froz 1
          have H' := H.putNn z
          clear H
          go_wp2_with fail
          go_meet
          case rel => exact ⟨_, H'⟩
        case false =>
          go_wp2_with fail
          go_meet
          case rel => exact ⟨_, H⟩
  case rest =>
    clear H
    obtain ⟨q, H⟩ := hcut
    obtain ⟨k0, k1⟩ : CellsGd _ _ _ := H.bg.cells
    go_wp2_with (refine wpList_store_row rfl 42 (.tmp 2) _ rfl w.heap.size _ (by rfl) (by rfl) _ _ H.br (by kernel_rfl) (by rfl) (by simp [Value.oneCell']) ?_)
    (try simp only [Exit.inBlock, Exit.then]); refine bodyPost_ret (results_cell_row rfl _ _ w.heap.size _ _ _ _ rfl (setRow_heap _ _ _ _ _ _ H.br) Try.underlying42 rfl (by kernel_rfl)) rfl ?_
    exact ⟨_, rfl, H.only.setRow (by omega) _, H.cur.setRow (by omega) _⟩
end Go.Proofs.Ytnlnledijpcjpac
namespace Go.Proofs.Ytnlnledijpcjpac
open Go.ChangeShapes Go.WideShapes Go.ChangeAt Go.RowKit
set_option maxRecDepth 100000
set_option linter.unusedVariables false
set_option linter.unusedSimpArgs false

set_option maxHeartbeats 1000000 in
theorem drawBentOf_any (a : Option Addr) (len cap : Nat) (w : World) (hc : Code w a len w.heap.size) :
    Calls Try.prog 22 #[.slice a len cap] w fun e w' => ∃ (s : Stt) (x : Int), anS s ∧ inI64 x ∧ e = .returned (.tuple #[(.agg #[.slice s.pa s.pn s.pcap, .slice s.sa s.sn s.scap, .int .i64 s.ac, .int .i64 s.cl]), .int .i64 x]) ∧ Below w.heap.size w w' ∧ OwnT w' w.heap.size s ∧ FullT s := by
  have hb0 := (Below.refl _ w).alloc (Nat.le_refl _) (.cells #[.slice none 0 0, .slice none 0 0, .int .i64 0, .int .i64 0] 27)
  have xr := boxR_new w 27 #[.slice none 0 0, .slice none 0 0, .int .i64 0, .int .i64 0]
  generalize hW : w.alloc (.cells #[.slice none 0 0, .slice none 0 0, .int .i64 0, .int .i64 0] 27) = W at hb0 xr
  have hrz : w.heap.size < W.heap.size := xr.lt
  go_enter Try.func22, Try.ntmps22
  go_wp2_with fail
  clear hW
  refine (l1New_any a len cap _ (hc.below hb0)).mono ?_
  rintro e w1 ⟨h, rfl, hw⟩
  have hb : Below w.heap.size w w1 := by rw [hw]; exact hb0.alloc hb0.size _
  have hk : Cur w1 W.heap.size a len cap := by rw [hw]; exact Cur.made W a len cap h _
  have xr1 : BoxR w1 w.heap.size 27 #[.slice none 0 0, .slice none 0 0, .int .i64 0, .int .i64 0] := by rw [hw]; exact xr.alloc _
  have hBp : w.heap.size ≤ W.heap.size := Nat.le_of_lt hrz
  have hpz : W.heap.size < w1.heap.size := hk.1
  clear hw xr
  go_wp2_with fail
  refine (l5Any_any W.heap.size a len cap _ (hc.below hb) hBp hk).mono ?_
  rintro e w2 ⟨s, hs, rfl, ho, hk2, hrw⟩
  have hb2 := hb.trans (ho.below hBp hb.size)
  have xr2 := xr1.onlyR ho (by omega)
  have hsz := hb.size
  have HPN : Hid (s.pn ≠ 0) := by have := hs.pn; show s.pn ≠ 0; omega
  have HSN : Hid (s.sn ≠ 0) := by have := hs.sn; show s.sn ≠ 0; omega
  clear hb ho hk xr1
  go_wp2_with fail
  refine (l1Below_any W.heap.size a len cap _ _ (hc.below hb2) hBp hk2).mono ?_
  rintro e w3 ⟨x, hx0, hx1, rfl, ho, hk3⟩
  have hb3 := hb2.trans (ho.below hBp hb2.size)
  have xr3 := xr2.onlyR ho (by omega)
  have hrw3 := hrw.only ho hpz
  have HX : Hid (inI64 x) := ⟨by have := hx1 (by omega); omega, by have := hx1 (by omega); omega⟩
  clear hb2 ho hk2 xr2 hrw
  go_wp2_with (refine wpList_store_row rfl 27 (.tmp 2) _ rfl w.heap.size _ (by rfl) (by rfl) _ _ xr3 (by kernel_rfl) (by rfl) (by simp [Value.oneCell']) ?_)
  (try simp only [Exit.inBlock, Exit.then]); refine bodyPost_ret (results_rowD rfl _ _ w.heap.size _ _ _ _ rfl (setRow_heap _ _ _ _ _ _ xr3) Try.underlying27 rfl (by kernel_rfl)) rfl ?_
  obtain ⟨pb, sb, oT, fT⟩ := ((hrw3.setRow xr3 _).down hsz).own HPN.out HSN.out
  exact ⟨{ s with pb := pb, sb := sb }, x, hs.as pb sb, HX.out, rfl, below_setRow hb3 (Nat.le_refl _) _, oT, fT⟩
set_option maxHeartbeats 4000000 in
theorem drawStronger_any (a : Option Addr) (len cap : Nat) (w : World) (hc : Code w a len w.heap.size) :
    Calls Try.prog 21 #[.slice a len cap] w fun e w' => ∃ p q : Gd, e = .returned (.tuple #[(.agg #[.int .i64 p.kd, .int .i64 p.nn]), (.agg #[.int .i64 q.kd, .int .i64 q.nn])]) ∧ Below w.heap.size w w' := by
  have hb0 := ((Below.refl _ w).alloc (Nat.le_refl _) (.cells #[.int .i64 0, .int .i64 0] 42)).alloc (by simp) (.cells #[.int .i64 0, .int .i64 0] 42)
  have xr := (boxGd_new w 42 ⟨0, 0⟩).alloc (.cells #[.int .i64 0, .int .i64 0] 42)
  have xq : BoxGd ((w.alloc (.cells #[.int .i64 0, .int .i64 0] 42)).alloc (.cells #[.int .i64 0, .int .i64 0] 42)) (w.heap.size + 1) 42 ⟨0, 0⟩ := heap_alloc2_new _ _ _
  generalize hW : ((w.alloc (.cells #[.int .i64 0, .int .i64 0] 42)).alloc (.cells #[.int .i64 0, .int .i64 0] 42)) = W at hb0 xr xq
  have hrz : w.heap.size + 1 < W.heap.size := xq.lt
  go_enter Try.func21, Try.ntmps21
  go_wp2_with fail
  clear hW
  refine (l1New_any a len cap _ (hc.below hb0)).mono ?_
  rintro e w1 ⟨h, rfl, hw⟩
  have hb : Below w.heap.size w w1 := by rw [hw]; exact hb0.alloc hb0.size _
  have hk : Cur w1 W.heap.size a len cap := by rw [hw]; exact Cur.made W a len cap h _
  have xr1 : BoxGd w1 w.heap.size 42 ⟨0, 0⟩ := by rw [hw]; exact xr.alloc _
  have xq1 : BoxGd w1 (w.heap.size + 1) 42 ⟨0, 0⟩ := by rw [hw]; exact xq.alloc _
  have hBp : w.heap.size ≤ W.heap.size := by omega
  have hpz : W.heap.size < w1.heap.size := hk.1
  clear hw xr xq
  go_wp2_with fail
  refine (l8Any_any W.heap.size a len cap _ (hc.below hb) hBp hk).mono ?_
  rintro e w3 ⟨p, rfl, ho, hk4⟩
  have hb4 := hb.trans (ho.below hBp hb.size)
  have xr4 := xr1.onlyP ho (by omega)
  have xq4 := xq1.onlyP ho (by omega)
  have hz3 := ho.size
  clear hb ho hk xr1 xq1
  have bp := boxGd_new w3 42 p
  have hbV := below_new2'' w3 (.cells #[.int .i64 p.kd, .int .i64 p.nn] 42)
  generalize hV : w3.alloc (.cells #[.int .i64 p.kd, .int .i64 p.nn] 42) = V3 at bp hbV
  have hb5 := below_app hb4 hbV hb4.size
  have xr5 := xr4.grew hbV
  have xq5 := xq4.grew hbV
  have hk5 : Cur V3 W.heap.size a len cap := hk4.same (hbV.block _ hk4.1) hbV.size
  have hlp : w3.heap.size < V3.heap.size := bp.lt
  clear hb4 hbV xr4 xq4 hk4
  go_wp2_with fail
  clear hV
  refine (l8Any_any W.heap.size a len cap _ (hc.below hb5) hBp hk5).mono ?_
  rintro e w4 ⟨q, rfl, ho, hk6⟩
  have hb6 := hb5.trans (ho.below hBp hb5.size)
  have xr6 := xr5.onlyP ho (by omega)
  have xq6 := xq5.onlyP ho (by omega)
  have bp6 := bp.onlyP ho (by omega)
  have hz4 := ho.size
  clear hb5 ho hk5 xr5 xq5 bp
  have bq := boxGd_new w4 42 q
  have hbV := below_new2'' w4 (.cells #[.int .i64 q.kd, .int .i64 q.nn] 42)
  generalize hV : w4.alloc (.cells #[.int .i64 q.kd, .int .i64 q.nn] 42) = V4 at bq hbV
  have hb7 := below_app hb6 hbV hb6.size
  have xr7 := xr6.grew hbV
  have xq7 := xq6.grew hbV
  have bp7 := bp6.grew hbV
  have hk7 : Cur V4 W.heap.size a len cap := hk6.same (hbV.block _ hk6.1) hbV.size
  clear hb6 hbV xr6 xq6 hk6 bp6
  go_wp2_with fail
  clear hV
  refine (l1Once_any W.heap.size a len cap _ _ (hc.below hb7) hBp hk7).mono ?_
  rintro e V5 ⟨bb, rfl, ho, hk8⟩
  have hb8 := hb7.trans (ho.below hBp hb7.size)
  have xr8 := xr7.onlyP ho (by omega)
  have xq8 := xq7.onlyP ho (by omega)
  have bp8 := bp7.onlyP ho (by omega)
  have bq8 := bq.onlyP ho (by omega)
  clear hb7 ho hk7 xr7 xq7 bp7 bq hk8
  obtain ⟨g, hg⟩ : ∃ g, w3.heap.size = g := ⟨_, rfl⟩
  obtain ⟨k, hkk⟩ : ∃ k, w4.heap.size = k := ⟨_, rfl⟩
  rw [hg] at bp8 ⊢
  rw [hkk] at bq8 ⊢
  have hgk : w.heap.size + 1 < g ∧ g < k ∧ W.heap.size < g := by omega
  obtain ⟨hg1, hg2, hg3⟩ := hgk
  clear hg hkk hz3 hz4 hlp
  go_upto_if 14 with fail
  go_cut [] (fun wc => ∃ q : Gd, Below w.heap.size w wc ∧ BoxGd wc w.heap.size 42 ⟨0, 0⟩ ∧ BoxGd wc (w.heap.size + 1) 42 ⟨0, 0⟩ ∧ BoxGd wc g 42 p ∧ BoxGd wc k 42 q)
  case first =>
    cases bb with
    | false =>
      go_wp2_with fail
      go_meet
      case rel => exact ⟨q, hb8, xr8, xq8, bp8, bq8⟩
    | true =>
      obtain ⟨k0, k1⟩ : CellsGd _ _ _ := bp8.cells
      have kj : V5.cell? ⟨k, 0, none⟩ = some (.int .i64 q.kd) := bq8.cells.1
      have fj := bq8.froz 0
      go_wp2_with fail
      go_meet
      case rel => exact ⟨⟨p.kd, q.nn⟩, hb8.setCell (p := ⟨k, 0, none⟩) (by show w.heap.size ≤ k; omega) _, xr8.other (by show w.heap.size ≠ k; omega) _, xq8.other (by show w.heap.size + 1 ≠ k; omega) _, bp8.other (by show g ≠ k; omega) _, bq8.put 0 _ rfl⟩
  case rest =>
    clear xr8 xq8 bp8 bq8 hb8
    obtain ⟨q, hbN, xrN, xqN, bpN, bqN⟩ := hcut
    go_wp2_with fail
    refine wp_region_held_drew (S := fun u : World => BoxGd u g 42 p ∧ BoxGd u k 42 q) (by kernel_rfl) ⟨bpN, bqN⟩ (fun hHeld => ?_)
    refine wpAnyH_take (i := 0) (oi := ⟨some 18, .load 42 (.tmp 5), 42, _, _, none⟩) (v := (.agg #[.int .i64 p.kd, .int .i64 p.nn])) rfl (by kernel_rfl) (by kernel_rfl) (by kernel_rfl) (fun _ _ _ h => h) (Or.inl ⟨by rfl, fun u hSu => by obtain ⟨k0, k1⟩ : CellsGd _ _ _ := hSu.1.cells; clear hSu; go_simp⟩) hHeld ?_
    try simp only [Act.put, List.setIfInBounds_toArray, List.set_cons_zero, List.set_cons_succ]
    refine wpAnyH_take (i := 1) (oi := ⟨some 19, .load 42 (.tmp 6), 42, _, _, none⟩) (v := (.agg #[.int .i64 q.kd, .int .i64 q.nn])) rfl (by kernel_rfl) (by kernel_rfl) (by kernel_rfl) (fun _ _ _ h => h) (Or.inl ⟨by rfl, fun u hSu => by obtain ⟨k0, k1⟩ : CellsGd _ _ _ := hSu.2.cells; clear hSu; go_simp⟩) hHeld ?_
    try simp only [Act.put, List.setIfInBounds_toArray, List.set_cons_zero, List.set_cons_succ]
    refine wpAnyH_ready (rs := [2]) (by kernel_rfl) (by simp) ?_
    refine AllReadyH.cons rfl (fun K' hK => ?_) AllReadyH.nil
    have z1 := bpN.old (cs := #[.int .i64 p.kd, .int .i64 p.nn]) (q := w.heap.size) (by omega)
    have z2 := bqN.old (cs := #[.int .i64 p.kd, .int .i64 p.nn]) (q := w.heap.size) (by omega)
    have z3 := below_setRow hbN.drew (by omega : w.heap.size ≤ w.heap.size) #[.int .i64 p.kd, .int .i64 p.nn]
    have z4 := xrN.newRow (y := p)
    have z5 := xqN.old (cs := #[.int .i64 p.kd, .int .i64 p.nn]) (q := w.heap.size) (by omega)
    rw [if_pos (by rfl)]
    refine wp_store_row 42 (.tmp 2) (.tmp 18) rfl (w.heap.size) #[.int .i64 p.kd, .int .i64 p.nn] (by first | rfl | simp [Act.eval]) rfl _ _ xrN (by kernel_rfl) (by rfl) (by simp [Value.oneCell']) ?_
    refine hK.out _ _ ⟨z1, z2⟩ (fun hHeld => ?_)
    clear hK
    try simp only [Act.put, List.setIfInBounds_toArray, List.set_cons_zero, List.set_cons_succ]
    refine wpAnyH_ready (rs := [3]) (by kernel_rfl) (by simp) ?_
    refine AllReadyH.cons rfl (fun K' hK => ?_) AllReadyH.nil
    have q1 := z1.old (cs := #[.int .i64 q.kd, .int .i64 q.nn]) (q := w.heap.size + 1) (by omega)
    have q2 := z2.old (cs := #[.int .i64 q.kd, .int .i64 q.nn]) (q := w.heap.size + 1) (by omega)
    have q3 := below_setRow z3 (by omega : w.heap.size ≤ w.heap.size + 1) #[.int .i64 q.kd, .int .i64 q.nn]
    have q4 := z5.newRow (y := q)
    have q5 := z4.old (cs := #[.int .i64 q.kd, .int .i64 q.nn]) (q := w.heap.size + 1) (by omega)
    rw [if_pos (by rfl)]
    refine wp_store_row 42 (.tmp 3) (.tmp 19) rfl (w.heap.size + 1) #[.int .i64 q.kd, .int .i64 q.nn] (by first | rfl | simp [Act.eval]) rfl _ _ z5 (by kernel_rfl) (by rfl) (by simp [Value.oneCell']) ?_
    refine hK.out _ _ ⟨q1, q2⟩ (fun hHeld => ?_)
    clear hK
    try simp only [Act.put, List.setIfInBounds_toArray, List.set_cons_zero, List.set_cons_succ]
    refine wpAnyH_done (by kernel_rfl) ?_ _
    try simp only [Act.put, List.setIfInBounds_toArray, List.set_cons_zero, List.set_cons_succ]
    clear hHeld
    go_wp2
    (try simp only [Exit.inBlock, Exit.then]); refine bodyPost_ret (results_rowE rfl _ _ w.heap.size (w.heap.size + 1) _ _ _ _ _ _ _ _ rfl q5 Try.underlying42 rfl (by kernel_rfl) rfl q4 Try.underlying42 rfl (by kernel_rfl)) rfl ?_
    exact ⟨p, q, rfl, q3⟩
theorem results_rowF {P : Program} {fn : Func} {p q : Tmp} {u : Tmp} {ty ty2 : TypeId} (h : fn.results = #[.cell p ty, .tmp u, .cell q ty2]) (tmps : Array Value) (w : World) (g g2 : Nat) (t t2 : TypeId) (cs cs2 : Array Value) (fr fr2 : Nat × Nat) (d d2 : TypeDesc)
    (hp : tmps.getD p undef = .pointer (some ⟨g, 0, none⟩)) (hg : w.heap[g]? = some (.cells cs t fr))
    (hu : P.underlying ty = some d) (hd : (match d with | .struct _ | .array _ _ => true | _ => false) = true) (hi : (P.info? ty).map (·.size) = some cs.size)
    (hp2 : tmps.getD q undef = .pointer (some ⟨g2, 0, none⟩)) (hg2 : w.heap[g2]? = some (.cells cs2 t2 fr2))
    (hu2 : P.underlying ty2 = some d2) (hd2 : (match d2 with | .struct _ | .array _ _ => true | _ => false) = true) (hi2 : (P.info? ty2).map (·.size) = some cs2.size) :
    (results fn tmps).run P w = .ok (.tuple #[.agg cs, tmps.getD u undef, .agg cs2]) w := by
  have hp' : tmps[p]?.getD undef = .pointer (some ⟨g, 0, none⟩) := by simpa using hp
  have hp2' : tmps[q]?.getD undef = .pointer (some ⟨g2, 0, none⟩) := by simpa using hp2
  simp [results, h, hp', hp2', asAddr, run_loadVar_row w g t ty cs fr d hg hu hd hi, run_loadVar_row w g2 t2 ty2 cs2 fr2 d2 hg2 hu2 hd2 hi2]
theorem BoxR.rowNew' {w : World} {b t : Nat} {cs cs' : Array Value} (h : BoxR w b t cs) : BoxR (w.setRow b cs') b t cs' := setRow_heap _ _ _ _ _ _ h
theorem RowsT.setRowOld {w : World} {B g : Nat} {s : Stt} (h : RowsT w B s) (hg : g < B) (cs : Array Value) : RowsT (w.setRow g cs) B s :=
  h.same (fun q h1 _ _ => by
    unfold World.setRow
    simp only [Array.getElem?_modify]
    rw [if_neg (by omega)])
theorem BoxR.oldRow {w : World} {p q t : Nat} {cs cs' : Array Value} (h : BoxR w p t cs) (hne : p ≠ q) : BoxR (w.setRow q cs') p t cs := by
  unfold BoxR World.setRow
  simp only [Array.getElem?_modify]
  rw [if_neg (Ne.symm hne)]
  exact h
set_option maxHeartbeats 4000000 in
theorem drawHolds_any (a : Option Addr) (len cap : Nat) (w : World) (hc : Code w a len w.heap.size) :
    Calls Try.prog 20 #[.slice a len cap] w fun e w' => ∃ (s : Stt) (x : Int) (q : Gd), anS s ∧ inI64 x ∧ e = .returned (.tuple #[(.agg #[.slice s.pa s.pn s.pcap, .slice s.sa s.sn s.scap, .int .i64 s.ac, .int .i64 s.cl]), .int .i64 x, (.agg #[.int .i64 q.kd, .int .i64 q.nn])]) ∧ Below w.heap.size w w' ∧ OwnT w' w.heap.size s ∧ FullT s := by
  have hb0 := ((Below.refl _ w).alloc (Nat.le_refl _) (.cells #[.slice none 0 0, .slice none 0 0, .int .i64 0, .int .i64 0] 27)).alloc (by simp) (.cells #[.int .i64 0, .int .i64 0] 42)
  have xr := (boxR_new w 27 #[.slice none 0 0, .slice none 0 0, .int .i64 0, .int .i64 0]).alloc (.cells #[.int .i64 0, .int .i64 0] 42)
  have xq : BoxGd ((w.alloc (.cells #[.slice none 0 0, .slice none 0 0, .int .i64 0, .int .i64 0] 27)).alloc (.cells #[.int .i64 0, .int .i64 0] 42)) (w.heap.size + 1) 42 ⟨0, 0⟩ := heap_alloc2_new _ _ _
  generalize hW : (w.alloc (.cells #[.slice none 0 0, .slice none 0 0, .int .i64 0, .int .i64 0] 27)).alloc (.cells #[.int .i64 0, .int .i64 0] 42) = W at hb0 xr xq
  have hrz : w.heap.size + 1 < W.heap.size := xq.lt
  go_enter Try.func20, Try.ntmps20
  go_wp2_with fail
  clear hW
  refine (l1New_any a len cap _ (hc.below hb0)).mono ?_
  rintro e w1 ⟨h, rfl, hw⟩
  have hb : Below w.heap.size w w1 := by rw [hw]; exact hb0.alloc hb0.size _
  have hk : Cur w1 W.heap.size a len cap := by rw [hw]; exact Cur.made W a len cap h _
  have xr1 : BoxR w1 w.heap.size 27 #[.slice none 0 0, .slice none 0 0, .int .i64 0, .int .i64 0] := by rw [hw]; exact xr.alloc _
  have xq1 : BoxGd w1 (w.heap.size + 1) 42 ⟨0, 0⟩ := by rw [hw]; exact xq.alloc _
  have hBp : w.heap.size ≤ W.heap.size := by omega
  have hpz : W.heap.size < w1.heap.size := hk.1
  clear hw xr xq
  go_wp2_with fail
  refine (l5Any_any W.heap.size a len cap _ (hc.below hb) hBp hk).mono ?_
  rintro e w2 ⟨s, hs, rfl, ho, hk2, hrw⟩
  have hb2 := hb.trans (ho.below hBp hb.size)
  have xr2 := xr1.onlyR ho (by omega)
  have xq2 := xq1.onlyP ho (by omega)
  have hsz := hb.size
  have hsz1 := ho.size
  have HPN : Hid (s.pn ≠ 0) := by have := hs.pn; show s.pn ≠ 0; omega
  have HSN : Hid (s.sn ≠ 0) := by have := hs.sn; show s.sn ≠ 0; omega
  clear hb ho hk xr1 xq1
  have xg := boxR_new w2 27 #[.slice s.pa s.pn s.pcap, .slice s.sa s.sn s.scap, .int .i64 s.ac, .int .i64 s.cl]
  have hbV := below_new2'' w2 (.cells #[.slice s.pa s.pn s.pcap, .slice s.sa s.sn s.scap, .int .i64 s.ac, .int .i64 s.cl] 27)
  have hgz : W.heap.size < w2.heap.size := hk2.1
  generalize hV : w2.alloc (.cells #[.slice s.pa s.pn s.pcap, .slice s.sa s.sn s.scap, .int .i64 s.ac, .int .i64 s.cl] 27) = V at xg hbV
  obtain ⟨g, hg⟩ : ∃ g, Hid (w2.heap.size = g) := ⟨w2.heap.size, (rfl : w2.heap.size = w2.heap.size)⟩
  have hb3 := below_app hb2 hbV hb2.size
  have xr3 := xr2.grew hbV
  have xq3 := xq2.grew hbV
  have hrw3 := hrw.grew hbV
  have hk3 : Cur V W.heap.size a len cap := hk2.same (hbV.block _ hk2.1) hbV.size
  clear hb2 hbV xr2 xq2 hrw hk2
  go_wp2_with fail
  clear hV
  rw [hg.out]
  have hgw : W.heap.size < g := by rw [← hg.out]; exact hgz
  have hgw1 : w1.heap.size ≤ g := by rw [← hg.out]; exact hsz1
  rw [hg.out] at xg
  clear hgz hg hsz1
  have SK : Hid (∀ u : World, BoxR u g 27 #[.slice s.pa s.pn s.pcap, .slice s.sa s.sn s.scap, .int .i64 s.ac, .int .i64 s.cl] → u.cell? ⟨g, 0, none⟩ = some (.slice s.pa s.pn s.pcap) ∧ u.cell? ⟨g, 1, none⟩ = some (.slice s.sa s.sn s.scap) ∧ u.cell? ⟨g, 2, none⟩ = some (.int .i64 s.ac) ∧ u.cell? ⟨g, 3, none⟩ = some (.int .i64 s.cl)) := fun u h => ⟨h.cell 0, h.cell 1, h.cell 2, h.cell 3⟩
  have hcD : Code V.drew a len w.heap.size := hc.below hb3.drew
  refine wp_region_held_drew (S := fun u : World => u.cell? ⟨g, 0, none⟩ = some (.slice s.pa s.pn s.pcap) ∧ u.cell? ⟨g, 1, none⟩ = some (.slice s.sa s.sn s.scap) ∧ u.cell? ⟨g, 2, none⟩ = some (.int .i64 s.ac) ∧ u.cell? ⟨g, 3, none⟩ = some (.int .i64 s.cl)) (by kernel_rfl) (SK.out V.drew xg) (fun hHeld => ?_)
  refine wpAnyH_take (i := 0) (v := (.agg #[.slice s.pa s.pn s.pcap, .slice s.sa s.sn s.scap, .int .i64 s.ac, .int .i64 s.cl])) rfl (by kernel_rfl) (by kernel_rfl) (by kernel_rfl) (fun _ _ _ h => h) (Or.inl ⟨by rfl, fun u hSu => by (try dsimp only at hSu); go_simp⟩) hHeld ?_
  try simp only [Act.put, List.setIfInBounds_toArray, List.set_cons_zero, List.set_cons_succ]
  refine wpAnyH_take (i := 1) (v := .pointer (some ⟨W.heap.size, 0, none⟩)) rfl (by kernel_rfl) (by kernel_rfl) (by kernel_rfl) (fun _ _ _ h => h) (Or.inl ⟨by rfl, fun u hSu => by (try dsimp only at hSu); go_simp⟩) hHeld ?_
  try simp only [Act.put, List.setIfInBounds_toArray, List.set_cons_zero, List.set_cons_succ]
  refine wpAnyH_take (i := 4) (v := .pointer (some ⟨W.heap.size, 0, none⟩)) rfl (by kernel_rfl) (by kernel_rfl) (by kernel_rfl) (fun _ _ _ h => h) (Or.inl ⟨by rfl, fun u hSu => by (try dsimp only at hSu); go_simp⟩) hHeld ?_
  try simp only [Act.put, List.setIfInBounds_toArray, List.set_cons_zero, List.set_cons_succ]
  refine wpAnyH_ready (rs := [2]) (by kernel_rfl) (by simp) ?_
  refine AllReadyH.cons rfl (fun K' hK => ?_) AllReadyH.nil
  go_simp
  go_at_call 37
  refine (l1Below_any W.heap.size a len cap _ V.drew hcD hBp hk3).mono ?_
  rintro e v0 ⟨x, hx0, hx1, rfl, ho1, hk4⟩
  have hx2 := hx1 (by omega)
  have hb4 : Below w.heap.size w v0 := hb3.drew.trans (ho1.below hBp hb3.size)
  have xg4 : BoxR v0 g 27 #[.slice s.pa s.pn s.pcap, .slice s.sa s.sn s.scap, .int .i64 s.ac, .int .i64 s.cl] := xg.onlyR (w := V.drew) ho1 (by omega)
  have xr4 : BoxR v0 w.heap.size 27 #[.slice none 0 0, .slice none 0 0, .int .i64 0, .int .i64 0] := BoxR.onlyR (w := V.drew) xr3 ho1 (by omega)
  have xq4 : BoxGd v0 (w.heap.size + 1) 42 ⟨0, 0⟩ := BoxGd.onlyP (w := V.drew) xq3 ho1 (by omega)
  have hrw4 : RowsT v0 w1.heap.size s := RowsT.only (w := V.drew) ⟨hrw3.op, hrw3.os⟩ ho1 hpz
  have HX : Hid (inI64 (x - 1)) := ⟨by omega, by omega⟩
  refine hK.out _ _ (SK.out _ xg4) (fun hHeld => ?_)
  clear hK ho1 hk3 xg xr3 xq3 hb3 hcD hrw3 hx1
  try simp only [Act.put, List.setIfInBounds_toArray, List.set_cons_zero, List.set_cons_succ]
  refine wpAnyH_take (i := 3) (oi := ⟨some 14, .binOp .sub 3 (.tmp 13) (.const (.int .i64 1)) 3, 3, _, _, none⟩) (v := .int .i64 (x - 1)) rfl (by kernel_rfl) (by kernel_rfl) (by kernel_rfl) (fun _ _ _ h => h) (Or.inl ⟨by rfl, fun u hSu => by (try dsimp only at hSu); go_simp; first | go_num | (rw [IntKind.wrap_i64]; omega)⟩) hHeld ?_
  try simp only [Act.put, List.setIfInBounds_toArray, List.set_cons_zero, List.set_cons_succ]
  clear hx0 hx2
  refine wpAnyH_ready (rs := [5]) (by kernel_rfl) (by simp) ?_
  refine AllReadyH.cons rfl (fun K' hK => ?_) AllReadyH.nil
  go_simp
  go_at_call 56
  refine (l8Any_any W.heap.size a len cap _ (hc.below hb4) hBp hk4).mono ?_
  rintro e v1 ⟨q, rfl, ho1, hk5⟩
  have hb5 : Below w.heap.size w v1 := hb4.trans (ho1.below hBp hb4.size)
  have xg5 : BoxR v1 g 27 #[.slice s.pa s.pn s.pcap, .slice s.sa s.sn s.scap, .int .i64 s.ac, .int .i64 s.cl] := xg4.onlyR ho1 (by omega)
  have xr5 : BoxR v1 w.heap.size 27 #[.slice none 0 0, .slice none 0 0, .int .i64 0, .int .i64 0] := xr4.onlyR ho1 (by omega)
  have xq5 : BoxGd v1 (w.heap.size + 1) 42 ⟨0, 0⟩ := xq4.onlyP ho1 (by omega)
  have hrw5 : RowsT v1 w1.heap.size s := hrw4.only ho1 hpz
  refine hK.out _ _ (SK.out _ xg5) (fun hHeld => ?_)
  clear hK ho1 hk4 hk5 xg4 xr4 xq4 hb4 hrw4
  try simp only [Act.put, List.setIfInBounds_toArray, List.set_cons_zero, List.set_cons_succ]
  have xr6 : BoxR (v1.setRow w.heap.size #[.slice s.pa s.pn s.pcap, .slice s.sa s.sn s.scap, .int .i64 s.ac, .int .i64 s.cl]) w.heap.size 27 #[.slice s.pa s.pn s.pcap, .slice s.sa s.sn s.scap, .int .i64 s.ac, .int .i64 s.cl] := xr5.rowNew'
  have xg6 : BoxR (v1.setRow w.heap.size #[.slice s.pa s.pn s.pcap, .slice s.sa s.sn s.scap, .int .i64 s.ac, .int .i64 s.cl]) g 27 #[.slice s.pa s.pn s.pcap, .slice s.sa s.sn s.scap, .int .i64 s.ac, .int .i64 s.cl] := xg5.oldRow (by omega)
  have xq6 : BoxGd (v1.setRow w.heap.size #[.slice s.pa s.pn s.pcap, .slice s.sa s.sn s.scap, .int .i64 s.ac, .int .i64 s.cl]) (w.heap.size + 1) 42 ⟨0, 0⟩ := xq5.old (by omega)
  have hb6 := below_setRow hb5 (Nat.le_refl _) #[.slice s.pa s.pn s.pcap, .slice s.sa s.sn s.scap, .int .i64 s.ac, .int .i64 s.cl]
  have hrw6 := hrw5.setRow xr5 #[.slice s.pa s.pn s.pcap, .slice s.sa s.sn s.scap, .int .i64 s.ac, .int .i64 s.cl]
  refine wpAnyH_ready (rs := [6]) (by kernel_rfl) (by simp) ?_
  refine AllReadyH.cons rfl (fun K' hK => ?_) AllReadyH.nil
  rw [if_pos (by rfl)]
  refine wp_store_row 27 (.tmp 2) (.tmp 11) rfl w.heap.size #[.slice s.pa s.pn s.pcap, .slice s.sa s.sn s.scap, .int .i64 s.ac, .int .i64 s.cl] (by first | rfl | simp [Act.eval]) rfl _ _ xr5 (by kernel_rfl) (by rfl) (by simp [Value.oneCell']) ?_
  refine hK.out _ _ (SK.out _ xg6) (fun hHeld => ?_)
  clear hK xr5 xg5 xq5 hb5 hrw5
  try simp only [Act.put, List.setIfInBounds_toArray, List.set_cons_zero, List.set_cons_succ]
  generalize v1.setRow w.heap.size #[.slice s.pa s.pn s.pcap, .slice s.sa s.sn s.scap, .int .i64 s.ac, .int .i64 s.cl] = X6 at xr6 xg6 xq6 hb6 hrw6 hHeld ⊢
  refine wpAnyH_take (i := 7) (oi := ⟨some 3, .assign (.tmp 14), 3, _, _, none⟩) (v := .int .i64 (x - 1)) rfl (by kernel_rfl) (by kernel_rfl) (by kernel_rfl) (fun _ _ _ h => h) (Or.inl ⟨by rfl, fun u hSu => by (try dsimp only at hSu); go_simp⟩) hHeld ?_
  try simp only [Act.put, List.setIfInBounds_toArray, List.set_cons_zero, List.set_cons_succ]
  have xr7 : BoxR (X6.setRow (w.heap.size + 1) #[.int .i64 q.kd, .int .i64 q.nn]) w.heap.size 27 #[.slice s.pa s.pn s.pcap, .slice s.sa s.sn s.scap, .int .i64 s.ac, .int .i64 s.cl] := xr6.oldRow (by omega)
  have xg7 : BoxR (X6.setRow (w.heap.size + 1) #[.int .i64 q.kd, .int .i64 q.nn]) g 27 #[.slice s.pa s.pn s.pcap, .slice s.sa s.sn s.scap, .int .i64 s.ac, .int .i64 s.cl] := xg6.oldRow (by omega)
  have xq7 : BoxGd (X6.setRow (w.heap.size + 1) #[.int .i64 q.kd, .int .i64 q.nn]) (w.heap.size + 1) 42 q := xq6.newRow
  have hb7 := below_setRow hb6 (by omega : w.heap.size ≤ w.heap.size + 1) #[.int .i64 q.kd, .int .i64 q.nn]
  have hlw : w.heap.size + 1 < w1.heap.size := by omega
  have hrw7 := hrw6.setRowOld (g := w.heap.size + 1) hlw #[.int .i64 q.kd, .int .i64 q.nn]
  refine wpAnyH_ready (rs := [8]) (by kernel_rfl) (by simp) ?_
  refine AllReadyH.cons rfl (fun K' hK => ?_) AllReadyH.nil
  rw [if_pos (by rfl)]
  refine wp_store_row 42 (.tmp 4) (.tmp 16) rfl (w.heap.size + 1) #[.int .i64 q.kd, .int .i64 q.nn] (by first | rfl | simp [Act.eval]) rfl _ _ xq6 (by kernel_rfl) (by rfl) (by simp [Value.oneCell']) ?_
  refine hK.out _ _ (SK.out _ xg7) (fun hHeld => ?_)
  clear hK xr6 xg6 xq6 hb6 hrw6
  refine wpAnyH_done (by kernel_rfl) ?_ _
  try simp only [Act.put, List.setIfInBounds_toArray, List.set_cons_zero, List.set_cons_succ]
  clear hHeld SK
  generalize X6.setRow (w.heap.size + 1) #[.int .i64 q.kd, .int .i64 q.nn] = X7 at xr7 xg7 xq7 hb7 hrw7 ⊢
  go_wp2
  (try simp only [Exit.inBlock, Exit.then]); refine bodyPost_ret (results_rowF rfl _ _ w.heap.size (w.heap.size + 1) _ _ _ _ _ _ _ _ rfl xr7 Try.underlying27 rfl (by kernel_rfl) rfl xq7 Try.underlying42 rfl (by kernel_rfl)) rfl ?_
  obtain ⟨pb, sb, oT, fT⟩ := (hrw7.down hsz).own HPN.out HSN.out
  exact ⟨{ s with pb := pb, sb := sb }, hs.as pb sb, x - 1, HX.out, ⟨q, rfl⟩, hb7, oT, fT⟩
end Go.Proofs.Ytnlnledijpcjpac
