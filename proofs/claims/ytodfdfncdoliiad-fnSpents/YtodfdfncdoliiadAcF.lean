/-
  Chapter 9: the program's ActFits, Amount, withSameN, partOk, aimOk, namesNothing, withoutNamed. Written by tools/aci.gen.py. Own work.
-/
import Derived.Test.YtodfdfncdoliiadGStAt2
import Derived.Test.YtodfdfncdoliiadAcD
import Derived.Test.YtodfdfncdoliiadGEvC32
import Derived.Test.YtodfdfncdoliiadGSpF6
namespace Go.Proofs.Ytodfdfncdoliiad
open Go.ChangeShapes Go.WideShapes Go.ChangeAt Go.RowKit
set_option maxRecDepth 100000
set_option linter.unusedVariables false
set_option linter.unusedSimpArgs false

set_option maxHeartbeats 4000000 in
theorem implActFits_any (a : Ac) (k : Int) (w : World) : Calls Try.prog 28 #[(.agg #[.int .i64 a.kd, .int .i64 a.nn, .int .i64 a.pi, .int .i64 a.si, .int .i64 a.zo, .bool a.be, .slice a.la a.ln a.lcap]), .int .i64 k] w fun e w' => e = .returned (.bool (fiA a k)) ∧ Below w.heap.size w w' := by
  have HB := (Below.refl _ w).alloc (Nat.le_refl _) (.cells #[.int .i64 a.kd, .int .i64 a.nn, .int .i64 a.pi, .int .i64 a.si, .int .i64 a.zo, .bool a.be, .slice a.la a.ln a.lcap] 30)
  have bx := boxR_new w 30 #[.int .i64 a.kd, .int .i64 a.nn, .int .i64 a.pi, .int .i64 a.si, .int .i64 a.zo, .bool a.be, .slice a.la a.ln a.lcap]
  generalize hW : w.alloc (.cells #[.int .i64 a.kd, .int .i64 a.nn, .int .i64 a.pi, .int .i64 a.si, .int .i64 a.zo, .bool a.be, .slice a.la a.ln a.lcap] 30) = W at HB bx
  have c0 := bx.cell 0
  have c1 := bx.cell 1
  have c2 := bx.cell 2
  have c3 := bx.cell 3
  have c4 := bx.cell 4
  have c5 := bx.cell 5
  have c6 := bx.cell 6
  simp at c0 c1 c2 c3 c4 c5 c6
  go_enter Try.func28, Try.ntmps28
  go_wp2_with (go_at_call 46; refine (between_any _ _ _ _).mono ?_; rintro e w' ⟨rfl, rfl⟩)
  all_goals go_ret
  all_goals exact ⟨ret_bool' (by unfold fiA ib; first | (simp_all; done) | (simp_all; omega) | (rw [Bool.eq_iff_iff]; simp_all; done) | (rw [Bool.eq_iff_iff]; simp_all; omega)), HB⟩
/-- a part with the amount of what is turned into parts -/
def sameE (e : Ev) (n : Int) : Ev := if e.nn = -1 then wnE e n else e
theorem sameE_yes {e : Ev} {n : Int} (h : (e.nn == -1) = true) : sameE e n = wnE e n := by unfold sameE; simp_all
theorem sameE_no {e : Ev} {n : Int} (h : (e.nn == -1) = false) : sameE e n = e := by unfold sameE; simp_all
set_option maxHeartbeats 2000000 in
theorem withSameN_any (x : Ev) (n : Int) (w : World) : Calls Try.prog 76 #[(.agg #[.int .i64 x.kd, .int .i64 x.sr, .int .i64 x.pi, .int .i64 x.si, .int .i64 x.nn, .int .i64 x.zo, .bool x.be]), .int .i64 n] w fun r w' => r = .returned (.agg #[.int .i64 (sameE x n).kd, .int .i64 (sameE x n).sr, .int .i64 (sameE x n).pi, .int .i64 (sameE x n).si, .int .i64 (sameE x n).nn, .int .i64 (sameE x n).zo, .bool (sameE x n).be]) ∧ Below w.heap.size w w' := by
  have hb0 := ((Below.refl _ w).alloc (Nat.le_refl _) (.cells #[.int .i64 x.kd, .int .i64 x.sr, .int .i64 x.pi, .int .i64 x.si, .int .i64 x.nn, .int .i64 x.zo, .bool x.be] 84)).alloc (by simp) (.cells #[.int .i64 0, .int .i64 0, .int .i64 0, .int .i64 0, .int .i64 0, .int .i64 0, .bool false] 84)
  have x1 := (boxR_new w 84 #[.int .i64 x.kd, .int .i64 x.sr, .int .i64 x.pi, .int .i64 x.si, .int .i64 x.nn, .int .i64 x.zo, .bool x.be]).alloc (.cells #[.int .i64 0, .int .i64 0, .int .i64 0, .int .i64 0, .int .i64 0, .int .i64 0, .bool false] 84)
  have x2 : BoxR ((w.alloc (.cells #[.int .i64 x.kd, .int .i64 x.sr, .int .i64 x.pi, .int .i64 x.si, .int .i64 x.nn, .int .i64 x.zo, .bool x.be] 84)).alloc (.cells #[.int .i64 0, .int .i64 0, .int .i64 0, .int .i64 0, .int .i64 0, .int .i64 0, .bool false] 84)) (w.heap.size + 1) 84 #[.int .i64 0, .int .i64 0, .int .i64 0, .int .i64 0, .int .i64 0, .int .i64 0, .bool false] := heap_alloc2_new _ _ _
  generalize hW : (w.alloc (.cells #[.int .i64 x.kd, .int .i64 x.sr, .int .i64 x.pi, .int .i64 x.si, .int .i64 x.nn, .int .i64 x.zo, .bool x.be] 84)).alloc (.cells #[.int .i64 0, .int .i64 0, .int .i64 0, .int .i64 0, .int .i64 0, .int .i64 0, .bool false] 84) = W at hb0 x1 x2
  have c0 := x1.cell 0
  have c1 := x1.cell 1
  have c2 := x1.cell 2
  have c3 := x1.cell 3
  have c4 := x1.cell 4
  have c5 := x1.cell 5
  have c6 := x1.cell 6
  simp at c0 c1 c2 c3 c4 c5 c6
  cases q1 : (x.nn == -1)
  case false =>
    have HP : Hid (sameE x n = x) := sameE_no q1
    have q2 : (x.nn != -1) = true := by rw [bne, q1]; rfl
    go_enter Try.func76, Try.ntmps76
    go_wp2_with (refine wpList_store_row rfl 84 (.tmp 4) _ rfl (w.heap.size + 1) _ (by rfl) (by rfl) _ _ x2 (by kernel_rfl) (by rfl) (by simp [Value.oneCell']) ?_)
    (try simp only [Exit.inBlock, Exit.then]); refine bodyPost_ret (results_cell_row rfl _ _ (w.heap.size + 1) _ _ _ _ rfl (setRow_heap _ _ _ _ _ _ x2) Try.underlying84 rfl (by kernel_rfl)) rfl ?_
    rw [HP.out]
    exact ⟨rfl, below_setRow hb0 (by omega) _⟩
  case true =>
    have HP : Hid (sameE x n = wnE x n) := sameE_yes q1
    have q2 : (x.nn != -1) = false := by rw [bne, q1]; rfl
    go_enter Try.func76, Try.ntmps76
    go_wp2_with fail
    refine (implWithN_any x n _).mono ?_
    rintro r w1 ⟨rfl, hb1⟩
    replace x2 := x2.grew hb1
    have hB := below_app hb0 hb1 hb0.size
    go_wp2_with (refine wpList_store_row rfl 84 (.tmp 4) _ rfl (w.heap.size + 1) _ (by rfl) (by rfl) _ _ x2 (by kernel_rfl) (by rfl) (by simp [Value.oneCell', wnE]) ?_)
    (try simp only [Exit.inBlock, Exit.then]); refine bodyPost_ret (results_cell_row rfl _ _ (w.heap.size + 1) _ _ _ _ rfl (setRow_heap _ _ _ _ _ _ x2) Try.underlying84 rfl (by kernel_rfl)) rfl ?_
    rw [HP.out]
    exact ⟨rfl, below_setRow hB (by omega) _⟩
theorem ptE_move {x : Ev} (h : (x.kd == 2) = true) : ptE x = okE x := by unfold ptE; simp_all
theorem up_none : up 0 2147483647 = 0 := by decide
theorem ptE_rest {x : Ev} (h : (x.kd == 2) = false) : ptE x = okE (sameE x 0) := by
  unfold ptE sameE wnE
  rw [up_none]
  by_cases q : x.nn = -1 <;> simp_all
set_option maxHeartbeats 2000000 in
theorem partOk_any (x : Ev) (w : World) : Calls Try.prog 71 #[(.agg #[.int .i64 x.kd, .int .i64 x.sr, .int .i64 x.pi, .int .i64 x.si, .int .i64 x.nn, .int .i64 x.zo, .bool x.be])] w fun r w' => r = .returned (.bool (ptE x)) ∧ Below w.heap.size w w' := by
  have HB := (Below.refl _ w).alloc (Nat.le_refl _) (.cells #[.int .i64 x.kd, .int .i64 x.sr, .int .i64 x.pi, .int .i64 x.si, .int .i64 x.nn, .int .i64 x.zo, .bool x.be] 84)
  have bx := boxR_new w 84 #[.int .i64 x.kd, .int .i64 x.sr, .int .i64 x.pi, .int .i64 x.si, .int .i64 x.nn, .int .i64 x.zo, .bool x.be]
  generalize hW : w.alloc (.cells #[.int .i64 x.kd, .int .i64 x.sr, .int .i64 x.pi, .int .i64 x.si, .int .i64 x.nn, .int .i64 x.zo, .bool x.be] 84) = W at HB bx
  have c0 := bx.cell 0
  have c1 := bx.cell 1
  have c2 := bx.cell 2
  have c3 := bx.cell 3
  have c4 := bx.cell 4
  have c5 := bx.cell 5
  have c6 := bx.cell 6
  simp at c0 c1 c2 c3 c4 c5 c6
  cases q1 : (x.kd == 2)
  case true =>
    have HP : Hid (ptE x = okE x) := ptE_move q1
    go_enter Try.func71, Try.ntmps71
    go_wp2_with fail
    refine (implEventOk_any x _).mono ?_
    rintro r w1 ⟨rfl, hb1⟩
    go_wp2
    go_ret
    exact ⟨ret_bool' HP.out.symm, below_app HB hb1 HB.size⟩
  case false =>
    have HP : Hid (ptE x = okE (sameE x 0)) := ptE_rest q1
    go_enter Try.func71, Try.ntmps71
    go_wp2_with fail
    refine (withSameN_any x 0 _).mono ?_
    rintro r w1 ⟨rfl, hb1⟩
    generalize sameE x 0 = y at HP
    go_wp2_with fail
    refine (implEventOk_any y _).mono ?_
    rintro r w2 ⟨rfl, hb2⟩
    go_wp2
    go_ret
    exact ⟨ret_bool' HP.out.symm, below_app (below_app HB hb1 HB.size) hb2 (below_app HB hb1 HB.size).size⟩
/-- what an act turns onto is right -/
def aimA (a : Ac) : Bool := bif decide (a.pi = 0) then ib a.si 0 2 else ib a.pi 1 99 && decide (a.si = -1)
set_option maxHeartbeats 2000000 in
theorem aimOk_any (a : Ac) (w : World) : Calls Try.prog 63 #[(.agg #[.int .i64 a.kd, .int .i64 a.nn, .int .i64 a.pi, .int .i64 a.si, .int .i64 a.zo, .bool a.be, .slice a.la a.ln a.lcap])] w fun e w' => e = .returned (.bool (aimA a)) ∧ Below w.heap.size w w' := by
  have HB := (Below.refl _ w).alloc (Nat.le_refl _) (.cells #[.int .i64 a.kd, .int .i64 a.nn, .int .i64 a.pi, .int .i64 a.si, .int .i64 a.zo, .bool a.be, .slice a.la a.ln a.lcap] 30)
  have bx := boxR_new w 30 #[.int .i64 a.kd, .int .i64 a.nn, .int .i64 a.pi, .int .i64 a.si, .int .i64 a.zo, .bool a.be, .slice a.la a.ln a.lcap]
  generalize hW : w.alloc (.cells #[.int .i64 a.kd, .int .i64 a.nn, .int .i64 a.pi, .int .i64 a.si, .int .i64 a.zo, .bool a.be, .slice a.la a.ln a.lcap] 30) = W at HB bx
  have c0 := bx.cell 0
  have c1 := bx.cell 1
  have c2 := bx.cell 2
  have c3 := bx.cell 3
  have c4 := bx.cell 4
  have c5 := bx.cell 5
  have c6 := bx.cell 6
  simp at c0 c1 c2 c3 c4 c5 c6
  go_enter Try.func63, Try.ntmps63
  go_wp2_with first | (go_at_call 47; refine (isSide_any _ _).mono ?_; rintro e w' ⟨rfl, rfl⟩) | (go_at_call 24; refine (isIdE_any _ _).mono ?_; rintro e w' ⟨rfl, rfl⟩)
  all_goals go_ret
  all_goals exact ⟨ret_bool' (by unfold aimA; first | (simp_all; done) | (rw [Bool.eq_iff_iff]; simp_all)), HB⟩
/-- whether it names nothing -/
def nnA (a : Ac) : Bool := decide (a.nn = 0) && plA a
set_option maxHeartbeats 2000000 in
theorem namesNothing_any (a : Ac) (w : World) : Calls Try.prog 51 #[(.agg #[.int .i64 a.kd, .int .i64 a.nn, .int .i64 a.pi, .int .i64 a.si, .int .i64 a.zo, .bool a.be, .slice a.la a.ln a.lcap])] w fun e w' => e = .returned (.bool (nnA a)) ∧ Below w.heap.size w w' := by
  have HB := (Below.refl _ w).alloc (Nat.le_refl _) (.cells #[.int .i64 a.kd, .int .i64 a.nn, .int .i64 a.pi, .int .i64 a.si, .int .i64 a.zo, .bool a.be, .slice a.la a.ln a.lcap] 30)
  have bx := boxR_new w 30 #[.int .i64 a.kd, .int .i64 a.nn, .int .i64 a.pi, .int .i64 a.si, .int .i64 a.zo, .bool a.be, .slice a.la a.ln a.lcap]
  generalize hW : w.alloc (.cells #[.int .i64 a.kd, .int .i64 a.nn, .int .i64 a.pi, .int .i64 a.si, .int .i64 a.zo, .bool a.be, .slice a.la a.ln a.lcap] 30) = W at HB bx
  have c0 := bx.cell 0
  have c1 := bx.cell 1
  have c2 := bx.cell 2
  have c3 := bx.cell 3
  have c4 := bx.cell 4
  have c5 := bx.cell 5
  have c6 := bx.cell 6
  simp at c0 c1 c2 c3 c4 c5 c6
  go_enter Try.func51, Try.ntmps51
  go_wp2
  all_goals go_ret
  all_goals exact ⟨ret_bool' (by unfold nnA plA; first | (simp_all; done) | (simp_all; omega) | (rw [Bool.eq_iff_iff]; simp_all)), HB⟩
/-- what is left when that is taken away which its kind names -/
def woA (a : Ac) : Ac :=
  if a.kd = 8 then { a with be := false, nn := 0 } else if a.kd = 3 then { a with nn := 0 } else if a.kd = 6 then { a with pi := 0, si := -1 } else if a.kd = 7 then { a with zo := 0 } else if a.kd = 9 then { a with la := none, ln := 0, lcap := 0 } else a
set_option maxHeartbeats 4000000 in
theorem wo_8 (a : Ac) (w : World) (h : a.kd = 8) : Calls Try.prog 52 #[(.agg #[.int .i64 8, .int .i64 a.nn, .int .i64 a.pi, .int .i64 a.si, .int .i64 a.zo, .bool a.be, .slice a.la a.ln a.lcap])] w fun e w' => e = .returned (.agg #[.int .i64 (woA a).kd, .int .i64 (woA a).nn, .int .i64 (woA a).pi, .int .i64 (woA a).si, .int .i64 (woA a).zo, .bool (woA a).be, .slice (woA a).la (woA a).ln (woA a).lcap]) ∧ Below w.heap.size w w' := by
  have HA : Hid (woA a = { a with be := false, nn := 0 }) := by show woA a = _; unfold woA; simp [h]
  have HK : Hid (a.kd = 8) := h
  clear h
  have hb0 := ((Below.refl _ w).alloc (Nat.le_refl _) (.cells #[.int .i64 8, .int .i64 a.nn, .int .i64 a.pi, .int .i64 a.si, .int .i64 a.zo, .bool a.be, .slice a.la a.ln a.lcap] 30)).alloc (by simp) (.cells #[.int .i64 0, .int .i64 0, .int .i64 0, .int .i64 0, .int .i64 0, .bool false, .slice none 0 0] 30)
  have x1 := (boxR_new w 30 #[.int .i64 8, .int .i64 a.nn, .int .i64 a.pi, .int .i64 a.si, .int .i64 a.zo, .bool a.be, .slice a.la a.ln a.lcap]).alloc (.cells #[.int .i64 0, .int .i64 0, .int .i64 0, .int .i64 0, .int .i64 0, .bool false, .slice none 0 0] 30)
  have x2 : BoxR ((w.alloc (.cells #[.int .i64 8, .int .i64 a.nn, .int .i64 a.pi, .int .i64 a.si, .int .i64 a.zo, .bool a.be, .slice a.la a.ln a.lcap] 30)).alloc (.cells #[.int .i64 0, .int .i64 0, .int .i64 0, .int .i64 0, .int .i64 0, .bool false, .slice none 0 0] 30)) (w.heap.size + 1) 30 #[.int .i64 0, .int .i64 0, .int .i64 0, .int .i64 0, .int .i64 0, .bool false, .slice none 0 0] := heap_alloc2_new _ _ _
  generalize hW : (w.alloc (.cells #[.int .i64 8, .int .i64 a.nn, .int .i64 a.pi, .int .i64 a.si, .int .i64 a.zo, .bool a.be, .slice a.la a.ln a.lcap] 30)).alloc (.cells #[.int .i64 0, .int .i64 0, .int .i64 0, .int .i64 0, .int .i64 0, .bool false, .slice none 0 0] 30) = W at hb0 x1 x2
  have c0 := x1.cell 0
  simp at c0
  have c5 := x1.cell 5
  simp at c5
  have c1 := x1.cell 1
  simp at c1
  have f5 := x1.froz 5
  have f1 := x1.froz 1
  have x1_1 := x1.put 5 (.bool false)
  have x2_1 := x2.other (q := ⟨w.heap.size, 5, none⟩) (by simp) (.bool false)
  have hb_1 := hb0.setCell (p := ⟨w.heap.size, 5, none⟩) (Nat.le_refl _) (.bool false)
  have x1_2 := x1_1.put 1 (.int .i64 0)
  have x2_2 := x2_1.other (q := ⟨w.heap.size, 1, none⟩) (by simp) (.int .i64 0)
  have hb_2 := hb_1.setCell (p := ⟨w.heap.size, 1, none⟩) (Nat.le_refl _) (.int .i64 0)
  have z1 := x1_2
  have z2 := x2_2
  have zb := hb_2
  generalize hV : ((W.setCell ⟨w.heap.size, 5, none⟩ (.bool false)).setCell ⟨w.heap.size, 1, none⟩ (.int .i64 0)) = V at z1 z2 zb
  have d0 := z1.cell 0
  have d1 := z1.cell 1
  have d2 := z1.cell 2
  have d3 := z1.cell 3
  have d4 := z1.cell 4
  have d5 := z1.cell 5
  have d6 := z1.cell 6
  simp at d0 d1 d2 d3 d4 d5 d6
  go_enter Try.func52, Try.ntmps52
  go_wp2_with (refine wpList_store_row rfl 30 (.tmp 2) _ rfl (w.heap.size + 1) _ (by rfl) (by rfl) _ _ z2 (by kernel_rfl) (by rfl) (by simp [Value.oneCell']) ?_)
  (try simp only [Exit.inBlock, Exit.then]); refine bodyPost_ret (results_cell_row rfl _ _ (w.heap.size + 1) _ _ _ _ rfl (setRow_heap _ _ _ _ _ _ z2) Try.underlying30 rfl (by kernel_rfl)) rfl ?_
  exact ⟨by rw [HA.out]; simp only; rw [HK.out], below_setRow zb (by omega) _⟩
set_option maxHeartbeats 4000000 in
theorem wo_3 (a : Ac) (w : World) (h : a.kd = 3) : Calls Try.prog 52 #[(.agg #[.int .i64 3, .int .i64 a.nn, .int .i64 a.pi, .int .i64 a.si, .int .i64 a.zo, .bool a.be, .slice a.la a.ln a.lcap])] w fun e w' => e = .returned (.agg #[.int .i64 (woA a).kd, .int .i64 (woA a).nn, .int .i64 (woA a).pi, .int .i64 (woA a).si, .int .i64 (woA a).zo, .bool (woA a).be, .slice (woA a).la (woA a).ln (woA a).lcap]) ∧ Below w.heap.size w w' := by
  have HA : Hid (woA a = { a with nn := 0 }) := by show woA a = _; unfold woA; simp [h]
  have HK : Hid (a.kd = 3) := h
  clear h
  have hb0 := ((Below.refl _ w).alloc (Nat.le_refl _) (.cells #[.int .i64 3, .int .i64 a.nn, .int .i64 a.pi, .int .i64 a.si, .int .i64 a.zo, .bool a.be, .slice a.la a.ln a.lcap] 30)).alloc (by simp) (.cells #[.int .i64 0, .int .i64 0, .int .i64 0, .int .i64 0, .int .i64 0, .bool false, .slice none 0 0] 30)
  have x1 := (boxR_new w 30 #[.int .i64 3, .int .i64 a.nn, .int .i64 a.pi, .int .i64 a.si, .int .i64 a.zo, .bool a.be, .slice a.la a.ln a.lcap]).alloc (.cells #[.int .i64 0, .int .i64 0, .int .i64 0, .int .i64 0, .int .i64 0, .bool false, .slice none 0 0] 30)
  have x2 : BoxR ((w.alloc (.cells #[.int .i64 3, .int .i64 a.nn, .int .i64 a.pi, .int .i64 a.si, .int .i64 a.zo, .bool a.be, .slice a.la a.ln a.lcap] 30)).alloc (.cells #[.int .i64 0, .int .i64 0, .int .i64 0, .int .i64 0, .int .i64 0, .bool false, .slice none 0 0] 30)) (w.heap.size + 1) 30 #[.int .i64 0, .int .i64 0, .int .i64 0, .int .i64 0, .int .i64 0, .bool false, .slice none 0 0] := heap_alloc2_new _ _ _
  generalize hW : (w.alloc (.cells #[.int .i64 3, .int .i64 a.nn, .int .i64 a.pi, .int .i64 a.si, .int .i64 a.zo, .bool a.be, .slice a.la a.ln a.lcap] 30)).alloc (.cells #[.int .i64 0, .int .i64 0, .int .i64 0, .int .i64 0, .int .i64 0, .bool false, .slice none 0 0] 30) = W at hb0 x1 x2
  have c0 := x1.cell 0
  simp at c0
  have c1 := x1.cell 1
  simp at c1
  have f1 := x1.froz 1
  have x1_1 := x1.put 1 (.int .i64 0)
  have x2_1 := x2.other (q := ⟨w.heap.size, 1, none⟩) (by simp) (.int .i64 0)
  have hb_1 := hb0.setCell (p := ⟨w.heap.size, 1, none⟩) (Nat.le_refl _) (.int .i64 0)
  have z1 := x1_1
  have z2 := x2_1
  have zb := hb_1
  generalize hV : (W.setCell ⟨w.heap.size, 1, none⟩ (.int .i64 0)) = V at z1 z2 zb
  have d0 := z1.cell 0
  have d1 := z1.cell 1
  have d2 := z1.cell 2
  have d3 := z1.cell 3
  have d4 := z1.cell 4
  have d5 := z1.cell 5
  have d6 := z1.cell 6
  simp at d0 d1 d2 d3 d4 d5 d6
  go_enter Try.func52, Try.ntmps52
  go_wp2_with (refine wpList_store_row rfl 30 (.tmp 2) _ rfl (w.heap.size + 1) _ (by rfl) (by rfl) _ _ z2 (by kernel_rfl) (by rfl) (by simp [Value.oneCell']) ?_)
  (try simp only [Exit.inBlock, Exit.then]); refine bodyPost_ret (results_cell_row rfl _ _ (w.heap.size + 1) _ _ _ _ rfl (setRow_heap _ _ _ _ _ _ z2) Try.underlying30 rfl (by kernel_rfl)) rfl ?_
  exact ⟨by rw [HA.out]; simp only; rw [HK.out], below_setRow zb (by omega) _⟩
set_option maxHeartbeats 4000000 in
theorem wo_6 (a : Ac) (w : World) (h : a.kd = 6) : Calls Try.prog 52 #[(.agg #[.int .i64 6, .int .i64 a.nn, .int .i64 a.pi, .int .i64 a.si, .int .i64 a.zo, .bool a.be, .slice a.la a.ln a.lcap])] w fun e w' => e = .returned (.agg #[.int .i64 (woA a).kd, .int .i64 (woA a).nn, .int .i64 (woA a).pi, .int .i64 (woA a).si, .int .i64 (woA a).zo, .bool (woA a).be, .slice (woA a).la (woA a).ln (woA a).lcap]) ∧ Below w.heap.size w w' := by
  have HA : Hid (woA a = { a with pi := 0, si := -1 }) := by show woA a = _; unfold woA; simp [h]
  have HK : Hid (a.kd = 6) := h
  clear h
  have hb0 := ((Below.refl _ w).alloc (Nat.le_refl _) (.cells #[.int .i64 6, .int .i64 a.nn, .int .i64 a.pi, .int .i64 a.si, .int .i64 a.zo, .bool a.be, .slice a.la a.ln a.lcap] 30)).alloc (by simp) (.cells #[.int .i64 0, .int .i64 0, .int .i64 0, .int .i64 0, .int .i64 0, .bool false, .slice none 0 0] 30)
  have x1 := (boxR_new w 30 #[.int .i64 6, .int .i64 a.nn, .int .i64 a.pi, .int .i64 a.si, .int .i64 a.zo, .bool a.be, .slice a.la a.ln a.lcap]).alloc (.cells #[.int .i64 0, .int .i64 0, .int .i64 0, .int .i64 0, .int .i64 0, .bool false, .slice none 0 0] 30)
  have x2 : BoxR ((w.alloc (.cells #[.int .i64 6, .int .i64 a.nn, .int .i64 a.pi, .int .i64 a.si, .int .i64 a.zo, .bool a.be, .slice a.la a.ln a.lcap] 30)).alloc (.cells #[.int .i64 0, .int .i64 0, .int .i64 0, .int .i64 0, .int .i64 0, .bool false, .slice none 0 0] 30)) (w.heap.size + 1) 30 #[.int .i64 0, .int .i64 0, .int .i64 0, .int .i64 0, .int .i64 0, .bool false, .slice none 0 0] := heap_alloc2_new _ _ _
  generalize hW : (w.alloc (.cells #[.int .i64 6, .int .i64 a.nn, .int .i64 a.pi, .int .i64 a.si, .int .i64 a.zo, .bool a.be, .slice a.la a.ln a.lcap] 30)).alloc (.cells #[.int .i64 0, .int .i64 0, .int .i64 0, .int .i64 0, .int .i64 0, .bool false, .slice none 0 0] 30) = W at hb0 x1 x2
  have c0 := x1.cell 0
  simp at c0
  have c2 := x1.cell 2
  simp at c2
  have c3 := x1.cell 3
  simp at c3
  have f2 := x1.froz 2
  have f3 := x1.froz 3
  have x1_1 := x1.put 2 (.int .i64 0)
  have x2_1 := x2.other (q := ⟨w.heap.size, 2, none⟩) (by simp) (.int .i64 0)
  have hb_1 := hb0.setCell (p := ⟨w.heap.size, 2, none⟩) (Nat.le_refl _) (.int .i64 0)
  have x1_2 := x1_1.put 3 (.int .i64 (-1))
  have x2_2 := x2_1.other (q := ⟨w.heap.size, 3, none⟩) (by simp) (.int .i64 (-1))
  have hb_2 := hb_1.setCell (p := ⟨w.heap.size, 3, none⟩) (Nat.le_refl _) (.int .i64 (-1))
  have z1 := x1_2
  have z2 := x2_2
  have zb := hb_2
  generalize hV : ((W.setCell ⟨w.heap.size, 2, none⟩ (.int .i64 0)).setCell ⟨w.heap.size, 3, none⟩ (.int .i64 (-1))) = V at z1 z2 zb
  have d0 := z1.cell 0
  have d1 := z1.cell 1
  have d2 := z1.cell 2
  have d3 := z1.cell 3
  have d4 := z1.cell 4
  have d5 := z1.cell 5
  have d6 := z1.cell 6
  simp at d0 d1 d2 d3 d4 d5 d6
  go_enter Try.func52, Try.ntmps52
  go_wp2_with (refine wpList_store_row rfl 30 (.tmp 2) _ rfl (w.heap.size + 1) _ (by rfl) (by rfl) _ _ z2 (by kernel_rfl) (by rfl) (by simp [Value.oneCell']) ?_)
  (try simp only [Exit.inBlock, Exit.then]); refine bodyPost_ret (results_cell_row rfl _ _ (w.heap.size + 1) _ _ _ _ rfl (setRow_heap _ _ _ _ _ _ z2) Try.underlying30 rfl (by kernel_rfl)) rfl ?_
  exact ⟨by rw [HA.out]; simp only; rw [HK.out], below_setRow zb (by omega) _⟩
set_option maxHeartbeats 4000000 in
theorem wo_7 (a : Ac) (w : World) (h : a.kd = 7) : Calls Try.prog 52 #[(.agg #[.int .i64 7, .int .i64 a.nn, .int .i64 a.pi, .int .i64 a.si, .int .i64 a.zo, .bool a.be, .slice a.la a.ln a.lcap])] w fun e w' => e = .returned (.agg #[.int .i64 (woA a).kd, .int .i64 (woA a).nn, .int .i64 (woA a).pi, .int .i64 (woA a).si, .int .i64 (woA a).zo, .bool (woA a).be, .slice (woA a).la (woA a).ln (woA a).lcap]) ∧ Below w.heap.size w w' := by
  have HA : Hid (woA a = { a with zo := 0 }) := by show woA a = _; unfold woA; simp [h]
  have HK : Hid (a.kd = 7) := h
  clear h
  have hb0 := ((Below.refl _ w).alloc (Nat.le_refl _) (.cells #[.int .i64 7, .int .i64 a.nn, .int .i64 a.pi, .int .i64 a.si, .int .i64 a.zo, .bool a.be, .slice a.la a.ln a.lcap] 30)).alloc (by simp) (.cells #[.int .i64 0, .int .i64 0, .int .i64 0, .int .i64 0, .int .i64 0, .bool false, .slice none 0 0] 30)
  have x1 := (boxR_new w 30 #[.int .i64 7, .int .i64 a.nn, .int .i64 a.pi, .int .i64 a.si, .int .i64 a.zo, .bool a.be, .slice a.la a.ln a.lcap]).alloc (.cells #[.int .i64 0, .int .i64 0, .int .i64 0, .int .i64 0, .int .i64 0, .bool false, .slice none 0 0] 30)
  have x2 : BoxR ((w.alloc (.cells #[.int .i64 7, .int .i64 a.nn, .int .i64 a.pi, .int .i64 a.si, .int .i64 a.zo, .bool a.be, .slice a.la a.ln a.lcap] 30)).alloc (.cells #[.int .i64 0, .int .i64 0, .int .i64 0, .int .i64 0, .int .i64 0, .bool false, .slice none 0 0] 30)) (w.heap.size + 1) 30 #[.int .i64 0, .int .i64 0, .int .i64 0, .int .i64 0, .int .i64 0, .bool false, .slice none 0 0] := heap_alloc2_new _ _ _
  generalize hW : (w.alloc (.cells #[.int .i64 7, .int .i64 a.nn, .int .i64 a.pi, .int .i64 a.si, .int .i64 a.zo, .bool a.be, .slice a.la a.ln a.lcap] 30)).alloc (.cells #[.int .i64 0, .int .i64 0, .int .i64 0, .int .i64 0, .int .i64 0, .bool false, .slice none 0 0] 30) = W at hb0 x1 x2
  have c0 := x1.cell 0
  simp at c0
  have c4 := x1.cell 4
  simp at c4
  have f4 := x1.froz 4
  have x1_1 := x1.put 4 (.int .i64 0)
  have x2_1 := x2.other (q := ⟨w.heap.size, 4, none⟩) (by simp) (.int .i64 0)
  have hb_1 := hb0.setCell (p := ⟨w.heap.size, 4, none⟩) (Nat.le_refl _) (.int .i64 0)
  have z1 := x1_1
  have z2 := x2_1
  have zb := hb_1
  generalize hV : (W.setCell ⟨w.heap.size, 4, none⟩ (.int .i64 0)) = V at z1 z2 zb
  have d0 := z1.cell 0
  have d1 := z1.cell 1
  have d2 := z1.cell 2
  have d3 := z1.cell 3
  have d4 := z1.cell 4
  have d5 := z1.cell 5
  have d6 := z1.cell 6
  simp at d0 d1 d2 d3 d4 d5 d6
  go_enter Try.func52, Try.ntmps52
  go_wp2_with (refine wpList_store_row rfl 30 (.tmp 2) _ rfl (w.heap.size + 1) _ (by rfl) (by rfl) _ _ z2 (by kernel_rfl) (by rfl) (by simp [Value.oneCell']) ?_)
  (try simp only [Exit.inBlock, Exit.then]); refine bodyPost_ret (results_cell_row rfl _ _ (w.heap.size + 1) _ _ _ _ rfl (setRow_heap _ _ _ _ _ _ z2) Try.underlying30 rfl (by kernel_rfl)) rfl ?_
  exact ⟨by rw [HA.out]; simp only; rw [HK.out], below_setRow zb (by omega) _⟩
set_option maxHeartbeats 4000000 in
theorem wo_9 (a : Ac) (w : World) (h : a.kd = 9) : Calls Try.prog 52 #[(.agg #[.int .i64 9, .int .i64 a.nn, .int .i64 a.pi, .int .i64 a.si, .int .i64 a.zo, .bool a.be, .slice a.la a.ln a.lcap])] w fun e w' => e = .returned (.agg #[.int .i64 (woA a).kd, .int .i64 (woA a).nn, .int .i64 (woA a).pi, .int .i64 (woA a).si, .int .i64 (woA a).zo, .bool (woA a).be, .slice (woA a).la (woA a).ln (woA a).lcap]) ∧ Below w.heap.size w w' := by
  have HA : Hid (woA a = { a with la := none, ln := 0, lcap := 0 }) := by show woA a = _; unfold woA; simp [h]
  have HK : Hid (a.kd = 9) := h
  clear h
  have hb0 := ((Below.refl _ w).alloc (Nat.le_refl _) (.cells #[.int .i64 9, .int .i64 a.nn, .int .i64 a.pi, .int .i64 a.si, .int .i64 a.zo, .bool a.be, .slice a.la a.ln a.lcap] 30)).alloc (by simp) (.cells #[.int .i64 0, .int .i64 0, .int .i64 0, .int .i64 0, .int .i64 0, .bool false, .slice none 0 0] 30)
  have x1 := (boxR_new w 30 #[.int .i64 9, .int .i64 a.nn, .int .i64 a.pi, .int .i64 a.si, .int .i64 a.zo, .bool a.be, .slice a.la a.ln a.lcap]).alloc (.cells #[.int .i64 0, .int .i64 0, .int .i64 0, .int .i64 0, .int .i64 0, .bool false, .slice none 0 0] 30)
  have x2 : BoxR ((w.alloc (.cells #[.int .i64 9, .int .i64 a.nn, .int .i64 a.pi, .int .i64 a.si, .int .i64 a.zo, .bool a.be, .slice a.la a.ln a.lcap] 30)).alloc (.cells #[.int .i64 0, .int .i64 0, .int .i64 0, .int .i64 0, .int .i64 0, .bool false, .slice none 0 0] 30)) (w.heap.size + 1) 30 #[.int .i64 0, .int .i64 0, .int .i64 0, .int .i64 0, .int .i64 0, .bool false, .slice none 0 0] := heap_alloc2_new _ _ _
  generalize hW : (w.alloc (.cells #[.int .i64 9, .int .i64 a.nn, .int .i64 a.pi, .int .i64 a.si, .int .i64 a.zo, .bool a.be, .slice a.la a.ln a.lcap] 30)).alloc (.cells #[.int .i64 0, .int .i64 0, .int .i64 0, .int .i64 0, .int .i64 0, .bool false, .slice none 0 0] 30) = W at hb0 x1 x2
  have c0 := x1.cell 0
  simp at c0
  have c6 := x1.cell 6
  simp at c6
  have f6 := x1.froz 6
  have x1_1 := x1.put 6 (.slice none 0 0)
  have x2_1 := x2.other (q := ⟨w.heap.size, 6, none⟩) (by simp) (.slice none 0 0)
  have hb_1 := hb0.setCell (p := ⟨w.heap.size, 6, none⟩) (Nat.le_refl _) (.slice none 0 0)
  have z1 := x1_1
  have z2 := x2_1
  have zb := hb_1
  generalize hV : (W.setCell ⟨w.heap.size, 6, none⟩ (.slice none 0 0)) = V at z1 z2 zb
  have d0 := z1.cell 0
  have d1 := z1.cell 1
  have d2 := z1.cell 2
  have d3 := z1.cell 3
  have d4 := z1.cell 4
  have d5 := z1.cell 5
  have d6 := z1.cell 6
  simp at d0 d1 d2 d3 d4 d5 d6
  go_enter Try.func52, Try.ntmps52
  go_wp2_with (refine wpList_store_row rfl 30 (.tmp 2) _ rfl (w.heap.size + 1) _ (by rfl) (by rfl) _ _ z2 (by kernel_rfl) (by rfl) (by simp [Value.oneCell']) ?_)
  (try simp only [Exit.inBlock, Exit.then]); refine bodyPost_ret (results_cell_row rfl _ _ (w.heap.size + 1) _ _ _ _ rfl (setRow_heap _ _ _ _ _ _ z2) Try.underlying30 rfl (by kernel_rfl)) rfl ?_
  exact ⟨by rw [HA.out]; simp only; rw [HK.out], below_setRow zb (by omega) _⟩
set_option maxHeartbeats 4000000 in
theorem wo_x (a : Ac) (w : World) (h : ∀ k : Int, k = 3 ∨ k = 6 ∨ k = 7 ∨ k = 8 ∨ k = 9 → a.kd ≠ k) : Calls Try.prog 52 #[(.agg #[.int .i64 a.kd, .int .i64 a.nn, .int .i64 a.pi, .int .i64 a.si, .int .i64 a.zo, .bool a.be, .slice a.la a.ln a.lcap])] w fun e w' => e = .returned (.agg #[.int .i64 (woA a).kd, .int .i64 (woA a).nn, .int .i64 (woA a).pi, .int .i64 (woA a).si, .int .i64 (woA a).zo, .bool (woA a).be, .slice (woA a).la (woA a).ln (woA a).lcap]) ∧ Below w.heap.size w w' := by
  have HA : Hid (woA a = a) := by show woA a = a; unfold woA; simp [h 3, h 6, h 7, h 8, h 9]
  have n3 : (a.kd == 3) = false := by simpa using h 3 (by omega)
  have n6 : (a.kd == 6) = false := by simpa using h 6 (by omega)
  have n7 : (a.kd == 7) = false := by simpa using h 7 (by omega)
  have n8 : (a.kd == 8) = false := by simpa using h 8 (by omega)
  have n9 : (a.kd == 9) = false := by simpa using h 9 (by omega)
  clear h
  have hb0 := ((Below.refl _ w).alloc (Nat.le_refl _) (.cells #[.int .i64 a.kd, .int .i64 a.nn, .int .i64 a.pi, .int .i64 a.si, .int .i64 a.zo, .bool a.be, .slice a.la a.ln a.lcap] 30)).alloc (by simp) (.cells #[.int .i64 0, .int .i64 0, .int .i64 0, .int .i64 0, .int .i64 0, .bool false, .slice none 0 0] 30)
  have x1 := (boxR_new w 30 #[.int .i64 a.kd, .int .i64 a.nn, .int .i64 a.pi, .int .i64 a.si, .int .i64 a.zo, .bool a.be, .slice a.la a.ln a.lcap]).alloc (.cells #[.int .i64 0, .int .i64 0, .int .i64 0, .int .i64 0, .int .i64 0, .bool false, .slice none 0 0] 30)
  have x2 : BoxR ((w.alloc (.cells #[.int .i64 a.kd, .int .i64 a.nn, .int .i64 a.pi, .int .i64 a.si, .int .i64 a.zo, .bool a.be, .slice a.la a.ln a.lcap] 30)).alloc (.cells #[.int .i64 0, .int .i64 0, .int .i64 0, .int .i64 0, .int .i64 0, .bool false, .slice none 0 0] 30)) (w.heap.size + 1) 30 #[.int .i64 0, .int .i64 0, .int .i64 0, .int .i64 0, .int .i64 0, .bool false, .slice none 0 0] := heap_alloc2_new _ _ _
  generalize hW : (w.alloc (.cells #[.int .i64 a.kd, .int .i64 a.nn, .int .i64 a.pi, .int .i64 a.si, .int .i64 a.zo, .bool a.be, .slice a.la a.ln a.lcap] 30)).alloc (.cells #[.int .i64 0, .int .i64 0, .int .i64 0, .int .i64 0, .int .i64 0, .bool false, .slice none 0 0] 30) = W at hb0 x1 x2
  have c0 := x1.cell 0
  simp at c0
  have z1 := x1
  have z2 := x2
  have zb := hb0
  have d0 := z1.cell 0
  have d1 := z1.cell 1
  have d2 := z1.cell 2
  have d3 := z1.cell 3
  have d4 := z1.cell 4
  have d5 := z1.cell 5
  have d6 := z1.cell 6
  simp at d0 d1 d2 d3 d4 d5 d6
  go_enter Try.func52, Try.ntmps52
  go_wp2_with (refine wpList_store_row rfl 30 (.tmp 2) _ rfl (w.heap.size + 1) _ (by rfl) (by rfl) _ _ z2 (by kernel_rfl) (by rfl) (by simp [Value.oneCell']) ?_)
  (try simp only [Exit.inBlock, Exit.then]); refine bodyPost_ret (results_cell_row rfl _ _ (w.heap.size + 1) _ _ _ _ rfl (setRow_heap _ _ _ _ _ _ z2) Try.underlying30 rfl (by kernel_rfl)) rfl ?_
  exact ⟨by rw [HA.out], below_setRow zb (by omega) _⟩
theorem withoutNamed_any (a : Ac) (w : World) : Calls Try.prog 52 #[(.agg #[.int .i64 a.kd, .int .i64 a.nn, .int .i64 a.pi, .int .i64 a.si, .int .i64 a.zo, .bool a.be, .slice a.la a.ln a.lcap])] w fun e w' => e = .returned (.agg #[.int .i64 (woA a).kd, .int .i64 (woA a).nn, .int .i64 (woA a).pi, .int .i64 (woA a).si, .int .i64 (woA a).zo, .bool (woA a).be, .slice (woA a).la (woA a).ln (woA a).lcap]) ∧ Below w.heap.size w w' := by
  by_cases h : a.kd = 3 ∨ a.kd = 6 ∨ a.kd = 7 ∨ a.kd = 8 ∨ a.kd = 9
  · rcases h with h | h | h | h | h
    · rw [h]; exact wo_3 a w h
    · rw [h]; exact wo_6 a w h
    · rw [h]; exact wo_7 a w h
    · rw [h]; exact wo_8 a w h
    · rw [h]; exact wo_9 a w h
  · exact wo_x a w (fun k hk e => h (by omega))
end Go.Proofs.Ytodfdfncdoliiad
