/-
  Chapter 9: the program's ActFits, Amount, withSameN, partOk, aimOk, namesNothing, withoutNamed. Written by tools/aci.gen.py. Chapter 9: the program's partsOk, Parts. Written by tools/aci.gen.py. Chapter 9: the program's namedOk, ActOk. Written by tools/aci.gen.py. Chapter 9: the program at acts that are alike. Written by tools/ac.gen.py. Chapter 10, the program: subjectOk. Written by tools/efi.gen.py. Own work.
-/
import Derived.Test.YtodfdfncdoliiadGreatGStAt3
import Derived.Test.YtodfdfncdoliiadGreatAcD
import Derived.Test.YtodfdfncdoliiadGreatGEvC32
import Derived.Test.YtodfdfncdoliiadGreatGTbC5
import Derived.Test.YtodfdfncdoliiadGreatGSpA5
import Derived.Test.YtodfdfncdoliiadGreatPaI
import Derived.Test.YtodfdfncdoliiadGreatGStField2
import Derived.Deep.DeepCutAuto
import Derived.Deep.CutBlock
import Derived.Deep.RegionHeld
namespace Go.Proofs.YtodfdfncdoliiadGreat
open Go.ChangeShapes Go.WideShapes Go.ChangeAt Go.RowKit
set_option maxRecDepth 100000
set_option linter.unusedVariables false
set_option linter.unusedSimpArgs false

set_option maxHeartbeats 4000000 in
theorem implActFits_any (a : Ac) (k : Int) (w : World) : Calls Tryz.prog 23 #[(.agg #[.int .i64 a.kd, .int .i64 a.nn, .int .i64 a.pi, .int .i64 a.si, .int .i64 a.zo, .bool a.be, .slice a.la a.ln a.lcap]), .int .i64 k] w fun e w' => e = .returned (.bool (fiA a k)) ∧ Below w.heap.size w w' := by
  have HB := (Below.refl _ w).alloc (Nat.le_refl _) (.cells #[.int .i64 a.kd, .int .i64 a.nn, .int .i64 a.pi, .int .i64 a.si, .int .i64 a.zo, .bool a.be, .slice a.la a.ln a.lcap] 30)
  have bx := boxR_new w 30 #[.int .i64 a.kd, .int .i64 a.nn, .int .i64 a.pi, .int .i64 a.si, .int .i64 a.zo, .bool a.be, .slice a.la a.ln a.lcap]
  generalize hW : w.alloc (.cells #[.int .i64 a.kd, .int .i64 a.nn, .int .i64 a.pi, .int .i64 a.si, .int .i64 a.zo, .bool a.be, .slice a.la a.ln a.lcap] 30) = W at HB bx
  have c0 := bx.cell 0
  have c1 := bx.cell 1
  have c2 := bx.cell 2
  have c3 := bx.cell 3
  have c4 := bx.cell 4
  have c5 := bx.cell 5
  have c6 := bx.cell 6
  simp at c0 c1 c2 c3 c4 c5 c6
  go_enter Tryz.func23, Tryz.ntmps23
  go_wp2_with (go_at_call 75; refine (between_any _ _ _ _).mono ?_; rintro e w' ⟨rfl, rfl⟩)
  all_goals go_ret
  all_goals exact ⟨ret_bool' (by unfold fiA ib; first | (simp_all; done) | (simp_all; omega) | (rw [Bool.eq_iff_iff]; simp_all; done) | (rw [Bool.eq_iff_iff]; simp_all; omega)), HB⟩
/-- a part with the amount of what is turned into parts -/
def sameE (e : Ev) (n : Int) : Ev := if e.nn = -1 then wnE e n else e
theorem sameE_yes {e : Ev} {n : Int} (h : (e.nn == -1) = true) : sameE e n = wnE e n := by unfold sameE; simp_all
theorem sameE_no {e : Ev} {n : Int} (h : (e.nn == -1) = false) : sameE e n = e := by unfold sameE; simp_all
set_option maxHeartbeats 2000000 in
theorem withSameN_any (x : Ev) (n : Int) (w : World) : Calls Tryz.prog 166 #[(.agg #[.int .i64 x.kd, .int .i64 x.sr, .int .i64 x.pi, .int .i64 x.si, .int .i64 x.nn, .int .i64 x.zo, .bool x.be]), .int .i64 n] w fun r w' => r = .returned (.agg #[.int .i64 (sameE x n).kd, .int .i64 (sameE x n).sr, .int .i64 (sameE x n).pi, .int .i64 (sameE x n).si, .int .i64 (sameE x n).nn, .int .i64 (sameE x n).zo, .bool (sameE x n).be]) ∧ Below w.heap.size w w' := by
  have hb0 := ((Below.refl _ w).alloc (Nat.le_refl _) (.cells #[.int .i64 x.kd, .int .i64 x.sr, .int .i64 x.pi, .int .i64 x.si, .int .i64 x.nn, .int .i64 x.zo, .bool x.be] 39)).alloc (by simp) (.cells #[.int .i64 0, .int .i64 0, .int .i64 0, .int .i64 0, .int .i64 0, .int .i64 0, .bool false] 39)
  have x1 := (boxR_new w 39 #[.int .i64 x.kd, .int .i64 x.sr, .int .i64 x.pi, .int .i64 x.si, .int .i64 x.nn, .int .i64 x.zo, .bool x.be]).alloc (.cells #[.int .i64 0, .int .i64 0, .int .i64 0, .int .i64 0, .int .i64 0, .int .i64 0, .bool false] 39)
  have x2 : BoxR ((w.alloc (.cells #[.int .i64 x.kd, .int .i64 x.sr, .int .i64 x.pi, .int .i64 x.si, .int .i64 x.nn, .int .i64 x.zo, .bool x.be] 39)).alloc (.cells #[.int .i64 0, .int .i64 0, .int .i64 0, .int .i64 0, .int .i64 0, .int .i64 0, .bool false] 39)) (w.heap.size + 1) 39 #[.int .i64 0, .int .i64 0, .int .i64 0, .int .i64 0, .int .i64 0, .int .i64 0, .bool false] := heap_alloc2_new _ _ _
  generalize hW : (w.alloc (.cells #[.int .i64 x.kd, .int .i64 x.sr, .int .i64 x.pi, .int .i64 x.si, .int .i64 x.nn, .int .i64 x.zo, .bool x.be] 39)).alloc (.cells #[.int .i64 0, .int .i64 0, .int .i64 0, .int .i64 0, .int .i64 0, .int .i64 0, .bool false] 39) = W at hb0 x1 x2
  have c0 := x1.cell 0
  have c1 := x1.cell 1
  have c2 := x1.cell 2
  have c3 := x1.cell 3
  have c4 := x1.cell 4
  have c5 := x1.cell 5
  have c6 := x1.cell 6
  simp at c0 c1 c2 c3 c4 c5 c6
  cases q1 : (x.nn == -1)
  case false =>
    have HP : Hid (sameE x n = x) := sameE_no q1
    have q2 : (x.nn != -1) = true := by rw [bne, q1]; rfl
    go_enter Tryz.func166, Tryz.ntmps166
    go_wp2_with (refine wpList_store_row rfl 39 (.tmp 4) _ rfl (w.heap.size + 1) _ (by rfl) (by rfl) _ _ x2 (by kernel_rfl) (by rfl) (by simp [Value.oneCell']) ?_)
    (try simp only [Exit.inBlock, Exit.then]); refine bodyPost_ret (results_cell_row rfl _ _ (w.heap.size + 1) _ _ _ _ rfl (setRow_heap _ _ _ _ _ _ x2) Tryz.underlying39 rfl (by kernel_rfl)) rfl ?_
    rw [HP.out]
    exact ⟨rfl, below_setRow hb0 (by omega) _⟩
  case true =>
    have HP : Hid (sameE x n = wnE x n) := sameE_yes q1
    have q2 : (x.nn != -1) = false := by rw [bne, q1]; rfl
    go_enter Tryz.func166, Tryz.ntmps166
    go_wp2_with fail
    refine (implWithN_any x n _).mono ?_
    rintro r w1 ⟨rfl, hb1⟩
    replace x2 := x2.grew hb1
    have hB := below_app hb0 hb1 hb0.size
    go_wp2_with (refine wpList_store_row rfl 39 (.tmp 4) _ rfl (w.heap.size + 1) _ (by rfl) (by rfl) _ _ x2 (by kernel_rfl) (by rfl) (by simp [Value.oneCell', wnE]) ?_)
    (try simp only [Exit.inBlock, Exit.then]); refine bodyPost_ret (results_cell_row rfl _ _ (w.heap.size + 1) _ _ _ _ rfl (setRow_heap _ _ _ _ _ _ x2) Tryz.underlying39 rfl (by kernel_rfl)) rfl ?_
    rw [HP.out]
    exact ⟨rfl, below_setRow hB (by omega) _⟩
theorem ptE_move {x : Ev} (h : (x.kd == 2) = true) : ptE x = okE x := by unfold ptE; simp_all
theorem up_none : up 0 2147483647 = 0 := by decide
theorem ptE_rest {x : Ev} (h : (x.kd == 2) = false) : ptE x = okE (sameE x 0) := by
  unfold ptE sameE wnE
  rw [up_none]
  by_cases q : x.nn = -1 <;> simp_all
set_option maxHeartbeats 2000000 in
theorem partOk_any (x : Ev) (w : World) : Calls Tryz.prog 160 #[(.agg #[.int .i64 x.kd, .int .i64 x.sr, .int .i64 x.pi, .int .i64 x.si, .int .i64 x.nn, .int .i64 x.zo, .bool x.be])] w fun r w' => r = .returned (.bool (ptE x)) ∧ Below w.heap.size w w' := by
  have HB := (Below.refl _ w).alloc (Nat.le_refl _) (.cells #[.int .i64 x.kd, .int .i64 x.sr, .int .i64 x.pi, .int .i64 x.si, .int .i64 x.nn, .int .i64 x.zo, .bool x.be] 39)
  have bx := boxR_new w 39 #[.int .i64 x.kd, .int .i64 x.sr, .int .i64 x.pi, .int .i64 x.si, .int .i64 x.nn, .int .i64 x.zo, .bool x.be]
  generalize hW : w.alloc (.cells #[.int .i64 x.kd, .int .i64 x.sr, .int .i64 x.pi, .int .i64 x.si, .int .i64 x.nn, .int .i64 x.zo, .bool x.be] 39) = W at HB bx
  have c0 := bx.cell 0
  have c1 := bx.cell 1
  have c2 := bx.cell 2
  have c3 := bx.cell 3
  have c4 := bx.cell 4
  have c5 := bx.cell 5
  have c6 := bx.cell 6
  simp at c0 c1 c2 c3 c4 c5 c6
  cases q1 : (x.kd == 2)
  case true =>
    have HP : Hid (ptE x = okE x) := ptE_move q1
    go_enter Tryz.func160, Tryz.ntmps160
    go_wp2_with fail
    refine (implEventOk_any x _).mono ?_
    rintro r w1 ⟨rfl, hb1⟩
    go_wp2
    go_ret
    exact ⟨ret_bool' HP.out.symm, below_app HB hb1 HB.size⟩
  case false =>
    have HP : Hid (ptE x = okE (sameE x 0)) := ptE_rest q1
    go_enter Tryz.func160, Tryz.ntmps160
    go_wp2_with fail
    refine (withSameN_any x 0 _).mono ?_
    rintro r w1 ⟨rfl, hb1⟩
    generalize sameE x 0 = y at HP
    go_wp2_with fail
    refine (implEventOk_any y _).mono ?_
    rintro r w2 ⟨rfl, hb2⟩
    go_wp2
    go_ret
    exact ⟨ret_bool' HP.out.symm, below_app (below_app HB hb1 HB.size) hb2 (below_app HB hb1 HB.size).size⟩
/-- what an act turns onto is right -/
def aimA (a : Ac) : Bool := bif decide (a.pi = 0) then ib a.si 0 2 else ib a.pi 1 99 && decide (a.si = -1)
set_option maxHeartbeats 2000000 in
theorem aimOk_any (a : Ac) (w : World) : Calls Tryz.prog 140 #[(.agg #[.int .i64 a.kd, .int .i64 a.nn, .int .i64 a.pi, .int .i64 a.si, .int .i64 a.zo, .bool a.be, .slice a.la a.ln a.lcap])] w fun e w' => e = .returned (.bool (aimA a)) ∧ Below w.heap.size w w' := by
  have HB := (Below.refl _ w).alloc (Nat.le_refl _) (.cells #[.int .i64 a.kd, .int .i64 a.nn, .int .i64 a.pi, .int .i64 a.si, .int .i64 a.zo, .bool a.be, .slice a.la a.ln a.lcap] 30)
  have bx := boxR_new w 30 #[.int .i64 a.kd, .int .i64 a.nn, .int .i64 a.pi, .int .i64 a.si, .int .i64 a.zo, .bool a.be, .slice a.la a.ln a.lcap]
  generalize hW : w.alloc (.cells #[.int .i64 a.kd, .int .i64 a.nn, .int .i64 a.pi, .int .i64 a.si, .int .i64 a.zo, .bool a.be, .slice a.la a.ln a.lcap] 30) = W at HB bx
  have c0 := bx.cell 0
  have c1 := bx.cell 1
  have c2 := bx.cell 2
  have c3 := bx.cell 3
  have c4 := bx.cell 4
  have c5 := bx.cell 5
  have c6 := bx.cell 6
  simp at c0 c1 c2 c3 c4 c5 c6
  go_enter Tryz.func140, Tryz.ntmps140
  go_wp2_with first | (go_at_call 105; refine (isSide_any _ _).mono ?_; rintro e w' ⟨rfl, rfl⟩) | (go_at_call 57; refine (isIdE_any _ _).mono ?_; rintro e w' ⟨rfl, rfl⟩)
  all_goals go_ret
  all_goals exact ⟨ret_bool' (by unfold aimA; first | (simp_all; done) | (rw [Bool.eq_iff_iff]; simp_all)), HB⟩
/-- whether it names nothing -/
def nnA (a : Ac) : Bool := decide (a.nn = 0) && plA a
set_option maxHeartbeats 2000000 in
theorem namesNothing_any (a : Ac) (w : World) : Calls Tryz.prog 108 #[(.agg #[.int .i64 a.kd, .int .i64 a.nn, .int .i64 a.pi, .int .i64 a.si, .int .i64 a.zo, .bool a.be, .slice a.la a.ln a.lcap])] w fun e w' => e = .returned (.bool (nnA a)) ∧ Below w.heap.size w w' := by
  have HB := (Below.refl _ w).alloc (Nat.le_refl _) (.cells #[.int .i64 a.kd, .int .i64 a.nn, .int .i64 a.pi, .int .i64 a.si, .int .i64 a.zo, .bool a.be, .slice a.la a.ln a.lcap] 30)
  have bx := boxR_new w 30 #[.int .i64 a.kd, .int .i64 a.nn, .int .i64 a.pi, .int .i64 a.si, .int .i64 a.zo, .bool a.be, .slice a.la a.ln a.lcap]
  generalize hW : w.alloc (.cells #[.int .i64 a.kd, .int .i64 a.nn, .int .i64 a.pi, .int .i64 a.si, .int .i64 a.zo, .bool a.be, .slice a.la a.ln a.lcap] 30) = W at HB bx
  have c0 := bx.cell 0
  have c1 := bx.cell 1
  have c2 := bx.cell 2
  have c3 := bx.cell 3
  have c4 := bx.cell 4
  have c5 := bx.cell 5
  have c6 := bx.cell 6
  simp at c0 c1 c2 c3 c4 c5 c6
  go_enter Tryz.func108, Tryz.ntmps108
  go_wp2
  all_goals go_ret
  all_goals exact ⟨ret_bool' (by unfold nnA plA; first | (simp_all; done) | (simp_all; omega) | (rw [Bool.eq_iff_iff]; simp_all)), HB⟩
/-- what is left when that is taken away which its kind names -/
def woA (a : Ac) : Ac :=
  if a.kd = 8 then { a with be := false, nn := 0 } else if a.kd = 3 then { a with nn := 0 } else if a.kd = 6 then { a with pi := 0, si := -1 } else if a.kd = 7 then { a with zo := 0 } else if a.kd = 9 then { a with la := none, ln := 0, lcap := 0 } else a
set_option maxHeartbeats 4000000 in
theorem wo_8 (a : Ac) (w : World) (h : a.kd = 8) : Calls Tryz.prog 109 #[(.agg #[.int .i64 8, .int .i64 a.nn, .int .i64 a.pi, .int .i64 a.si, .int .i64 a.zo, .bool a.be, .slice a.la a.ln a.lcap])] w fun e w' => e = .returned (.agg #[.int .i64 (woA a).kd, .int .i64 (woA a).nn, .int .i64 (woA a).pi, .int .i64 (woA a).si, .int .i64 (woA a).zo, .bool (woA a).be, .slice (woA a).la (woA a).ln (woA a).lcap]) ∧ Below w.heap.size w w' := by
  have HA : Hid (woA a = { a with be := false, nn := 0 }) := by show woA a = _; unfold woA; simp [h]
  have HK : Hid (a.kd = 8) := h
  clear h
  have hb0 := ((Below.refl _ w).alloc (Nat.le_refl _) (.cells #[.int .i64 8, .int .i64 a.nn, .int .i64 a.pi, .int .i64 a.si, .int .i64 a.zo, .bool a.be, .slice a.la a.ln a.lcap] 30)).alloc (by simp) (.cells #[.int .i64 0, .int .i64 0, .int .i64 0, .int .i64 0, .int .i64 0, .bool false, .slice none 0 0] 30)
  have x1 := (boxR_new w 30 #[.int .i64 8, .int .i64 a.nn, .int .i64 a.pi, .int .i64 a.si, .int .i64 a.zo, .bool a.be, .slice a.la a.ln a.lcap]).alloc (.cells #[.int .i64 0, .int .i64 0, .int .i64 0, .int .i64 0, .int .i64 0, .bool false, .slice none 0 0] 30)
  have x2 : BoxR ((w.alloc (.cells #[.int .i64 8, .int .i64 a.nn, .int .i64 a.pi, .int .i64 a.si, .int .i64 a.zo, .bool a.be, .slice a.la a.ln a.lcap] 30)).alloc (.cells #[.int .i64 0, .int .i64 0, .int .i64 0, .int .i64 0, .int .i64 0, .bool false, .slice none 0 0] 30)) (w.heap.size + 1) 30 #[.int .i64 0, .int .i64 0, .int .i64 0, .int .i64 0, .int .i64 0, .bool false, .slice none 0 0] := heap_alloc2_new _ _ _
  generalize hW : (w.alloc (.cells #[.int .i64 8, .int .i64 a.nn, .int .i64 a.pi, .int .i64 a.si, .int .i64 a.zo, .bool a.be, .slice a.la a.ln a.lcap] 30)).alloc (.cells #[.int .i64 0, .int .i64 0, .int .i64 0, .int .i64 0, .int .i64 0, .bool false, .slice none 0 0] 30) = W at hb0 x1 x2
  have c0 := x1.cell 0
  simp at c0
  have c5 := x1.cell 5
  simp at c5
  have c1 := x1.cell 1
  simp at c1
  have f5 := x1.froz 5
  have f1 := x1.froz 1
  have x1_1 := x1.put 5 (.bool false)
  have x2_1 := x2.other (q := ⟨w.heap.size, 5, none⟩) (by simp) (.bool false)
  have hb_1 := hb0.setCell (p := ⟨w.heap.size, 5, none⟩) (Nat.le_refl _) (.bool false)
  have x1_2 := x1_1.put 1 (.int .i64 0)
  have x2_2 := x2_1.other (q := ⟨w.heap.size, 1, none⟩) (by simp) (.int .i64 0)
  have hb_2 := hb_1.setCell (p := ⟨w.heap.size, 1, none⟩) (Nat.le_refl _) (.int .i64 0)
  have z1 := x1_2
  have z2 := x2_2
  have zb := hb_2
  generalize hV : ((W.setCell ⟨w.heap.size, 5, none⟩ (.bool false)).setCell ⟨w.heap.size, 1, none⟩ (.int .i64 0)) = V at z1 z2 zb
  have d0 := z1.cell 0
  have d1 := z1.cell 1
  have d2 := z1.cell 2
  have d3 := z1.cell 3
  have d4 := z1.cell 4
  have d5 := z1.cell 5
  have d6 := z1.cell 6
  simp at d0 d1 d2 d3 d4 d5 d6
  go_enter Tryz.func109, Tryz.ntmps109
  go_wp2_with (refine wpList_store_row rfl 30 (.tmp 2) _ rfl (w.heap.size + 1) _ (by rfl) (by rfl) _ _ z2 (by kernel_rfl) (by rfl) (by simp [Value.oneCell']) ?_)
  (try simp only [Exit.inBlock, Exit.then]); refine bodyPost_ret (results_cell_row rfl _ _ (w.heap.size + 1) _ _ _ _ rfl (setRow_heap _ _ _ _ _ _ z2) Tryz.underlying30 rfl (by kernel_rfl)) rfl ?_
  exact ⟨by rw [HA.out]; simp only; rw [HK.out], below_setRow zb (by omega) _⟩
set_option maxHeartbeats 4000000 in
theorem wo_3 (a : Ac) (w : World) (h : a.kd = 3) : Calls Tryz.prog 109 #[(.agg #[.int .i64 3, .int .i64 a.nn, .int .i64 a.pi, .int .i64 a.si, .int .i64 a.zo, .bool a.be, .slice a.la a.ln a.lcap])] w fun e w' => e = .returned (.agg #[.int .i64 (woA a).kd, .int .i64 (woA a).nn, .int .i64 (woA a).pi, .int .i64 (woA a).si, .int .i64 (woA a).zo, .bool (woA a).be, .slice (woA a).la (woA a).ln (woA a).lcap]) ∧ Below w.heap.size w w' := by
  have HA : Hid (woA a = { a with nn := 0 }) := by show woA a = _; unfold woA; simp [h]
  have HK : Hid (a.kd = 3) := h
  clear h
  have hb0 := ((Below.refl _ w).alloc (Nat.le_refl _) (.cells #[.int .i64 3, .int .i64 a.nn, .int .i64 a.pi, .int .i64 a.si, .int .i64 a.zo, .bool a.be, .slice a.la a.ln a.lcap] 30)).alloc (by simp) (.cells #[.int .i64 0, .int .i64 0, .int .i64 0, .int .i64 0, .int .i64 0, .bool false, .slice none 0 0] 30)
  have x1 := (boxR_new w 30 #[.int .i64 3, .int .i64 a.nn, .int .i64 a.pi, .int .i64 a.si, .int .i64 a.zo, .bool a.be, .slice a.la a.ln a.lcap]).alloc (.cells #[.int .i64 0, .int .i64 0, .int .i64 0, .int .i64 0, .int .i64 0, .bool false, .slice none 0 0] 30)
  have x2 : BoxR ((w.alloc (.cells #[.int .i64 3, .int .i64 a.nn, .int .i64 a.pi, .int .i64 a.si, .int .i64 a.zo, .bool a.be, .slice a.la a.ln a.lcap] 30)).alloc (.cells #[.int .i64 0, .int .i64 0, .int .i64 0, .int .i64 0, .int .i64 0, .bool false, .slice none 0 0] 30)) (w.heap.size + 1) 30 #[.int .i64 0, .int .i64 0, .int .i64 0, .int .i64 0, .int .i64 0, .bool false, .slice none 0 0] := heap_alloc2_new _ _ _
  generalize hW : (w.alloc (.cells #[.int .i64 3, .int .i64 a.nn, .int .i64 a.pi, .int .i64 a.si, .int .i64 a.zo, .bool a.be, .slice a.la a.ln a.lcap] 30)).alloc (.cells #[.int .i64 0, .int .i64 0, .int .i64 0, .int .i64 0, .int .i64 0, .bool false, .slice none 0 0] 30) = W at hb0 x1 x2
  have c0 := x1.cell 0
  simp at c0
  have c1 := x1.cell 1
  simp at c1
  have f1 := x1.froz 1
  have x1_1 := x1.put 1 (.int .i64 0)
  have x2_1 := x2.other (q := ⟨w.heap.size, 1, none⟩) (by simp) (.int .i64 0)
  have hb_1 := hb0.setCell (p := ⟨w.heap.size, 1, none⟩) (Nat.le_refl _) (.int .i64 0)
  have z1 := x1_1
  have z2 := x2_1
  have zb := hb_1
  generalize hV : (W.setCell ⟨w.heap.size, 1, none⟩ (.int .i64 0)) = V at z1 z2 zb
  have d0 := z1.cell 0
  have d1 := z1.cell 1
  have d2 := z1.cell 2
  have d3 := z1.cell 3
  have d4 := z1.cell 4
  have d5 := z1.cell 5
  have d6 := z1.cell 6
  simp at d0 d1 d2 d3 d4 d5 d6
  go_enter Tryz.func109, Tryz.ntmps109
  go_wp2_with (refine wpList_store_row rfl 30 (.tmp 2) _ rfl (w.heap.size + 1) _ (by rfl) (by rfl) _ _ z2 (by kernel_rfl) (by rfl) (by simp [Value.oneCell']) ?_)
  (try simp only [Exit.inBlock, Exit.then]); refine bodyPost_ret (results_cell_row rfl _ _ (w.heap.size + 1) _ _ _ _ rfl (setRow_heap _ _ _ _ _ _ z2) Tryz.underlying30 rfl (by kernel_rfl)) rfl ?_
  exact ⟨by rw [HA.out]; simp only; rw [HK.out], below_setRow zb (by omega) _⟩
set_option maxHeartbeats 4000000 in
theorem wo_6 (a : Ac) (w : World) (h : a.kd = 6) : Calls Tryz.prog 109 #[(.agg #[.int .i64 6, .int .i64 a.nn, .int .i64 a.pi, .int .i64 a.si, .int .i64 a.zo, .bool a.be, .slice a.la a.ln a.lcap])] w fun e w' => e = .returned (.agg #[.int .i64 (woA a).kd, .int .i64 (woA a).nn, .int .i64 (woA a).pi, .int .i64 (woA a).si, .int .i64 (woA a).zo, .bool (woA a).be, .slice (woA a).la (woA a).ln (woA a).lcap]) ∧ Below w.heap.size w w' := by
  have HA : Hid (woA a = { a with pi := 0, si := -1 }) := by show woA a = _; unfold woA; simp [h]
  have HK : Hid (a.kd = 6) := h
  clear h
  have hb0 := ((Below.refl _ w).alloc (Nat.le_refl _) (.cells #[.int .i64 6, .int .i64 a.nn, .int .i64 a.pi, .int .i64 a.si, .int .i64 a.zo, .bool a.be, .slice a.la a.ln a.lcap] 30)).alloc (by simp) (.cells #[.int .i64 0, .int .i64 0, .int .i64 0, .int .i64 0, .int .i64 0, .bool false, .slice none 0 0] 30)
  have x1 := (boxR_new w 30 #[.int .i64 6, .int .i64 a.nn, .int .i64 a.pi, .int .i64 a.si, .int .i64 a.zo, .bool a.be, .slice a.la a.ln a.lcap]).alloc (.cells #[.int .i64 0, .int .i64 0, .int .i64 0, .int .i64 0, .int .i64 0, .bool false, .slice none 0 0] 30)
  have x2 : BoxR ((w.alloc (.cells #[.int .i64 6, .int .i64 a.nn, .int .i64 a.pi, .int .i64 a.si, .int .i64 a.zo, .bool a.be, .slice a.la a.ln a.lcap] 30)).alloc (.cells #[.int .i64 0, .int .i64 0, .int .i64 0, .int .i64 0, .int .i64 0, .bool false, .slice none 0 0] 30)) (w.heap.size + 1) 30 #[.int .i64 0, .int .i64 0, .int .i64 0, .int .i64 0, .int .i64 0, .bool false, .slice none 0 0] := heap_alloc2_new _ _ _
  generalize hW : (w.alloc (.cells #[.int .i64 6, .int .i64 a.nn, .int .i64 a.pi, .int .i64 a.si, .int .i64 a.zo, .bool a.be, .slice a.la a.ln a.lcap] 30)).alloc (.cells #[.int .i64 0, .int .i64 0, .int .i64 0, .int .i64 0, .int .i64 0, .bool false, .slice none 0 0] 30) = W at hb0 x1 x2
  have c0 := x1.cell 0
  simp at c0
  have c2 := x1.cell 2
  simp at c2
  have c3 := x1.cell 3
  simp at c3
  have f2 := x1.froz 2
  have f3 := x1.froz 3
  have x1_1 := x1.put 2 (.int .i64 0)
  have x2_1 := x2.other (q := ⟨w.heap.size, 2, none⟩) (by simp) (.int .i64 0)
  have hb_1 := hb0.setCell (p := ⟨w.heap.size, 2, none⟩) (Nat.le_refl _) (.int .i64 0)
  have x1_2 := x1_1.put 3 (.int .i64 (-1))
  have x2_2 := x2_1.other (q := ⟨w.heap.size, 3, none⟩) (by simp) (.int .i64 (-1))
  have hb_2 := hb_1.setCell (p := ⟨w.heap.size, 3, none⟩) (Nat.le_refl _) (.int .i64 (-1))
  have z1 := x1_2
  have z2 := x2_2
  have zb := hb_2
  generalize hV : ((W.setCell ⟨w.heap.size, 2, none⟩ (.int .i64 0)).setCell ⟨w.heap.size, 3, none⟩ (.int .i64 (-1))) = V at z1 z2 zb
  have d0 := z1.cell 0
  have d1 := z1.cell 1
  have d2 := z1.cell 2
  have d3 := z1.cell 3
  have d4 := z1.cell 4
  have d5 := z1.cell 5
  have d6 := z1.cell 6
  simp at d0 d1 d2 d3 d4 d5 d6
  go_enter Tryz.func109, Tryz.ntmps109
  go_wp2_with (refine wpList_store_row rfl 30 (.tmp 2) _ rfl (w.heap.size + 1) _ (by rfl) (by rfl) _ _ z2 (by kernel_rfl) (by rfl) (by simp [Value.oneCell']) ?_)
  (try simp only [Exit.inBlock, Exit.then]); refine bodyPost_ret (results_cell_row rfl _ _ (w.heap.size + 1) _ _ _ _ rfl (setRow_heap _ _ _ _ _ _ z2) Tryz.underlying30 rfl (by kernel_rfl)) rfl ?_
  exact ⟨by rw [HA.out]; simp only; rw [HK.out], below_setRow zb (by omega) _⟩
set_option maxHeartbeats 4000000 in
theorem wo_7 (a : Ac) (w : World) (h : a.kd = 7) : Calls Tryz.prog 109 #[(.agg #[.int .i64 7, .int .i64 a.nn, .int .i64 a.pi, .int .i64 a.si, .int .i64 a.zo, .bool a.be, .slice a.la a.ln a.lcap])] w fun e w' => e = .returned (.agg #[.int .i64 (woA a).kd, .int .i64 (woA a).nn, .int .i64 (woA a).pi, .int .i64 (woA a).si, .int .i64 (woA a).zo, .bool (woA a).be, .slice (woA a).la (woA a).ln (woA a).lcap]) ∧ Below w.heap.size w w' := by
  have HA : Hid (woA a = { a with zo := 0 }) := by show woA a = _; unfold woA; simp [h]
  have HK : Hid (a.kd = 7) := h
  clear h
  have hb0 := ((Below.refl _ w).alloc (Nat.le_refl _) (.cells #[.int .i64 7, .int .i64 a.nn, .int .i64 a.pi, .int .i64 a.si, .int .i64 a.zo, .bool a.be, .slice a.la a.ln a.lcap] 30)).alloc (by simp) (.cells #[.int .i64 0, .int .i64 0, .int .i64 0, .int .i64 0, .int .i64 0, .bool false, .slice none 0 0] 30)
  have x1 := (boxR_new w 30 #[.int .i64 7, .int .i64 a.nn, .int .i64 a.pi, .int .i64 a.si, .int .i64 a.zo, .bool a.be, .slice a.la a.ln a.lcap]).alloc (.cells #[.int .i64 0, .int .i64 0, .int .i64 0, .int .i64 0, .int .i64 0, .bool false, .slice none 0 0] 30)
  have x2 : BoxR ((w.alloc (.cells #[.int .i64 7, .int .i64 a.nn, .int .i64 a.pi, .int .i64 a.si, .int .i64 a.zo, .bool a.be, .slice a.la a.ln a.lcap] 30)).alloc (.cells #[.int .i64 0, .int .i64 0, .int .i64 0, .int .i64 0, .int .i64 0, .bool false, .slice none 0 0] 30)) (w.heap.size + 1) 30 #[.int .i64 0, .int .i64 0, .int .i64 0, .int .i64 0, .int .i64 0, .bool false, .slice none 0 0] := heap_alloc2_new _ _ _
  generalize hW : (w.alloc (.cells #[.int .i64 7, .int .i64 a.nn, .int .i64 a.pi, .int .i64 a.si, .int .i64 a.zo, .bool a.be, .slice a.la a.ln a.lcap] 30)).alloc (.cells #[.int .i64 0, .int .i64 0, .int .i64 0, .int .i64 0, .int .i64 0, .bool false, .slice none 0 0] 30) = W at hb0 x1 x2
  have c0 := x1.cell 0
  simp at c0
  have c4 := x1.cell 4
  simp at c4
  have f4 := x1.froz 4
  have x1_1 := x1.put 4 (.int .i64 0)
  have x2_1 := x2.other (q := ⟨w.heap.size, 4, none⟩) (by simp) (.int .i64 0)
  have hb_1 := hb0.setCell (p := ⟨w.heap.size, 4, none⟩) (Nat.le_refl _) (.int .i64 0)
  have z1 := x1_1
  have z2 := x2_1
  have zb := hb_1
  generalize hV : (W.setCell ⟨w.heap.size, 4, none⟩ (.int .i64 0)) = V at z1 z2 zb
  have d0 := z1.cell 0
  have d1 := z1.cell 1
  have d2 := z1.cell 2
  have d3 := z1.cell 3
  have d4 := z1.cell 4
  have d5 := z1.cell 5
  have d6 := z1.cell 6
  simp at d0 d1 d2 d3 d4 d5 d6
  go_enter Tryz.func109, Tryz.ntmps109
  go_wp2_with (refine wpList_store_row rfl 30 (.tmp 2) _ rfl (w.heap.size + 1) _ (by rfl) (by rfl) _ _ z2 (by kernel_rfl) (by rfl) (by simp [Value.oneCell']) ?_)
  (try simp only [Exit.inBlock, Exit.then]); refine bodyPost_ret (results_cell_row rfl _ _ (w.heap.size + 1) _ _ _ _ rfl (setRow_heap _ _ _ _ _ _ z2) Tryz.underlying30 rfl (by kernel_rfl)) rfl ?_
  exact ⟨by rw [HA.out]; simp only; rw [HK.out], below_setRow zb (by omega) _⟩
set_option maxHeartbeats 4000000 in
theorem wo_9 (a : Ac) (w : World) (h : a.kd = 9) : Calls Tryz.prog 109 #[(.agg #[.int .i64 9, .int .i64 a.nn, .int .i64 a.pi, .int .i64 a.si, .int .i64 a.zo, .bool a.be, .slice a.la a.ln a.lcap])] w fun e w' => e = .returned (.agg #[.int .i64 (woA a).kd, .int .i64 (woA a).nn, .int .i64 (woA a).pi, .int .i64 (woA a).si, .int .i64 (woA a).zo, .bool (woA a).be, .slice (woA a).la (woA a).ln (woA a).lcap]) ∧ Below w.heap.size w w' := by
  have HA : Hid (woA a = { a with la := none, ln := 0, lcap := 0 }) := by show woA a = _; unfold woA; simp [h]
  have HK : Hid (a.kd = 9) := h
  clear h
  have hb0 := ((Below.refl _ w).alloc (Nat.le_refl _) (.cells #[.int .i64 9, .int .i64 a.nn, .int .i64 a.pi, .int .i64 a.si, .int .i64 a.zo, .bool a.be, .slice a.la a.ln a.lcap] 30)).alloc (by simp) (.cells #[.int .i64 0, .int .i64 0, .int .i64 0, .int .i64 0, .int .i64 0, .bool false, .slice none 0 0] 30)
  have x1 := (boxR_new w 30 #[.int .i64 9, .int .i64 a.nn, .int .i64 a.pi, .int .i64 a.si, .int .i64 a.zo, .bool a.be, .slice a.la a.ln a.lcap]).alloc (.cells #[.int .i64 0, .int .i64 0, .int .i64 0, .int .i64 0, .int .i64 0, .bool false, .slice none 0 0] 30)
  have x2 : BoxR ((w.alloc (.cells #[.int .i64 9, .int .i64 a.nn, .int .i64 a.pi, .int .i64 a.si, .int .i64 a.zo, .bool a.be, .slice a.la a.ln a.lcap] 30)).alloc (.cells #[.int .i64 0, .int .i64 0, .int .i64 0, .int .i64 0, .int .i64 0, .bool false, .slice none 0 0] 30)) (w.heap.size + 1) 30 #[.int .i64 0, .int .i64 0, .int .i64 0, .int .i64 0, .int .i64 0, .bool false, .slice none 0 0] := heap_alloc2_new _ _ _
  generalize hW : (w.alloc (.cells #[.int .i64 9, .int .i64 a.nn, .int .i64 a.pi, .int .i64 a.si, .int .i64 a.zo, .bool a.be, .slice a.la a.ln a.lcap] 30)).alloc (.cells #[.int .i64 0, .int .i64 0, .int .i64 0, .int .i64 0, .int .i64 0, .bool false, .slice none 0 0] 30) = W at hb0 x1 x2
  have c0 := x1.cell 0
  simp at c0
  have c6 := x1.cell 6
  simp at c6
  have f6 := x1.froz 6
  have x1_1 := x1.put 6 (.slice none 0 0)
  have x2_1 := x2.other (q := ⟨w.heap.size, 6, none⟩) (by simp) (.slice none 0 0)
  have hb_1 := hb0.setCell (p := ⟨w.heap.size, 6, none⟩) (Nat.le_refl _) (.slice none 0 0)
  have z1 := x1_1
  have z2 := x2_1
  have zb := hb_1
  generalize hV : (W.setCell ⟨w.heap.size, 6, none⟩ (.slice none 0 0)) = V at z1 z2 zb
  have d0 := z1.cell 0
  have d1 := z1.cell 1
  have d2 := z1.cell 2
  have d3 := z1.cell 3
  have d4 := z1.cell 4
  have d5 := z1.cell 5
  have d6 := z1.cell 6
  simp at d0 d1 d2 d3 d4 d5 d6
  go_enter Tryz.func109, Tryz.ntmps109
  go_wp2_with (refine wpList_store_row rfl 30 (.tmp 2) _ rfl (w.heap.size + 1) _ (by rfl) (by rfl) _ _ z2 (by kernel_rfl) (by rfl) (by simp [Value.oneCell']) ?_)
  (try simp only [Exit.inBlock, Exit.then]); refine bodyPost_ret (results_cell_row rfl _ _ (w.heap.size + 1) _ _ _ _ rfl (setRow_heap _ _ _ _ _ _ z2) Tryz.underlying30 rfl (by kernel_rfl)) rfl ?_
  exact ⟨by rw [HA.out]; simp only; rw [HK.out], below_setRow zb (by omega) _⟩
set_option maxHeartbeats 4000000 in
theorem wo_x (a : Ac) (w : World) (h : ∀ k : Int, k = 3 ∨ k = 6 ∨ k = 7 ∨ k = 8 ∨ k = 9 → a.kd ≠ k) : Calls Tryz.prog 109 #[(.agg #[.int .i64 a.kd, .int .i64 a.nn, .int .i64 a.pi, .int .i64 a.si, .int .i64 a.zo, .bool a.be, .slice a.la a.ln a.lcap])] w fun e w' => e = .returned (.agg #[.int .i64 (woA a).kd, .int .i64 (woA a).nn, .int .i64 (woA a).pi, .int .i64 (woA a).si, .int .i64 (woA a).zo, .bool (woA a).be, .slice (woA a).la (woA a).ln (woA a).lcap]) ∧ Below w.heap.size w w' := by
  have HA : Hid (woA a = a) := by show woA a = a; unfold woA; simp [h 3, h 6, h 7, h 8, h 9]
  have n3 : (a.kd == 3) = false := by simpa using h 3 (by omega)
  have n6 : (a.kd == 6) = false := by simpa using h 6 (by omega)
  have n7 : (a.kd == 7) = false := by simpa using h 7 (by omega)
  have n8 : (a.kd == 8) = false := by simpa using h 8 (by omega)
  have n9 : (a.kd == 9) = false := by simpa using h 9 (by omega)
  clear h
  have hb0 := ((Below.refl _ w).alloc (Nat.le_refl _) (.cells #[.int .i64 a.kd, .int .i64 a.nn, .int .i64 a.pi, .int .i64 a.si, .int .i64 a.zo, .bool a.be, .slice a.la a.ln a.lcap] 30)).alloc (by simp) (.cells #[.int .i64 0, .int .i64 0, .int .i64 0, .int .i64 0, .int .i64 0, .bool false, .slice none 0 0] 30)
  have x1 := (boxR_new w 30 #[.int .i64 a.kd, .int .i64 a.nn, .int .i64 a.pi, .int .i64 a.si, .int .i64 a.zo, .bool a.be, .slice a.la a.ln a.lcap]).alloc (.cells #[.int .i64 0, .int .i64 0, .int .i64 0, .int .i64 0, .int .i64 0, .bool false, .slice none 0 0] 30)
  have x2 : BoxR ((w.alloc (.cells #[.int .i64 a.kd, .int .i64 a.nn, .int .i64 a.pi, .int .i64 a.si, .int .i64 a.zo, .bool a.be, .slice a.la a.ln a.lcap] 30)).alloc (.cells #[.int .i64 0, .int .i64 0, .int .i64 0, .int .i64 0, .int .i64 0, .bool false, .slice none 0 0] 30)) (w.heap.size + 1) 30 #[.int .i64 0, .int .i64 0, .int .i64 0, .int .i64 0, .int .i64 0, .bool false, .slice none 0 0] := heap_alloc2_new _ _ _
  generalize hW : (w.alloc (.cells #[.int .i64 a.kd, .int .i64 a.nn, .int .i64 a.pi, .int .i64 a.si, .int .i64 a.zo, .bool a.be, .slice a.la a.ln a.lcap] 30)).alloc (.cells #[.int .i64 0, .int .i64 0, .int .i64 0, .int .i64 0, .int .i64 0, .bool false, .slice none 0 0] 30) = W at hb0 x1 x2
  have c0 := x1.cell 0
  simp at c0
  have z1 := x1
  have z2 := x2
  have zb := hb0
  have d0 := z1.cell 0
  have d1 := z1.cell 1
  have d2 := z1.cell 2
  have d3 := z1.cell 3
  have d4 := z1.cell 4
  have d5 := z1.cell 5
  have d6 := z1.cell 6
  simp at d0 d1 d2 d3 d4 d5 d6
  go_enter Tryz.func109, Tryz.ntmps109
  go_wp2_with (refine wpList_store_row rfl 30 (.tmp 2) _ rfl (w.heap.size + 1) _ (by rfl) (by rfl) _ _ z2 (by kernel_rfl) (by rfl) (by simp [Value.oneCell']) ?_)
  (try simp only [Exit.inBlock, Exit.then]); refine bodyPost_ret (results_cell_row rfl _ _ (w.heap.size + 1) _ _ _ _ rfl (setRow_heap _ _ _ _ _ _ z2) Tryz.underlying30 rfl (by kernel_rfl)) rfl ?_
  exact ⟨by rw [HA.out], below_setRow zb (by omega) _⟩
theorem withoutNamed_any (a : Ac) (w : World) : Calls Tryz.prog 109 #[(.agg #[.int .i64 a.kd, .int .i64 a.nn, .int .i64 a.pi, .int .i64 a.si, .int .i64 a.zo, .bool a.be, .slice a.la a.ln a.lcap])] w fun e w' => e = .returned (.agg #[.int .i64 (woA a).kd, .int .i64 (woA a).nn, .int .i64 (woA a).pi, .int .i64 (woA a).si, .int .i64 (woA a).zo, .bool (woA a).be, .slice (woA a).la (woA a).ln (woA a).lcap]) ∧ Below w.heap.size w w' := by
  by_cases h : a.kd = 3 ∨ a.kd = 6 ∨ a.kd = 7 ∨ a.kd = 8 ∨ a.kd = 9
  · rcases h with h | h | h | h | h
    · rw [h]; exact wo_3 a w h
    · rw [h]; exact wo_6 a w h
    · rw [h]; exact wo_7 a w h
    · rw [h]; exact wo_8 a w h
    · rw [h]; exact wo_9 a w h
  · exact wo_x a w (fun k hk e => h (by omega))
end Go.Proofs.YtodfdfncdoliiadGreat
namespace Go.Proofs.YtodfdfncdoliiadGreat
open Go.ChangeShapes Go.WideShapes Go.ChangeAt Go.RowKit
set_option maxRecDepth 100000
set_option linter.unusedVariables false
set_option linter.unusedSimpArgs false

set_option maxHeartbeats 4000000 in
theorem partsOk_any (la : Option Addr) (lb n c : Nat) (f : Nat → Ev) (w : World) (hn : n ≤ 1048577) (r1 : RdE evC 7 w lb la n f) : Calls Tryz.prog 141 #[.slice la n c] w fun e w' => e = .returned (.bool (apL n f)) ∧ Below w.heap.size w w' := by
  go_enter Tryz.func141, Tryz.ntmps141
  go_wp2
  go_loopw [7] (fun i wr => ∃ k : Nat, k ≤ n ∧ i = .int .i64 k ∧ Hid (∀ j, j < k → ptE (f j) = true) ∧ Below w.heap.size w wr) (fun i _ => n - (intOf i).toNat)
  case atStart => exact ⟨0, Nat.zero_le _, rfl, fun j hj => by omega, Below.refl _ _⟩
  case round =>
    obtain ⟨k, hk, rfl, hall, hb⟩ := hrel
    by_cases hlt : k < n
    · rcases r1.grew evC_ne hb with g1 | ⟨o1, hpa, g1⟩
      · omega
      subst hpa
      obtain ⟨k0, k1, k2, k3, k4, k5, k6⟩ : AtEv wr lb (o1 + k * 7) (f k) := AtEv_of (g1 k hlt)
      clear g1
      have y1 : (0 : Int) ≤ (k : Int) := by omega
      have y2 : (k : Int) < (n : Int) := by omega
      obtain ⟨x, hx⟩ : ∃ x, f k = x := ⟨_, rfl⟩
      rw [hx] at k0 k1 k2 k3 k4 k5 k6
      have bV := boxR_new wr 39 #[.int .i64 x.kd, .int .i64 x.sr, .int .i64 x.pi, .int .i64 x.si, .int .i64 x.nn, .int .i64 x.zo, .bool x.be]
      have hbV := below_new2' wr (.cells #[.int .i64 x.kd, .int .i64 x.sr, .int .i64 x.pi, .int .i64 x.si, .int .i64 x.nn, .int .i64 x.zo, .bool x.be] 39)
      generalize hV : wr.alloc (.cells #[.int .i64 x.kd, .int .i64 x.sr, .int .i64 x.pi, .int .i64 x.si, .int .i64 x.nn, .int .i64 x.zo, .bool x.be] 39) = V at bV hbV
      have hB := below_app hb hbV hb.size
      have m0 := bV.cell 0
      have m1 := bV.cell 1
      have m2 := bV.cell 2
      have m3 := bV.cell 3
      have m4 := bV.cell 4
      have m5 := bV.cell 5
      have m6 := bV.cell 6
      simp at m0 m1 m2 m3 m4 m5 m6
      clear bV
      cases hp : ptE x
      case false =>
        have HR : Hid (apL n f = false) := apL_no hlt (by rw [hx]; exact hp)
        have HP : Hid (∀ w : World, Calls Tryz.prog 160 #[(.agg #[.int .i64 x.kd, .int .i64 x.sr, .int .i64 x.pi, .int .i64 x.si, .int .i64 x.nn, .int .i64 x.zo, .bool x.be])] w fun r w' => r = .returned (.bool false) ∧ Below w.heap.size w w') := fun w => by have := partOk_any x w; rw [hp] at this; exact this
        go_wp2_with fail
        refine (HP.out _).mono ?_
        rintro r w1 ⟨rfl, hb1⟩
        go_wp2
        go_ret
        exact ⟨ret_bool' HR.out.symm, below_app hB hb1 hB.size⟩
      case true =>
        have HN : Hid (∀ j, j < k + 1 → ptE (f j) = true) := fun j hj => by
          by_cases ej : j = k
          · rw [ej, hx]; exact hp
          · exact hall.out j (by omega)
        have HP : Hid (∀ w : World, Calls Tryz.prog 160 #[(.agg #[.int .i64 x.kd, .int .i64 x.sr, .int .i64 x.pi, .int .i64 x.si, .int .i64 x.nn, .int .i64 x.zo, .bool x.be])] w fun r w' => r = .returned (.bool true) ∧ Below w.heap.size w w') := fun w => by have := partOk_any x w; rw [hp] at this; exact this
        go_wp2_with fail
        refine (HP.out _).mono ?_
        rintro r w1 ⟨rfl, hb1⟩
        have hb2 := below_app hB hb1 hB.size
        clear m0 m1 m2 m3 m4 m5 m6 k0 k1 k2 k3 k4 k5 k6 hb hB hbV
        go_wp2
        go_roundw
        case rel => first | exact ⟨k + 1, by omega, by go_num, HN, hb2⟩ | ((repeat apply Exists.intro); exact ⟨⟨k + 1, by omega, by go_num, HN, hb2⟩, rfl⟩)
        case measure => simp [intOf]; omega
    · have HL : Hid (apL n f = true) := apL_yes (fun j hj => hall.out j (by omega))
      obtain rfl : k = n := by omega
      clear hall hk hlt
      go_wp2
      go_ret
      exact ⟨ret_bool' HL.out.symm, hb⟩
theorem paF_same (a : Ac) (e : Ev) (i : Nat) : paF a e i = sameE (a.es i) e.nn := rfl
end Go.Proofs.YtodfdfncdoliiadGreat
namespace Go.Proofs.YtodfdfncdoliiadGreat
open Go.ChangeShapes Go.WideShapes Go.ChangeAt Go.RowKit
set_option maxRecDepth 100000
set_option linter.unusedVariables false
set_option linter.unusedSimpArgs false

/-- what its kind names is right -/
def naA (a : Ac) : Bool :=
  if a.kd = 1 ∨ a.kd = 2 ∨ a.kd = 4 ∨ a.kd = 5 then true else if a.kd = 3 then ib a.nn 1 2147483647 else if a.kd = 6 then aimA a else if a.kd = 7 then ib a.zo 1 4 else if a.kd = 8 then ib a.nn 0 99 else if a.kd = 9 then ib a.ln 1 3 && apL a.ln a.es else false
set_option maxHeartbeats 4000000 in
theorem namedOk_any (a : Ac) (w : World) (hok : a.ok w) (hn : a.ln ≤ 1048577) : Calls Tryz.prog 107 #[(.agg #[.int .i64 a.kd, .int .i64 a.nn, .int .i64 a.pi, .int .i64 a.si, .int .i64 a.zo, .bool a.be, .slice a.la a.ln a.lcap])] w fun e w' => e = .returned (.bool (naA a)) ∧ Below w.heap.size w w' := by
  obtain ⟨_, _, r1, _⟩ := hok
  have HB := (Below.refl _ w).alloc (Nat.le_refl _) (.cells #[.int .i64 a.kd, .int .i64 a.nn, .int .i64 a.pi, .int .i64 a.si, .int .i64 a.zo, .bool a.be, .slice a.la a.ln a.lcap] 30)
  have bx := boxR_new w 30 #[.int .i64 a.kd, .int .i64 a.nn, .int .i64 a.pi, .int .i64 a.si, .int .i64 a.zo, .bool a.be, .slice a.la a.ln a.lcap]
  generalize hW : w.alloc (.cells #[.int .i64 a.kd, .int .i64 a.nn, .int .i64 a.pi, .int .i64 a.si, .int .i64 a.zo, .bool a.be, .slice a.la a.ln a.lcap] 30) = W at HB bx
  have c0 := bx.cell 0
  have c1 := bx.cell 1
  have c2 := bx.cell 2
  have c3 := bx.cell 3
  have c4 := bx.cell 4
  have c5 := bx.cell 5
  have c6 := bx.cell 6
  simp at c0 c1 c2 c3 c4 c5 c6
  go_enter Tryz.func107, Tryz.ntmps107
  have r2 := r1.grew evC_ne HB
  go_wp2_with first | (go_at_call 75; refine (between_any _ _ _ _).mono ?_; rintro e w' ⟨rfl, rfl⟩) | (go_at_call 140; refine (aimOk_any a _).mono ?_; rintro e w2 ⟨rfl, hb2⟩) | (go_at_call 141; refine (partsOk_any a.la a.lb a.ln a.lcap a.es _ hn r2).mono ?_; rintro e w2 ⟨rfl, hb2⟩)
  all_goals go_ret
  all_goals exact ⟨ret_bool' (by unfold naA; first | (simp_all; done) | (simp_all; omega) | (rw [Bool.eq_iff_iff]; simp_all)), by first | exact HB | exact below_app HB hb2 HB.size⟩
theorem okAc_eq (a : Ac) : okAc a = (naA a && nnA (woA a)) := by
  by_cases hx : 1 ≤ a.kd ∧ a.kd ≤ 9
  · have hk : a.kd = 1 ∨ a.kd = 2 ∨ a.kd = 3 ∨ a.kd = 4 ∨ a.kd = 5 ∨ a.kd = 6 ∨ a.kd = 7 ∨ a.kd = 8 ∨ a.kd = 9 := by omega
    rcases hk with h | h | h | h | h | h | h | h | h
    case inr.inr.inr.inr.inr.inl => unfold okAc naA nnA woA plA; simp only [h]; by_cases h1 : a.nn = 0 <;> by_cases h2 : a.zo = 0 <;> by_cases h3 : a.ln = 0 <;> by_cases h4 : a.pi = 0 <;> by_cases h6 : a.si = -1 <;> cases h5 : a.be <;> simp [ac6, aimA, ib, *]
    all_goals (unfold okAc naA nnA woA plA; simp only [h]; simp [ac6, ac7, ac8, ac9, aimA, ib, h])
    all_goals first | (rw [Bool.eq_iff_iff]; simp; done) | (rw [Bool.eq_iff_iff]; simp; omega) | (rw [Bool.eq_iff_iff]; simp; constructor <;> intro hh <;> simp_all <;> omega)
  · have h1 : a.kd ≠ 1 := by omega
    have h2 : a.kd ≠ 2 := by omega
    have h3 : a.kd ≠ 3 := by omega
    have h4 : a.kd ≠ 4 := by omega
    have h5 : a.kd ≠ 5 := by omega
    have h6 : a.kd ≠ 6 := by omega
    have h7 : a.kd ≠ 7 := by omega
    have h8 : a.kd ≠ 8 := by omega
    have h9 : a.kd ≠ 9 := by omega
    unfold okAc naA; simp [h1, h2, h3, h4, h5, h6, h7, h8, h9]
set_option maxHeartbeats 4000000 in
theorem implActOk_any (a : Ac) (w : World) (hok : a.ok w) (hn : a.ln ≤ 1048577) : Calls Tryz.prog 60 #[(.agg #[.int .i64 a.kd, .int .i64 a.nn, .int .i64 a.pi, .int .i64 a.si, .int .i64 a.zo, .bool a.be, .slice a.la a.ln a.lcap])] w fun e w' => e = .returned (.bool (okAc a)) ∧ Below w.heap.size w w' := by
  rw [okAc_eq]
  have HB := (Below.refl _ w).alloc (Nat.le_refl _) (.cells #[.int .i64 a.kd, .int .i64 a.nn, .int .i64 a.pi, .int .i64 a.si, .int .i64 a.zo, .bool a.be, .slice a.la a.ln a.lcap] 30)
  have bx := boxR_new w 30 #[.int .i64 a.kd, .int .i64 a.nn, .int .i64 a.pi, .int .i64 a.si, .int .i64 a.zo, .bool a.be, .slice a.la a.ln a.lcap]
  generalize hW : w.alloc (.cells #[.int .i64 a.kd, .int .i64 a.nn, .int .i64 a.pi, .int .i64 a.si, .int .i64 a.zo, .bool a.be, .slice a.la a.ln a.lcap] 30) = W at HB bx
  have c0 := bx.cell 0
  have c1 := bx.cell 1
  have c2 := bx.cell 2
  have c3 := bx.cell 3
  have c4 := bx.cell 4
  have c5 := bx.cell 5
  have c6 := bx.cell 6
  simp at c0 c1 c2 c3 c4 c5 c6
  go_enter Tryz.func60, Tryz.ntmps60
  have hok2 := act_grew hok HB
  go_wp2_with fail
  refine (namedOk_any a _ hok2 hn).mono ?_
  rintro e w1 ⟨rfl, hb1⟩
  replace bx := bx.grew hb1
  replace HB := below_app HB hb1 HB.size
  clear hW c0 c1 c2 c3 c4 c5 c6 hok2 hb1
  have d0 := bx.cell 0
  have d1 := bx.cell 1
  have d2 := bx.cell 2
  have d3 := bx.cell 3
  have d4 := bx.cell 4
  have d5 := bx.cell 5
  have d6 := bx.cell 6
  simp at d0 d1 d2 d3 d4 d5 d6
  cases hp : naA a
  case false =>
    go_wp2
    go_ret
    exact ⟨ret_bool' (by first | rfl | (simp [hp]; done)), HB⟩
  case true =>
    go_wp2_with fail
    refine (withoutNamed_any a _).mono ?_
    rintro e w2 ⟨rfl, hb2⟩
    obtain ⟨b, hbw⟩ : ∃ b, woA a = b := ⟨_, rfl⟩
    rw [hbw]
    have HW : Hid (woA a = b) := hbw
    clear hbw
    go_wp2_with fail
    refine (namesNothing_any b _).mono ?_
    rintro e w3 ⟨rfl, hb3⟩
    replace HB := below_app HB hb2 HB.size
    go_wp2
    go_ret
    exact ⟨ret_bool' (by simp [hp, HW.out]), below_app HB hb3 HB.size⟩
end Go.Proofs.YtodfdfncdoliiadGreat
namespace Go.Proofs.YtodfdfncdoliiadGreat
open Go.ChangeShapes Go.WideShapes Go.ChangeAt Go.RowKit
set_option maxRecDepth 100000
set_option linter.unusedVariables false
set_option linter.unusedSimpArgs false

theorem implActOk_al {w0 w : World} {B : Nat} {t a : Ac} (h : OwnA w B t) (k : AlikeA t a) (hs : a.ok w0) (hn : a.ln ≤ 1048576) : Calls Tryz.prog 60 #[(.agg #[.int .i64 t.kd, .int .i64 t.nn, .int .i64 t.pi, .int .i64 t.si, .int .i64 t.zo, .bool t.be, .slice t.la t.ln t.lcap])] w fun e w' => e = .returned (.bool (okAc a)) ∧ Below w.heap.size w w' := by
  rw [← alike_okAc k]; exact implActOk_any t w (okT9 h k hs) (by rw [k.ln]; omega)
theorem implActFits_al {w0 w : World} {B : Nat} {t a : Ac} (c : Int) (h : OwnA w B t) (k : AlikeA t a) (hs : a.ok w0) (hn : a.ln ≤ 1048576) : Calls Tryz.prog 23 #[(.agg #[.int .i64 t.kd, .int .i64 t.nn, .int .i64 t.pi, .int .i64 t.si, .int .i64 t.zo, .bool t.be, .slice t.la t.ln t.lcap]), .int .i64 c] w fun e w' => e = .returned (.bool (fiA a c)) ∧ Below w.heap.size w w' := by
  rw [← alike_fiA k]; exact implActFits_any t c w
end Go.Proofs.YtodfdfncdoliiadGreat
namespace Go.Proofs.YtodfdfncdoliiadGreat
open Go.ChangeShapes Go.WideShapes Go.ChangeAt Go.RowKit
set_option maxRecDepth 100000
set_option linter.unusedVariables false
set_option linter.unusedSimpArgs false

/-- whether it may come from there -/
def orO (cl sr : Int) : Bool := if cl = 0 then ib sr 1 99 else ib cl 0 4 && ib sr 0 99
set_option maxHeartbeats 2000000 in
theorem originOk_any (cl sr : Int) (w : World) : Calls Tryz.prog 58 #[.agg #[.int .i64 cl, .int .i64 sr]] w fun e w' => e = .returned (.bool (orO cl sr)) ∧ Below w.heap.size w w' := by
  have HB := (Below.refl _ w).alloc (Nat.le_refl _) (.cells #[.int .i64 cl, .int .i64 sr] 81)
  cases h : (cl == 0)
  case true =>
    have HA : Hid (orO cl sr = ib sr 1 99) := by show _ = _; unfold orO; rw [if_pos (by simpa using h)]
    go_enter Tryz.func58, Tryz.ntmps58
    go_wp2_with first | (go_at_call 57; refine (isIdE_any _ _).mono ?_; rintro e w' ⟨rfl, rfl⟩) | (go_at_call 75; refine (between_any _ _ _ _).mono ?_; rintro e w' ⟨rfl, rfl⟩)
    all_goals (go_ret; exact ⟨ret_bool' HA.out.symm, HB⟩)
  case false =>
    have HA : Hid (orO cl sr = (ib cl 0 4 && ib sr 0 99)) := by show _ = _; unfold orO; rw [if_neg (by simpa using h)]
    have F1 : Hid (∀ u : World, Calls Tryz.prog 75 #[.int .i64 cl, .int .i64 0, .int .i64 4] u fun e w' => e = .returned (.bool (ib cl 0 4)) ∧ w' = u) := fun u => between_any _ _ _ u
    have F2 : Hid (∀ u : World, Calls Tryz.prog 75 #[.int .i64 sr, .int .i64 0, .int .i64 99] u fun e w' => e = .returned (.bool (ib sr 0 99)) ∧ w' = u) := fun u => between_any _ _ _ u
    generalize ib cl 0 4 = b1 at HA F1
    generalize ib sr 0 99 = b2 at HA F2
    go_enter Tryz.func58, Tryz.ntmps58
    go_wp2_with fail
    refine (F1.out _).mono ?_
    rintro e w' ⟨rfl, rfl⟩
    cases b1
    case false =>
      go_wp2
      go_ret
      exact ⟨ret_bool' (by rw [HA.out]; rfl), HB⟩
    case true =>
      go_wp2_with fail
      refine (F2.out _).mono ?_
      rintro e w' ⟨rfl, rfl⟩
      go_wp2
      go_ret
      exact ⟨ret_bool' (by rw [HA.out]; simp), HB⟩
/-- how much there may be left -/
def llO (a : Ac) : Int := if a.kd = 2 then 0 else -1
set_option maxHeartbeats 1000000 in
theorem leastLeft_any (a : Ac) (w : World) : Calls Tryz.prog 62 #[(.agg #[.int .i64 a.kd, .int .i64 a.nn, .int .i64 a.pi, .int .i64 a.si, .int .i64 a.zo, .bool a.be, .slice a.la a.ln a.lcap])] w fun e w' => e = .returned (.int .i64 (llO a)) ∧ Below w.heap.size w w' := by
  have HB := (Below.refl _ w).alloc (Nat.le_refl _) (.cells #[.int .i64 a.kd, .int .i64 a.nn, .int .i64 a.pi, .int .i64 a.si, .int .i64 a.zo, .bool a.be, .slice a.la a.ln a.lcap] 30)
  cases h : (a.kd == 2)
  case true =>
    have HA : Hid (llO a = 0) := by show _ = _; unfold llO; rw [if_pos (by simpa using h)]
    go_enter Tryz.func62, Tryz.ntmps62
    go_wp2
    go_ret
    exact ⟨ret_int HA.out.symm, HB⟩
  case false =>
    have HA : Hid (llO a = -1) := by show _ = _; unfold llO; rw [if_neg (by simpa using h)]
    go_enter Tryz.func62, Tryz.ntmps62
    go_wp2
    go_ret
    exact ⟨ret_int HA.out.symm, HB⟩
set_option maxHeartbeats 1000000 in
theorem spanOk_any (un le n : Int) (w : World) : Calls Tryz.prog 61 #[.agg #[.int .i64 un, .int .i64 le], .int .i64 n] w fun e w' => e = .returned (.bool (ib un (-1) 9999 && ib le n 2147483647)) ∧ Below w.heap.size w w' := by
  have HB := (Below.refl _ w).alloc (Nat.le_refl _) (.cells #[.int .i64 un, .int .i64 le] 85)
  have F1 : Hid (∀ u : World, Calls Tryz.prog 75 #[.int .i64 un, .int .i64 (-1), .int .i64 9999] u fun e w' => e = .returned (.bool (ib un (-1) 9999)) ∧ w' = u) := fun u => between_any _ _ _ u
  have F2 : Hid (∀ u : World, Calls Tryz.prog 75 #[.int .i64 le, .int .i64 n, .int .i64 2147483647] u fun e w' => e = .returned (.bool (ib le n 2147483647)) ∧ w' = u) := fun u => between_any _ _ _ u
  generalize ib un (-1) 9999 = b1 at F1 ⊢
  generalize ib le n 2147483647 = b2 at F2 ⊢
  go_enter Tryz.func61, Tryz.ntmps61
  go_wp2_with fail
  refine (F1.out _).mono ?_
  rintro e w' ⟨rfl, rfl⟩
  cases b1
  case false =>
    go_wp2
    go_ret
    exact ⟨ret_bool' (by rfl), HB⟩
  case true =>
    go_wp2_with fail
    refine (F2.out _).mono ?_
    rintro e w' ⟨rfl, rfl⟩
    go_wp2
    go_ret
    exact ⟨ret_bool' (by simp), HB⟩
/-- whether it may be about that -/
def sbO (a : Ef) : Bool := ib a.si 0 2 && okPt a.pt && okGd a.gd
set_option maxHeartbeats 2000000 in
theorem subjectOk_any (a : Ef) (w : World) : Calls Tryz.prog 59 #[.agg #[.int .i64 a.si, .int .i64 a.pt.kd, .int .i64 a.pt.wh, .int .i64 a.pt.sr, .int .i64 a.pt.tr, .int .i64 a.pt.pi, .int .i64 a.pt.le, .int .i64 a.pt.zo, .int .i64 a.gd.kd, .int .i64 a.gd.nn]] w fun e w' => e = .returned (.bool (sbO a)) ∧ Below w.heap.size w w' := by
  have HB := (Below.refl _ w).alloc (Nat.le_refl _) (.cells #[.int .i64 a.si, .int .i64 a.pt.kd, .int .i64 a.pt.wh, .int .i64 a.pt.sr, .int .i64 a.pt.tr, .int .i64 a.pt.pi, .int .i64 a.pt.le, .int .i64 a.pt.zo, .int .i64 a.gd.kd, .int .i64 a.gd.nn] 83)
  have bx := boxR_new w 83 #[.int .i64 a.si, .int .i64 a.pt.kd, .int .i64 a.pt.wh, .int .i64 a.pt.sr, .int .i64 a.pt.tr, .int .i64 a.pt.pi, .int .i64 a.pt.le, .int .i64 a.pt.zo, .int .i64 a.gd.kd, .int .i64 a.gd.nn]
  generalize hW : w.alloc (.cells #[.int .i64 a.si, .int .i64 a.pt.kd, .int .i64 a.pt.wh, .int .i64 a.pt.sr, .int .i64 a.pt.tr, .int .i64 a.pt.pi, .int .i64 a.pt.le, .int .i64 a.pt.zo, .int .i64 a.gd.kd, .int .i64 a.gd.nn] 83) = W at HB bx
  have HA : Hid (sbO a = (ib a.si 0 2 && okPt a.pt && okGd a.gd)) := rfl
  have F1 : Hid (∀ u : World, Calls Tryz.prog 105 #[.int .i64 a.si] u fun e w' => e = .returned (.bool (ib a.si 0 2)) ∧ w' = u) := fun u => isSide_any _ u
  have F2 : Hid (∀ u : World, Calls Tryz.prog 71 #[(.agg #[.int .i64 a.pt.kd, .int .i64 a.pt.wh, .int .i64 a.pt.sr, .int .i64 a.pt.tr, .int .i64 a.pt.pi, .int .i64 a.pt.le, .int .i64 a.pt.zo])] u fun e w' => e = .returned (.bool (okPt a.pt)) ∧ Below u.heap.size u w') := fun u => implPatOk_any a.pt u
  have F3 : Hid (∀ u : World, Calls Tryz.prog 106 #[(.agg #[.int .i64 a.gd.kd, .int .i64 a.gd.nn])] u fun e w' => e = .returned (.bool (okGd a.gd)) ∧ Below u.heap.size u w') := fun u => implGuardOk_any a.gd u
  generalize ib a.si 0 2 = b1 at HA F1
  generalize okPt a.pt = b2 at HA F2
  generalize okGd a.gd = b3 at HA F3
  have CS : Hid (∀ u : World, BoxR u w.heap.size 83 #[.int .i64 a.si, .int .i64 a.pt.kd, .int .i64 a.pt.wh, .int .i64 a.pt.sr, .int .i64 a.pt.tr, .int .i64 a.pt.pi, .int .i64 a.pt.le, .int .i64 a.pt.zo, .int .i64 a.gd.kd, .int .i64 a.gd.nn] → u.cell? ⟨w.heap.size, 0, none⟩ = some (.int .i64 a.si) ∧ u.cell? ⟨w.heap.size, 1, none⟩ = some (.int .i64 a.pt.kd) ∧ u.cell? ⟨w.heap.size, 2, none⟩ = some (.int .i64 a.pt.wh) ∧ u.cell? ⟨w.heap.size, 3, none⟩ = some (.int .i64 a.pt.sr) ∧ u.cell? ⟨w.heap.size, 4, none⟩ = some (.int .i64 a.pt.tr) ∧ u.cell? ⟨w.heap.size, 5, none⟩ = some (.int .i64 a.pt.pi) ∧ u.cell? ⟨w.heap.size, 6, none⟩ = some (.int .i64 a.pt.le) ∧ u.cell? ⟨w.heap.size, 7, none⟩ = some (.int .i64 a.pt.zo) ∧ u.cell? ⟨w.heap.size, 8, none⟩ = some (.int .i64 a.gd.kd) ∧ u.cell? ⟨w.heap.size, 9, none⟩ = some (.int .i64 a.gd.nn)) := fun u h => ⟨h.cell 0, h.cell 1, h.cell 2, h.cell 3, h.cell 4, h.cell 5, h.cell 6, h.cell 7, h.cell 8, h.cell 9⟩
  obtain ⟨c0, c1, c2, c3, c4, c5, c6, c7, c8, c9⟩ := CS.out _ bx
  go_enter Tryz.func59, Tryz.ntmps59
  go_wp2_with fail
  refine (F1.out _).mono ?_
  rintro e w' ⟨rfl, rfl⟩
  cases b1
  case false =>
    go_wp2
    go_ret
    exact ⟨ret_bool' (by rw [HA.out]; rfl), HB⟩
  case true =>
    go_wp2_with fail
    refine (F2.out _).mono ?_
    rintro e w1 ⟨rfl, hb⟩
    replace bx := bx.grew hb
    replace HB := below_app HB hb HB.size
    clear hb c0 c1 c2 c3 c4 c5 c6 c7 c8 c9 hW
    cases b2
    case false =>
      go_wp2
      go_ret
      exact ⟨ret_bool' (by rw [HA.out]; rfl), HB⟩
    case true =>
      obtain ⟨c0, c1, c2, c3, c4, c5, c6, c7, c8, c9⟩ := CS.out _ bx
      go_wp2_with fail
      refine (F3.out _).mono ?_
      rintro e w2 ⟨rfl, hb⟩
      replace HB := below_app HB hb HB.size
      go_wp2
      go_ret
      exact ⟨ret_bool' (by rw [HA.out]; simp), HB⟩
end Go.Proofs.YtodfdfncdoliiadGreat
