/-
  Chapter 9: the program's ActFits, Amount, withSameN, partOk, aimOk, namesNothing, withoutNamed. Written by tools/aci.gen.py. Chapter 9: the program's partsOk, Parts. Written by tools/aci.gen.py. Chapter 9: the program's namedOk, ActOk. Written by tools/aci.gen.py. Own work.
-/
import Derived.Test.YthemmhocnkpcjasAcC
import Derived.Test.YthemmhocnkpcjasAcD
import Derived.Test.YthemmhocnkpcjasEvD
import Derived.Test.YthemmhocnkpcjasPieceI1
namespace Go.Proofs.Ythemmhocnkpcjas
open Go.ChangeShapes Go.WideShapes Go.ChangeAt Go.RowKit
set_option maxRecDepth 100000
set_option linter.unusedVariables false
set_option linter.unusedSimpArgs false

set_option maxHeartbeats 4000000 in
theorem implActFits_any (a : Ac) (k : Int) (w : World) : Calls Try.prog 53 #[(.agg #[.int .i64 a.kd, .int .i64 a.nn, .int .i64 a.pi, .int .i64 a.si, .int .i64 a.zo, .bool a.be, .slice a.la a.ln a.lcap]), .int .i64 k] w fun e w' => e = .returned (.bool (fiA a k)) ∧ Below w.heap.size w w' := by
  have HB := (Below.refl _ w).alloc (Nat.le_refl _) (.cells #[.int .i64 a.kd, .int .i64 a.nn, .int .i64 a.pi, .int .i64 a.si, .int .i64 a.zo, .bool a.be, .slice a.la a.ln a.lcap] 29)
  have bx := boxR_new w 29 #[.int .i64 a.kd, .int .i64 a.nn, .int .i64 a.pi, .int .i64 a.si, .int .i64 a.zo, .bool a.be, .slice a.la a.ln a.lcap]
  generalize hW : w.alloc (.cells #[.int .i64 a.kd, .int .i64 a.nn, .int .i64 a.pi, .int .i64 a.si, .int .i64 a.zo, .bool a.be, .slice a.la a.ln a.lcap] 29) = W at HB bx
  have c0 := bx.cell 0
  have c1 := bx.cell 1
  have c2 := bx.cell 2
  have c3 := bx.cell 3
  have c4 := bx.cell 4
  have c5 := bx.cell 5
  have c6 := bx.cell 6
  simp at c0 c1 c2 c3 c4 c5 c6
  go_enter Try.func53, Try.ntmps53
  go_wp2_with (go_at_call 66; refine (between_any _ _ _ _).mono ?_; rintro e w' ⟨rfl, rfl⟩)
  all_goals go_ret
  all_goals exact ⟨ret_bool' (by unfold fiA ib; first | (simp_all; done) | (simp_all; omega) | (rw [Bool.eq_iff_iff]; simp_all; done) | (rw [Bool.eq_iff_iff]; simp_all; omega)), HB⟩
set_option maxHeartbeats 2000000 in
theorem implAmount_any (a : Ac) (n : Int) (w : World) : Calls Try.prog 11 #[(.agg #[.int .i64 a.kd, .int .i64 a.nn, .int .i64 a.pi, .int .i64 a.si, .int .i64 a.zo, .bool a.be, .slice a.la a.ln a.lcap]), .int .i64 n] w fun e w' => e = .returned (.int .i64 (amA a n)) ∧ Below w.heap.size w w' := by
  have HB := (Below.refl _ w).alloc (Nat.le_refl _) (.cells #[.int .i64 a.kd, .int .i64 a.nn, .int .i64 a.pi, .int .i64 a.si, .int .i64 a.zo, .bool a.be, .slice a.la a.ln a.lcap] 29)
  have bx := boxR_new w 29 #[.int .i64 a.kd, .int .i64 a.nn, .int .i64 a.pi, .int .i64 a.si, .int .i64 a.zo, .bool a.be, .slice a.la a.ln a.lcap]
  generalize hW : w.alloc (.cells #[.int .i64 a.kd, .int .i64 a.nn, .int .i64 a.pi, .int .i64 a.si, .int .i64 a.zo, .bool a.be, .slice a.la a.ln a.lcap] 29) = W at HB bx
  have c0 := bx.cell 0
  have c1 := bx.cell 1
  have c2 := bx.cell 2
  have c3 := bx.cell 3
  have c4 := bx.cell 4
  have c5 := bx.cell 5
  have c6 := bx.cell 6
  simp at c0 c1 c2 c3 c4 c5 c6
  go_enter Try.func11, Try.ntmps11
  go_wp2_with first | (go_at_call 35; refine (implUpto_b _ _ _).mono ?_; rintro e w' ⟨rfl, rfl⟩) | (go_at_call 36; refine (implPlus_b _ _ (Below.refl _ _) (Nat.le_refl _)).mono ?_; rintro e w2 ⟨rfl, hb2, _⟩) | (go_at_call 37; refine (implTwice_b _ (Below.refl _ _) (Nat.le_refl _)).mono ?_; rintro e w2 ⟨rfl, hb2, _⟩) | (go_at_call 38; refine (implHalf_any _ _).mono ?_; rintro e w' ⟨rfl, rfl⟩)
  all_goals go_ret
  all_goals exact ⟨ret_int (by unfold amA; first | (simp_all; done) | (simp_all [hf]; done)), by first | exact HB | exact below_app HB hb2 HB.size⟩
/-- a part with the amount of what is turned into parts -/
def sameE (e : Ev) (n : Int) : Ev := if e.nn = -1 then wnE e n else e
theorem sameE_yes {e : Ev} {n : Int} (h : (e.nn == -1) = true) : sameE e n = wnE e n := by unfold sameE; simp_all
theorem sameE_no {e : Ev} {n : Int} (h : (e.nn == -1) = false) : sameE e n = e := by unfold sameE; simp_all
set_option maxHeartbeats 2000000 in
theorem withSameN_any (x : Ev) (n : Int) (w : World) : Calls Try.prog 39 #[(.agg #[.int .i64 x.kd, .int .i64 x.sr, .int .i64 x.pi, .int .i64 x.si, .int .i64 x.nn, .int .i64 x.zo, .bool x.be]), .int .i64 n] w fun r w' => r = .returned (.agg #[.int .i64 (sameE x n).kd, .int .i64 (sameE x n).sr, .int .i64 (sameE x n).pi, .int .i64 (sameE x n).si, .int .i64 (sameE x n).nn, .int .i64 (sameE x n).zo, .bool (sameE x n).be]) ∧ Below w.heap.size w w' := by
  have hb0 := ((Below.refl _ w).alloc (Nat.le_refl _) (.cells #[.int .i64 x.kd, .int .i64 x.sr, .int .i64 x.pi, .int .i64 x.si, .int .i64 x.nn, .int .i64 x.zo, .bool x.be] 36)).alloc (by simp) (.cells #[.int .i64 0, .int .i64 0, .int .i64 0, .int .i64 0, .int .i64 0, .int .i64 0, .bool false] 36)
  have x1 := (boxR_new w 36 #[.int .i64 x.kd, .int .i64 x.sr, .int .i64 x.pi, .int .i64 x.si, .int .i64 x.nn, .int .i64 x.zo, .bool x.be]).alloc (.cells #[.int .i64 0, .int .i64 0, .int .i64 0, .int .i64 0, .int .i64 0, .int .i64 0, .bool false] 36)
  have x2 : BoxR ((w.alloc (.cells #[.int .i64 x.kd, .int .i64 x.sr, .int .i64 x.pi, .int .i64 x.si, .int .i64 x.nn, .int .i64 x.zo, .bool x.be] 36)).alloc (.cells #[.int .i64 0, .int .i64 0, .int .i64 0, .int .i64 0, .int .i64 0, .int .i64 0, .bool false] 36)) (w.heap.size + 1) 36 #[.int .i64 0, .int .i64 0, .int .i64 0, .int .i64 0, .int .i64 0, .int .i64 0, .bool false] := heap_alloc2_new _ _ _
  generalize hW : (w.alloc (.cells #[.int .i64 x.kd, .int .i64 x.sr, .int .i64 x.pi, .int .i64 x.si, .int .i64 x.nn, .int .i64 x.zo, .bool x.be] 36)).alloc (.cells #[.int .i64 0, .int .i64 0, .int .i64 0, .int .i64 0, .int .i64 0, .int .i64 0, .bool false] 36) = W at hb0 x1 x2
  have c0 := x1.cell 0
  have c1 := x1.cell 1
  have c2 := x1.cell 2
  have c3 := x1.cell 3
  have c4 := x1.cell 4
  have c5 := x1.cell 5
  have c6 := x1.cell 6
  simp at c0 c1 c2 c3 c4 c5 c6
  cases q1 : (x.nn == -1)
  case false =>
    have HP : Hid (sameE x n = x) := sameE_no q1
    have q2 : (x.nn != -1) = true := by rw [bne, q1]; rfl
    go_enter Try.func39, Try.ntmps39
    go_wp2_with (refine wpList_store_row rfl 36 (.tmp 4) _ rfl (w.heap.size + 1) _ (by rfl) (by rfl) _ _ x2 (by kernel_rfl) (by rfl) (by simp [Value.oneCell']) ?_)
    (try simp only [Exit.inBlock, Exit.then]); refine bodyPost_ret (results_cell_row rfl _ _ (w.heap.size + 1) _ _ _ _ rfl (setRow_heap _ _ _ _ _ _ x2) Try.underlying36 rfl (by kernel_rfl)) rfl ?_
    rw [HP.out]
    exact ⟨rfl, below_setRow hb0 (by omega) _⟩
  case true =>
    have HP : Hid (sameE x n = wnE x n) := sameE_yes q1
    have q2 : (x.nn != -1) = false := by rw [bne, q1]; rfl
    go_enter Try.func39, Try.ntmps39
    go_wp2_with fail
    refine (implWithN_any x n _).mono ?_
    rintro r w1 ⟨rfl, hb1⟩
    replace x2 := x2.grew hb1
    have hB := below_app hb0 hb1 hb0.size
    go_wp2_with (refine wpList_store_row rfl 36 (.tmp 4) _ rfl (w.heap.size + 1) _ (by rfl) (by rfl) _ _ x2 (by kernel_rfl) (by rfl) (by simp [Value.oneCell', wnE]) ?_)
    (try simp only [Exit.inBlock, Exit.then]); refine bodyPost_ret (results_cell_row rfl _ _ (w.heap.size + 1) _ _ _ _ rfl (setRow_heap _ _ _ _ _ _ x2) Try.underlying36 rfl (by kernel_rfl)) rfl ?_
    rw [HP.out]
    exact ⟨rfl, below_setRow hB (by omega) _⟩
theorem ptE_move {x : Ev} (h : (x.kd == 2) = true) : ptE x = okE x := by unfold ptE; simp_all
theorem up_none : up 0 2147483647 = 0 := by decide
theorem ptE_rest {x : Ev} (h : (x.kd == 2) = false) : ptE x = okE (sameE x 0) := by
  unfold ptE sameE wnE
  rw [up_none]
  by_cases q : x.nn = -1 <;> simp_all
set_option maxHeartbeats 2000000 in
theorem partOk_any (x : Ev) (w : World) : Calls Try.prog 85 #[(.agg #[.int .i64 x.kd, .int .i64 x.sr, .int .i64 x.pi, .int .i64 x.si, .int .i64 x.nn, .int .i64 x.zo, .bool x.be])] w fun r w' => r = .returned (.bool (ptE x)) ∧ Below w.heap.size w w' := by
  have HB := (Below.refl _ w).alloc (Nat.le_refl _) (.cells #[.int .i64 x.kd, .int .i64 x.sr, .int .i64 x.pi, .int .i64 x.si, .int .i64 x.nn, .int .i64 x.zo, .bool x.be] 36)
  have bx := boxR_new w 36 #[.int .i64 x.kd, .int .i64 x.sr, .int .i64 x.pi, .int .i64 x.si, .int .i64 x.nn, .int .i64 x.zo, .bool x.be]
  generalize hW : w.alloc (.cells #[.int .i64 x.kd, .int .i64 x.sr, .int .i64 x.pi, .int .i64 x.si, .int .i64 x.nn, .int .i64 x.zo, .bool x.be] 36) = W at HB bx
  have c0 := bx.cell 0
  have c1 := bx.cell 1
  have c2 := bx.cell 2
  have c3 := bx.cell 3
  have c4 := bx.cell 4
  have c5 := bx.cell 5
  have c6 := bx.cell 6
  simp at c0 c1 c2 c3 c4 c5 c6
  cases q1 : (x.kd == 2)
  case true =>
    have HP : Hid (ptE x = okE x) := ptE_move q1
    go_enter Try.func85, Try.ntmps85
    go_wp2_with fail
    refine (implEventOk_any x _).mono ?_
    rintro r w1 ⟨rfl, hb1⟩
    go_wp2
    go_ret
    exact ⟨ret_bool' HP.out.symm, below_app HB hb1 HB.size⟩
  case false =>
    have HP : Hid (ptE x = okE (sameE x 0)) := ptE_rest q1
    go_enter Try.func85, Try.ntmps85
    go_wp2_with fail
    refine (withSameN_any x 0 _).mono ?_
    rintro r w1 ⟨rfl, hb1⟩
    generalize sameE x 0 = y at HP
    go_wp2_with fail
    refine (implEventOk_any y _).mono ?_
    rintro r w2 ⟨rfl, hb2⟩
    go_wp2
    go_ret
    exact ⟨ret_bool' HP.out.symm, below_app (below_app HB hb1 HB.size) hb2 (below_app HB hb1 HB.size).size⟩
/-- what an act turns onto is right -/
def aimA (a : Ac) : Bool := bif decide (a.pi = 0) then ib a.si 0 2 else ib a.pi 1 99 && decide (a.si = -1)
set_option maxHeartbeats 2000000 in
theorem aimOk_any (a : Ac) (w : World) : Calls Try.prog 78 #[(.agg #[.int .i64 a.kd, .int .i64 a.nn, .int .i64 a.pi, .int .i64 a.si, .int .i64 a.zo, .bool a.be, .slice a.la a.ln a.lcap])] w fun e w' => e = .returned (.bool (aimA a)) ∧ Below w.heap.size w w' := by
  have HB := (Below.refl _ w).alloc (Nat.le_refl _) (.cells #[.int .i64 a.kd, .int .i64 a.nn, .int .i64 a.pi, .int .i64 a.si, .int .i64 a.zo, .bool a.be, .slice a.la a.ln a.lcap] 29)
  have bx := boxR_new w 29 #[.int .i64 a.kd, .int .i64 a.nn, .int .i64 a.pi, .int .i64 a.si, .int .i64 a.zo, .bool a.be, .slice a.la a.ln a.lcap]
  generalize hW : w.alloc (.cells #[.int .i64 a.kd, .int .i64 a.nn, .int .i64 a.pi, .int .i64 a.si, .int .i64 a.zo, .bool a.be, .slice a.la a.ln a.lcap] 29) = W at HB bx
  have c0 := bx.cell 0
  have c1 := bx.cell 1
  have c2 := bx.cell 2
  have c3 := bx.cell 3
  have c4 := bx.cell 4
  have c5 := bx.cell 5
  have c6 := bx.cell 6
  simp at c0 c1 c2 c3 c4 c5 c6
  go_enter Try.func78, Try.ntmps78
  go_wp2_with first | (go_at_call 67; refine (isSide_any _ _).mono ?_; rintro e w' ⟨rfl, rfl⟩) | (go_at_call 49; refine (isIdE_any _ _).mono ?_; rintro e w' ⟨rfl, rfl⟩)
  all_goals go_ret
  all_goals exact ⟨ret_bool' (by unfold aimA; first | (simp_all; done) | (rw [Bool.eq_iff_iff]; simp_all)), HB⟩
/-- whether it names nothing -/
def nnA (a : Ac) : Bool := decide (a.nn = 0) && plA a
set_option maxHeartbeats 2000000 in
theorem namesNothing_any (a : Ac) (w : World) : Calls Try.prog 71 #[(.agg #[.int .i64 a.kd, .int .i64 a.nn, .int .i64 a.pi, .int .i64 a.si, .int .i64 a.zo, .bool a.be, .slice a.la a.ln a.lcap])] w fun e w' => e = .returned (.bool (nnA a)) ∧ Below w.heap.size w w' := by
  have HB := (Below.refl _ w).alloc (Nat.le_refl _) (.cells #[.int .i64 a.kd, .int .i64 a.nn, .int .i64 a.pi, .int .i64 a.si, .int .i64 a.zo, .bool a.be, .slice a.la a.ln a.lcap] 29)
  have bx := boxR_new w 29 #[.int .i64 a.kd, .int .i64 a.nn, .int .i64 a.pi, .int .i64 a.si, .int .i64 a.zo, .bool a.be, .slice a.la a.ln a.lcap]
  generalize hW : w.alloc (.cells #[.int .i64 a.kd, .int .i64 a.nn, .int .i64 a.pi, .int .i64 a.si, .int .i64 a.zo, .bool a.be, .slice a.la a.ln a.lcap] 29) = W at HB bx
  have c0 := bx.cell 0
  have c1 := bx.cell 1
  have c2 := bx.cell 2
  have c3 := bx.cell 3
  have c4 := bx.cell 4
  have c5 := bx.cell 5
  have c6 := bx.cell 6
  simp at c0 c1 c2 c3 c4 c5 c6
  go_enter Try.func71, Try.ntmps71
  go_wp2
  all_goals go_ret
  all_goals exact ⟨ret_bool' (by unfold nnA plA; first | (simp_all; done) | (simp_all; omega) | (rw [Bool.eq_iff_iff]; simp_all)), HB⟩
/-- what is left when that is taken away which its kind names -/
def woA (a : Ac) : Ac :=
  if a.kd = 8 then { a with be := false, nn := 0 } else if a.kd = 3 then { a with nn := 0 } else if a.kd = 6 then { a with pi := 0, si := -1 } else if a.kd = 7 then { a with zo := 0 } else if a.kd = 9 then { a with la := none, ln := 0, lcap := 0 } else a
set_option maxHeartbeats 4000000 in
theorem wo_8 (a : Ac) (w : World) (h : a.kd = 8) : Calls Try.prog 72 #[(.agg #[.int .i64 8, .int .i64 a.nn, .int .i64 a.pi, .int .i64 a.si, .int .i64 a.zo, .bool a.be, .slice a.la a.ln a.lcap])] w fun e w' => e = .returned (.agg #[.int .i64 (woA a).kd, .int .i64 (woA a).nn, .int .i64 (woA a).pi, .int .i64 (woA a).si, .int .i64 (woA a).zo, .bool (woA a).be, .slice (woA a).la (woA a).ln (woA a).lcap]) ∧ Below w.heap.size w w' := by
  have HA : Hid (woA a = { a with be := false, nn := 0 }) := by show woA a = _; unfold woA; simp [h]
  have HK : Hid (a.kd = 8) := h
  clear h
  have hb0 := ((Below.refl _ w).alloc (Nat.le_refl _) (.cells #[.int .i64 8, .int .i64 a.nn, .int .i64 a.pi, .int .i64 a.si, .int .i64 a.zo, .bool a.be, .slice a.la a.ln a.lcap] 29)).alloc (by simp) (.cells #[.int .i64 0, .int .i64 0, .int .i64 0, .int .i64 0, .int .i64 0, .bool false, .slice none 0 0] 29)
  have x1 := (boxR_new w 29 #[.int .i64 8, .int .i64 a.nn, .int .i64 a.pi, .int .i64 a.si, .int .i64 a.zo, .bool a.be, .slice a.la a.ln a.lcap]).alloc (.cells #[.int .i64 0, .int .i64 0, .int .i64 0, .int .i64 0, .int .i64 0, .bool false, .slice none 0 0] 29)
  have x2 : BoxR ((w.alloc (.cells #[.int .i64 8, .int .i64 a.nn, .int .i64 a.pi, .int .i64 a.si, .int .i64 a.zo, .bool a.be, .slice a.la a.ln a.lcap] 29)).alloc (.cells #[.int .i64 0, .int .i64 0, .int .i64 0, .int .i64 0, .int .i64 0, .bool false, .slice none 0 0] 29)) (w.heap.size + 1) 29 #[.int .i64 0, .int .i64 0, .int .i64 0, .int .i64 0, .int .i64 0, .bool false, .slice none 0 0] := heap_alloc2_new _ _ _
  generalize hW : (w.alloc (.cells #[.int .i64 8, .int .i64 a.nn, .int .i64 a.pi, .int .i64 a.si, .int .i64 a.zo, .bool a.be, .slice a.la a.ln a.lcap] 29)).alloc (.cells #[.int .i64 0, .int .i64 0, .int .i64 0, .int .i64 0, .int .i64 0, .bool false, .slice none 0 0] 29) = W at hb0 x1 x2
  have c0 := x1.cell 0
  simp at c0
  have c5 := x1.cell 5
  simp at c5
  have c1 := x1.cell 1
  simp at c1
  have f5 := x1.froz 5
  have f1 := x1.froz 1
  have x1_1 := x1.put 5 (.bool false)
  have x2_1 := x2.other (q := ⟨w.heap.size, 5, none⟩) (by simp) (.bool false)
  have hb_1 := hb0.setCell (p := ⟨w.heap.size, 5, none⟩) (Nat.le_refl _) (.bool false)
  have x1_2 := x1_1.put 1 (.int .i64 0)
  have x2_2 := x2_1.other (q := ⟨w.heap.size, 1, none⟩) (by simp) (.int .i64 0)
  have hb_2 := hb_1.setCell (p := ⟨w.heap.size, 1, none⟩) (Nat.le_refl _) (.int .i64 0)
  have z1 := x1_2
  have z2 := x2_2
  have zb := hb_2
  generalize hV : ((W.setCell ⟨w.heap.size, 5, none⟩ (.bool false)).setCell ⟨w.heap.size, 1, none⟩ (.int .i64 0)) = V at z1 z2 zb
  have d0 := z1.cell 0
  have d1 := z1.cell 1
  have d2 := z1.cell 2
  have d3 := z1.cell 3
  have d4 := z1.cell 4
  have d5 := z1.cell 5
  have d6 := z1.cell 6
  simp at d0 d1 d2 d3 d4 d5 d6
  go_enter Try.func72, Try.ntmps72
  go_wp2_with (refine wpList_store_row rfl 29 (.tmp 2) _ rfl (w.heap.size + 1) _ (by rfl) (by rfl) _ _ z2 (by kernel_rfl) (by rfl) (by simp [Value.oneCell']) ?_)
  (try simp only [Exit.inBlock, Exit.then]); refine bodyPost_ret (results_cell_row rfl _ _ (w.heap.size + 1) _ _ _ _ rfl (setRow_heap _ _ _ _ _ _ z2) Try.underlying29 rfl (by kernel_rfl)) rfl ?_
  exact ⟨by rw [HA.out]; simp only; rw [HK.out], below_setRow zb (by omega) _⟩
set_option maxHeartbeats 4000000 in
theorem wo_3 (a : Ac) (w : World) (h : a.kd = 3) : Calls Try.prog 72 #[(.agg #[.int .i64 3, .int .i64 a.nn, .int .i64 a.pi, .int .i64 a.si, .int .i64 a.zo, .bool a.be, .slice a.la a.ln a.lcap])] w fun e w' => e = .returned (.agg #[.int .i64 (woA a).kd, .int .i64 (woA a).nn, .int .i64 (woA a).pi, .int .i64 (woA a).si, .int .i64 (woA a).zo, .bool (woA a).be, .slice (woA a).la (woA a).ln (woA a).lcap]) ∧ Below w.heap.size w w' := by
  have HA : Hid (woA a = { a with nn := 0 }) := by show woA a = _; unfold woA; simp [h]
  have HK : Hid (a.kd = 3) := h
  clear h
  have hb0 := ((Below.refl _ w).alloc (Nat.le_refl _) (.cells #[.int .i64 3, .int .i64 a.nn, .int .i64 a.pi, .int .i64 a.si, .int .i64 a.zo, .bool a.be, .slice a.la a.ln a.lcap] 29)).alloc (by simp) (.cells #[.int .i64 0, .int .i64 0, .int .i64 0, .int .i64 0, .int .i64 0, .bool false, .slice none 0 0] 29)
  have x1 := (boxR_new w 29 #[.int .i64 3, .int .i64 a.nn, .int .i64 a.pi, .int .i64 a.si, .int .i64 a.zo, .bool a.be, .slice a.la a.ln a.lcap]).alloc (.cells #[.int .i64 0, .int .i64 0, .int .i64 0, .int .i64 0, .int .i64 0, .bool false, .slice none 0 0] 29)
  have x2 : BoxR ((w.alloc (.cells #[.int .i64 3, .int .i64 a.nn, .int .i64 a.pi, .int .i64 a.si, .int .i64 a.zo, .bool a.be, .slice a.la a.ln a.lcap] 29)).alloc (.cells #[.int .i64 0, .int .i64 0, .int .i64 0, .int .i64 0, .int .i64 0, .bool false, .slice none 0 0] 29)) (w.heap.size + 1) 29 #[.int .i64 0, .int .i64 0, .int .i64 0, .int .i64 0, .int .i64 0, .bool false, .slice none 0 0] := heap_alloc2_new _ _ _
  generalize hW : (w.alloc (.cells #[.int .i64 3, .int .i64 a.nn, .int .i64 a.pi, .int .i64 a.si, .int .i64 a.zo, .bool a.be, .slice a.la a.ln a.lcap] 29)).alloc (.cells #[.int .i64 0, .int .i64 0, .int .i64 0, .int .i64 0, .int .i64 0, .bool false, .slice none 0 0] 29) = W at hb0 x1 x2
  have c0 := x1.cell 0
  simp at c0
  have c1 := x1.cell 1
  simp at c1
  have f1 := x1.froz 1
  have x1_1 := x1.put 1 (.int .i64 0)
  have x2_1 := x2.other (q := ⟨w.heap.size, 1, none⟩) (by simp) (.int .i64 0)
  have hb_1 := hb0.setCell (p := ⟨w.heap.size, 1, none⟩) (Nat.le_refl _) (.int .i64 0)
  have z1 := x1_1
  have z2 := x2_1
  have zb := hb_1
  generalize hV : (W.setCell ⟨w.heap.size, 1, none⟩ (.int .i64 0)) = V at z1 z2 zb
  have d0 := z1.cell 0
  have d1 := z1.cell 1
  have d2 := z1.cell 2
  have d3 := z1.cell 3
  have d4 := z1.cell 4
  have d5 := z1.cell 5
  have d6 := z1.cell 6
  simp at d0 d1 d2 d3 d4 d5 d6
  go_enter Try.func72, Try.ntmps72
  go_wp2_with (refine wpList_store_row rfl 29 (.tmp 2) _ rfl (w.heap.size + 1) _ (by rfl) (by rfl) _ _ z2 (by kernel_rfl) (by rfl) (by simp [Value.oneCell']) ?_)
  (try simp only [Exit.inBlock, Exit.then]); refine bodyPost_ret (results_cell_row rfl _ _ (w.heap.size + 1) _ _ _ _ rfl (setRow_heap _ _ _ _ _ _ z2) Try.underlying29 rfl (by kernel_rfl)) rfl ?_
  exact ⟨by rw [HA.out]; simp only; rw [HK.out], below_setRow zb (by omega) _⟩
set_option maxHeartbeats 4000000 in
theorem wo_6 (a : Ac) (w : World) (h : a.kd = 6) : Calls Try.prog 72 #[(.agg #[.int .i64 6, .int .i64 a.nn, .int .i64 a.pi, .int .i64 a.si, .int .i64 a.zo, .bool a.be, .slice a.la a.ln a.lcap])] w fun e w' => e = .returned (.agg #[.int .i64 (woA a).kd, .int .i64 (woA a).nn, .int .i64 (woA a).pi, .int .i64 (woA a).si, .int .i64 (woA a).zo, .bool (woA a).be, .slice (woA a).la (woA a).ln (woA a).lcap]) ∧ Below w.heap.size w w' := by
  have HA : Hid (woA a = { a with pi := 0, si := -1 }) := by show woA a = _; unfold woA; simp [h]
  have HK : Hid (a.kd = 6) := h
  clear h
  have hb0 := ((Below.refl _ w).alloc (Nat.le_refl _) (.cells #[.int .i64 6, .int .i64 a.nn, .int .i64 a.pi, .int .i64 a.si, .int .i64 a.zo, .bool a.be, .slice a.la a.ln a.lcap] 29)).alloc (by simp) (.cells #[.int .i64 0, .int .i64 0, .int .i64 0, .int .i64 0, .int .i64 0, .bool false, .slice none 0 0] 29)
  have x1 := (boxR_new w 29 #[.int .i64 6, .int .i64 a.nn, .int .i64 a.pi, .int .i64 a.si, .int .i64 a.zo, .bool a.be, .slice a.la a.ln a.lcap]).alloc (.cells #[.int .i64 0, .int .i64 0, .int .i64 0, .int .i64 0, .int .i64 0, .bool false, .slice none 0 0] 29)
  have x2 : BoxR ((w.alloc (.cells #[.int .i64 6, .int .i64 a.nn, .int .i64 a.pi, .int .i64 a.si, .int .i64 a.zo, .bool a.be, .slice a.la a.ln a.lcap] 29)).alloc (.cells #[.int .i64 0, .int .i64 0, .int .i64 0, .int .i64 0, .int .i64 0, .bool false, .slice none 0 0] 29)) (w.heap.size + 1) 29 #[.int .i64 0, .int .i64 0, .int .i64 0, .int .i64 0, .int .i64 0, .bool false, .slice none 0 0] := heap_alloc2_new _ _ _
  generalize hW : (w.alloc (.cells #[.int .i64 6, .int .i64 a.nn, .int .i64 a.pi, .int .i64 a.si, .int .i64 a.zo, .bool a.be, .slice a.la a.ln a.lcap] 29)).alloc (.cells #[.int .i64 0, .int .i64 0, .int .i64 0, .int .i64 0, .int .i64 0, .bool false, .slice none 0 0] 29) = W at hb0 x1 x2
  have c0 := x1.cell 0
  simp at c0
  have c2 := x1.cell 2
  simp at c2
  have c3 := x1.cell 3
  simp at c3
  have f2 := x1.froz 2
  have f3 := x1.froz 3
  have x1_1 := x1.put 2 (.int .i64 0)
  have x2_1 := x2.other (q := ⟨w.heap.size, 2, none⟩) (by simp) (.int .i64 0)
  have hb_1 := hb0.setCell (p := ⟨w.heap.size, 2, none⟩) (Nat.le_refl _) (.int .i64 0)
  have x1_2 := x1_1.put 3 (.int .i64 (-1))
  have x2_2 := x2_1.other (q := ⟨w.heap.size, 3, none⟩) (by simp) (.int .i64 (-1))
  have hb_2 := hb_1.setCell (p := ⟨w.heap.size, 3, none⟩) (Nat.le_refl _) (.int .i64 (-1))
  have z1 := x1_2
  have z2 := x2_2
  have zb := hb_2
  generalize hV : ((W.setCell ⟨w.heap.size, 2, none⟩ (.int .i64 0)).setCell ⟨w.heap.size, 3, none⟩ (.int .i64 (-1))) = V at z1 z2 zb
  have d0 := z1.cell 0
  have d1 := z1.cell 1
  have d2 := z1.cell 2
  have d3 := z1.cell 3
  have d4 := z1.cell 4
  have d5 := z1.cell 5
  have d6 := z1.cell 6
  simp at d0 d1 d2 d3 d4 d5 d6
  go_enter Try.func72, Try.ntmps72
  go_wp2_with (refine wpList_store_row rfl 29 (.tmp 2) _ rfl (w.heap.size + 1) _ (by rfl) (by rfl) _ _ z2 (by kernel_rfl) (by rfl) (by simp [Value.oneCell']) ?_)
  (try simp only [Exit.inBlock, Exit.then]); refine bodyPost_ret (results_cell_row rfl _ _ (w.heap.size + 1) _ _ _ _ rfl (setRow_heap _ _ _ _ _ _ z2) Try.underlying29 rfl (by kernel_rfl)) rfl ?_
  exact ⟨by rw [HA.out]; simp only; rw [HK.out], below_setRow zb (by omega) _⟩
set_option maxHeartbeats 4000000 in
theorem wo_7 (a : Ac) (w : World) (h : a.kd = 7) : Calls Try.prog 72 #[(.agg #[.int .i64 7, .int .i64 a.nn, .int .i64 a.pi, .int .i64 a.si, .int .i64 a.zo, .bool a.be, .slice a.la a.ln a.lcap])] w fun e w' => e = .returned (.agg #[.int .i64 (woA a).kd, .int .i64 (woA a).nn, .int .i64 (woA a).pi, .int .i64 (woA a).si, .int .i64 (woA a).zo, .bool (woA a).be, .slice (woA a).la (woA a).ln (woA a).lcap]) ∧ Below w.heap.size w w' := by
  have HA : Hid (woA a = { a with zo := 0 }) := by show woA a = _; unfold woA; simp [h]
  have HK : Hid (a.kd = 7) := h
  clear h
  have hb0 := ((Below.refl _ w).alloc (Nat.le_refl _) (.cells #[.int .i64 7, .int .i64 a.nn, .int .i64 a.pi, .int .i64 a.si, .int .i64 a.zo, .bool a.be, .slice a.la a.ln a.lcap] 29)).alloc (by simp) (.cells #[.int .i64 0, .int .i64 0, .int .i64 0, .int .i64 0, .int .i64 0, .bool false, .slice none 0 0] 29)
  have x1 := (boxR_new w 29 #[.int .i64 7, .int .i64 a.nn, .int .i64 a.pi, .int .i64 a.si, .int .i64 a.zo, .bool a.be, .slice a.la a.ln a.lcap]).alloc (.cells #[.int .i64 0, .int .i64 0, .int .i64 0, .int .i64 0, .int .i64 0, .bool false, .slice none 0 0] 29)
  have x2 : BoxR ((w.alloc (.cells #[.int .i64 7, .int .i64 a.nn, .int .i64 a.pi, .int .i64 a.si, .int .i64 a.zo, .bool a.be, .slice a.la a.ln a.lcap] 29)).alloc (.cells #[.int .i64 0, .int .i64 0, .int .i64 0, .int .i64 0, .int .i64 0, .bool false, .slice none 0 0] 29)) (w.heap.size + 1) 29 #[.int .i64 0, .int .i64 0, .int .i64 0, .int .i64 0, .int .i64 0, .bool false, .slice none 0 0] := heap_alloc2_new _ _ _
  generalize hW : (w.alloc (.cells #[.int .i64 7, .int .i64 a.nn, .int .i64 a.pi, .int .i64 a.si, .int .i64 a.zo, .bool a.be, .slice a.la a.ln a.lcap] 29)).alloc (.cells #[.int .i64 0, .int .i64 0, .int .i64 0, .int .i64 0, .int .i64 0, .bool false, .slice none 0 0] 29) = W at hb0 x1 x2
  have c0 := x1.cell 0
  simp at c0
  have c4 := x1.cell 4
  simp at c4
  have f4 := x1.froz 4
  have x1_1 := x1.put 4 (.int .i64 0)
  have x2_1 := x2.other (q := ⟨w.heap.size, 4, none⟩) (by simp) (.int .i64 0)
  have hb_1 := hb0.setCell (p := ⟨w.heap.size, 4, none⟩) (Nat.le_refl _) (.int .i64 0)
  have z1 := x1_1
  have z2 := x2_1
  have zb := hb_1
  generalize hV : (W.setCell ⟨w.heap.size, 4, none⟩ (.int .i64 0)) = V at z1 z2 zb
  have d0 := z1.cell 0
  have d1 := z1.cell 1
  have d2 := z1.cell 2
  have d3 := z1.cell 3
  have d4 := z1.cell 4
  have d5 := z1.cell 5
  have d6 := z1.cell 6
  simp at d0 d1 d2 d3 d4 d5 d6
  go_enter Try.func72, Try.ntmps72
  go_wp2_with (refine wpList_store_row rfl 29 (.tmp 2) _ rfl (w.heap.size + 1) _ (by rfl) (by rfl) _ _ z2 (by kernel_rfl) (by rfl) (by simp [Value.oneCell']) ?_)
  (try simp only [Exit.inBlock, Exit.then]); refine bodyPost_ret (results_cell_row rfl _ _ (w.heap.size + 1) _ _ _ _ rfl (setRow_heap _ _ _ _ _ _ z2) Try.underlying29 rfl (by kernel_rfl)) rfl ?_
  exact ⟨by rw [HA.out]; simp only; rw [HK.out], below_setRow zb (by omega) _⟩
set_option maxHeartbeats 4000000 in
theorem wo_9 (a : Ac) (w : World) (h : a.kd = 9) : Calls Try.prog 72 #[(.agg #[.int .i64 9, .int .i64 a.nn, .int .i64 a.pi, .int .i64 a.si, .int .i64 a.zo, .bool a.be, .slice a.la a.ln a.lcap])] w fun e w' => e = .returned (.agg #[.int .i64 (woA a).kd, .int .i64 (woA a).nn, .int .i64 (woA a).pi, .int .i64 (woA a).si, .int .i64 (woA a).zo, .bool (woA a).be, .slice (woA a).la (woA a).ln (woA a).lcap]) ∧ Below w.heap.size w w' := by
  have HA : Hid (woA a = { a with la := none, ln := 0, lcap := 0 }) := by show woA a = _; unfold woA; simp [h]
  have HK : Hid (a.kd = 9) := h
  clear h
  have hb0 := ((Below.refl _ w).alloc (Nat.le_refl _) (.cells #[.int .i64 9, .int .i64 a.nn, .int .i64 a.pi, .int .i64 a.si, .int .i64 a.zo, .bool a.be, .slice a.la a.ln a.lcap] 29)).alloc (by simp) (.cells #[.int .i64 0, .int .i64 0, .int .i64 0, .int .i64 0, .int .i64 0, .bool false, .slice none 0 0] 29)
  have x1 := (boxR_new w 29 #[.int .i64 9, .int .i64 a.nn, .int .i64 a.pi, .int .i64 a.si, .int .i64 a.zo, .bool a.be, .slice a.la a.ln a.lcap]).alloc (.cells #[.int .i64 0, .int .i64 0, .int .i64 0, .int .i64 0, .int .i64 0, .bool false, .slice none 0 0] 29)
  have x2 : BoxR ((w.alloc (.cells #[.int .i64 9, .int .i64 a.nn, .int .i64 a.pi, .int .i64 a.si, .int .i64 a.zo, .bool a.be, .slice a.la a.ln a.lcap] 29)).alloc (.cells #[.int .i64 0, .int .i64 0, .int .i64 0, .int .i64 0, .int .i64 0, .bool false, .slice none 0 0] 29)) (w.heap.size + 1) 29 #[.int .i64 0, .int .i64 0, .int .i64 0, .int .i64 0, .int .i64 0, .bool false, .slice none 0 0] := heap_alloc2_new _ _ _
  generalize hW : (w.alloc (.cells #[.int .i64 9, .int .i64 a.nn, .int .i64 a.pi, .int .i64 a.si, .int .i64 a.zo, .bool a.be, .slice a.la a.ln a.lcap] 29)).alloc (.cells #[.int .i64 0, .int .i64 0, .int .i64 0, .int .i64 0, .int .i64 0, .bool false, .slice none 0 0] 29) = W at hb0 x1 x2
  have c0 := x1.cell 0
  simp at c0
  have c6 := x1.cell 6
  simp at c6
  have f6 := x1.froz 6
  have x1_1 := x1.put 6 (.slice none 0 0)
  have x2_1 := x2.other (q := ⟨w.heap.size, 6, none⟩) (by simp) (.slice none 0 0)
  have hb_1 := hb0.setCell (p := ⟨w.heap.size, 6, none⟩) (Nat.le_refl _) (.slice none 0 0)
  have z1 := x1_1
  have z2 := x2_1
  have zb := hb_1
  generalize hV : (W.setCell ⟨w.heap.size, 6, none⟩ (.slice none 0 0)) = V at z1 z2 zb
  have d0 := z1.cell 0
  have d1 := z1.cell 1
  have d2 := z1.cell 2
  have d3 := z1.cell 3
  have d4 := z1.cell 4
  have d5 := z1.cell 5
  have d6 := z1.cell 6
  simp at d0 d1 d2 d3 d4 d5 d6
  go_enter Try.func72, Try.ntmps72
  go_wp2_with (refine wpList_store_row rfl 29 (.tmp 2) _ rfl (w.heap.size + 1) _ (by rfl) (by rfl) _ _ z2 (by kernel_rfl) (by rfl) (by simp [Value.oneCell']) ?_)
  (try simp only [Exit.inBlock, Exit.then]); refine bodyPost_ret (results_cell_row rfl _ _ (w.heap.size + 1) _ _ _ _ rfl (setRow_heap _ _ _ _ _ _ z2) Try.underlying29 rfl (by kernel_rfl)) rfl ?_
  exact ⟨by rw [HA.out]; simp only; rw [HK.out], below_setRow zb (by omega) _⟩
set_option maxHeartbeats 4000000 in
theorem wo_x (a : Ac) (w : World) (h : ∀ k : Int, k = 3 ∨ k = 6 ∨ k = 7 ∨ k = 8 ∨ k = 9 → a.kd ≠ k) : Calls Try.prog 72 #[(.agg #[.int .i64 a.kd, .int .i64 a.nn, .int .i64 a.pi, .int .i64 a.si, .int .i64 a.zo, .bool a.be, .slice a.la a.ln a.lcap])] w fun e w' => e = .returned (.agg #[.int .i64 (woA a).kd, .int .i64 (woA a).nn, .int .i64 (woA a).pi, .int .i64 (woA a).si, .int .i64 (woA a).zo, .bool (woA a).be, .slice (woA a).la (woA a).ln (woA a).lcap]) ∧ Below w.heap.size w w' := by
  have HA : Hid (woA a = a) := by show woA a = a; unfold woA; simp [h 3, h 6, h 7, h 8, h 9]
  have n3 : (a.kd == 3) = false := by simpa using h 3 (by omega)
  have n6 : (a.kd == 6) = false := by simpa using h 6 (by omega)
  have n7 : (a.kd == 7) = false := by simpa using h 7 (by omega)
  have n8 : (a.kd == 8) = false := by simpa using h 8 (by omega)
  have n9 : (a.kd == 9) = false := by simpa using h 9 (by omega)
  clear h
  have hb0 := ((Below.refl _ w).alloc (Nat.le_refl _) (.cells #[.int .i64 a.kd, .int .i64 a.nn, .int .i64 a.pi, .int .i64 a.si, .int .i64 a.zo, .bool a.be, .slice a.la a.ln a.lcap] 29)).alloc (by simp) (.cells #[.int .i64 0, .int .i64 0, .int .i64 0, .int .i64 0, .int .i64 0, .bool false, .slice none 0 0] 29)
  have x1 := (boxR_new w 29 #[.int .i64 a.kd, .int .i64 a.nn, .int .i64 a.pi, .int .i64 a.si, .int .i64 a.zo, .bool a.be, .slice a.la a.ln a.lcap]).alloc (.cells #[.int .i64 0, .int .i64 0, .int .i64 0, .int .i64 0, .int .i64 0, .bool false, .slice none 0 0] 29)
  have x2 : BoxR ((w.alloc (.cells #[.int .i64 a.kd, .int .i64 a.nn, .int .i64 a.pi, .int .i64 a.si, .int .i64 a.zo, .bool a.be, .slice a.la a.ln a.lcap] 29)).alloc (.cells #[.int .i64 0, .int .i64 0, .int .i64 0, .int .i64 0, .int .i64 0, .bool false, .slice none 0 0] 29)) (w.heap.size + 1) 29 #[.int .i64 0, .int .i64 0, .int .i64 0, .int .i64 0, .int .i64 0, .bool false, .slice none 0 0] := heap_alloc2_new _ _ _
  generalize hW : (w.alloc (.cells #[.int .i64 a.kd, .int .i64 a.nn, .int .i64 a.pi, .int .i64 a.si, .int .i64 a.zo, .bool a.be, .slice a.la a.ln a.lcap] 29)).alloc (.cells #[.int .i64 0, .int .i64 0, .int .i64 0, .int .i64 0, .int .i64 0, .bool false, .slice none 0 0] 29) = W at hb0 x1 x2
  have c0 := x1.cell 0
  simp at c0
  have z1 := x1
  have z2 := x2
  have zb := hb0
  have d0 := z1.cell 0
  have d1 := z1.cell 1
  have d2 := z1.cell 2
  have d3 := z1.cell 3
  have d4 := z1.cell 4
  have d5 := z1.cell 5
  have d6 := z1.cell 6
  simp at d0 d1 d2 d3 d4 d5 d6
  go_enter Try.func72, Try.ntmps72
  go_wp2_with (refine wpList_store_row rfl 29 (.tmp 2) _ rfl (w.heap.size + 1) _ (by rfl) (by rfl) _ _ z2 (by kernel_rfl) (by rfl) (by simp [Value.oneCell']) ?_)
  (try simp only [Exit.inBlock, Exit.then]); refine bodyPost_ret (results_cell_row rfl _ _ (w.heap.size + 1) _ _ _ _ rfl (setRow_heap _ _ _ _ _ _ z2) Try.underlying29 rfl (by kernel_rfl)) rfl ?_
  exact ⟨by rw [HA.out], below_setRow zb (by omega) _⟩
theorem withoutNamed_any (a : Ac) (w : World) : Calls Try.prog 72 #[(.agg #[.int .i64 a.kd, .int .i64 a.nn, .int .i64 a.pi, .int .i64 a.si, .int .i64 a.zo, .bool a.be, .slice a.la a.ln a.lcap])] w fun e w' => e = .returned (.agg #[.int .i64 (woA a).kd, .int .i64 (woA a).nn, .int .i64 (woA a).pi, .int .i64 (woA a).si, .int .i64 (woA a).zo, .bool (woA a).be, .slice (woA a).la (woA a).ln (woA a).lcap]) ∧ Below w.heap.size w w' := by
  by_cases h : a.kd = 3 ∨ a.kd = 6 ∨ a.kd = 7 ∨ a.kd = 8 ∨ a.kd = 9
  · rcases h with h | h | h | h | h
    · rw [h]; exact wo_3 a w h
    · rw [h]; exact wo_6 a w h
    · rw [h]; exact wo_7 a w h
    · rw [h]; exact wo_8 a w h
    · rw [h]; exact wo_9 a w h
  · exact wo_x a w (fun k hk e => h (by omega))
end Go.Proofs.Ythemmhocnkpcjas
namespace Go.Proofs.Ythemmhocnkpcjas
open Go.ChangeShapes Go.WideShapes Go.ChangeAt Go.RowKit
set_option maxRecDepth 100000
set_option linter.unusedVariables false
set_option linter.unusedSimpArgs false

set_option maxHeartbeats 4000000 in
theorem partsOk_any (la : Option Addr) (lb n c : Nat) (f : Nat → Ev) (w : World) (hn : n ≤ 1048577) (r1 : RdE evC 7 w lb la n f) : Calls Try.prog 79 #[.slice la n c] w fun e w' => e = .returned (.bool (apL n f)) ∧ Below w.heap.size w w' := by
  go_enter Try.func79, Try.ntmps79
  go_wp2
  go_loopw [7] (fun i wr => ∃ k : Nat, k ≤ n ∧ i = .int .i64 k ∧ Hid (∀ j, j < k → ptE (f j) = true) ∧ Below w.heap.size w wr) (fun i _ => n - (intOf i).toNat)
  case atStart => exact ⟨0, Nat.zero_le _, rfl, fun j hj => by omega, Below.refl _ _⟩
  case round =>
    obtain ⟨k, hk, rfl, hall, hb⟩ := hrel
    by_cases hlt : k < n
    · rcases r1.grew evC_ne hb with g1 | ⟨o1, hpa, g1⟩
      · omega
      subst hpa
      obtain ⟨k0, k1, k2, k3, k4, k5, k6⟩ : AtEv wr lb (o1 + k * 7) (f k) := AtEv_of (g1 k hlt)
      clear g1
      have y1 : (0 : Int) ≤ (k : Int) := by omega
      have y2 : (k : Int) < (n : Int) := by omega
      obtain ⟨x, hx⟩ : ∃ x, f k = x := ⟨_, rfl⟩
      rw [hx] at k0 k1 k2 k3 k4 k5 k6
      have bV := boxR_new wr 36 #[.int .i64 x.kd, .int .i64 x.sr, .int .i64 x.pi, .int .i64 x.si, .int .i64 x.nn, .int .i64 x.zo, .bool x.be]
      have hbV := below_new2' wr (.cells #[.int .i64 x.kd, .int .i64 x.sr, .int .i64 x.pi, .int .i64 x.si, .int .i64 x.nn, .int .i64 x.zo, .bool x.be] 36)
      generalize hV : wr.alloc (.cells #[.int .i64 x.kd, .int .i64 x.sr, .int .i64 x.pi, .int .i64 x.si, .int .i64 x.nn, .int .i64 x.zo, .bool x.be] 36) = V at bV hbV
      have hB := below_app hb hbV hb.size
      have m0 := bV.cell 0
      have m1 := bV.cell 1
      have m2 := bV.cell 2
      have m3 := bV.cell 3
      have m4 := bV.cell 4
      have m5 := bV.cell 5
      have m6 := bV.cell 6
      simp at m0 m1 m2 m3 m4 m5 m6
      clear bV
      cases hp : ptE x
      case false =>
        have HR : Hid (apL n f = false) := apL_no hlt (by rw [hx]; exact hp)
        have HP : Hid (∀ w : World, Calls Try.prog 85 #[(.agg #[.int .i64 x.kd, .int .i64 x.sr, .int .i64 x.pi, .int .i64 x.si, .int .i64 x.nn, .int .i64 x.zo, .bool x.be])] w fun r w' => r = .returned (.bool false) ∧ Below w.heap.size w w') := fun w => by have := partOk_any x w; rw [hp] at this; exact this
        go_wp2_with fail
        refine (HP.out _).mono ?_
        rintro r w1 ⟨rfl, hb1⟩
        go_wp2
        go_ret
        exact ⟨ret_bool' HR.out.symm, below_app hB hb1 hB.size⟩
      case true =>
        have HN : Hid (∀ j, j < k + 1 → ptE (f j) = true) := fun j hj => by
          by_cases ej : j = k
          · rw [ej, hx]; exact hp
          · exact hall.out j (by omega)
        have HP : Hid (∀ w : World, Calls Try.prog 85 #[(.agg #[.int .i64 x.kd, .int .i64 x.sr, .int .i64 x.pi, .int .i64 x.si, .int .i64 x.nn, .int .i64 x.zo, .bool x.be])] w fun r w' => r = .returned (.bool true) ∧ Below w.heap.size w w') := fun w => by have := partOk_any x w; rw [hp] at this; exact this
        go_wp2_with fail
        refine (HP.out _).mono ?_
        rintro r w1 ⟨rfl, hb1⟩
        have hb2 := below_app hB hb1 hB.size
        clear m0 m1 m2 m3 m4 m5 m6 k0 k1 k2 k3 k4 k5 k6 hb hB hbV
        go_wp2
        go_roundw
        case rel => first | exact ⟨k + 1, by omega, by go_num, HN, hb2⟩ | ((repeat apply Exists.intro); exact ⟨⟨k + 1, by omega, by go_num, HN, hb2⟩, rfl⟩)
        case measure => simp [intOf]; omega
    · have HL : Hid (apL n f = true) := apL_yes (fun j hj => hall.out j (by omega))
      obtain rfl : k = n := by omega
      clear hall hk hlt
      go_wp2
      go_ret
      exact ⟨ret_bool' HL.out.symm, hb⟩
theorem paF_same (a : Ac) (e : Ev) (i : Nat) : paF a e i = sameE (a.es i) e.nn := rfl
set_option maxHeartbeats 4000000 in
theorem implParts_any (a : Ac) (e : Ev) (w : World) (hok : a.ok w) (hn : a.ln ≤ 1048576) : Calls Try.prog 15 #[(.agg #[.int .i64 a.kd, .int .i64 a.nn, .int .i64 a.pi, .int .i64 a.si, .int .i64 a.zo, .bool a.be, .slice a.la a.ln a.lcap]), (.agg #[.int .i64 e.kd, .int .i64 e.sr, .int .i64 e.pi, .int .i64 e.si, .int .i64 e.nn, .int .i64 e.zo, .bool e.be])] w fun r w' => ∃ q cap, r = .returned (.slice (some ⟨q, 0, none⟩) (paN a) cap) ∧ Below w.heap.size w w' ∧ OwnE evC 7 w' w.heap.size q (some ⟨q, 0, none⟩) (paN a) (paF a e) := by
  obtain ⟨i0, hi, hz0, hz1, hz2⟩ := info_parts Try.infoEv
  obtain ⟨_, _, r1, _⟩ := hok
  have hb0 := ((Below.refl _ w).alloc (Nat.le_refl _) (.cells #[.int .i64 a.kd, .int .i64 a.nn, .int .i64 a.pi, .int .i64 a.si, .int .i64 a.zo, .bool a.be, .slice a.la a.ln a.lcap] 29)).alloc (by simp) (.cells #[.int .i64 e.kd, .int .i64 e.sr, .int .i64 e.pi, .int .i64 e.si, .int .i64 e.nn, .int .i64 e.zo, .bool e.be] 36)
  have x1 := (boxR_new w 29 #[.int .i64 a.kd, .int .i64 a.nn, .int .i64 a.pi, .int .i64 a.si, .int .i64 a.zo, .bool a.be, .slice a.la a.ln a.lcap]).alloc (.cells #[.int .i64 e.kd, .int .i64 e.sr, .int .i64 e.pi, .int .i64 e.si, .int .i64 e.nn, .int .i64 e.zo, .bool e.be] 36)
  have x2 : BoxR ((w.alloc (.cells #[.int .i64 a.kd, .int .i64 a.nn, .int .i64 a.pi, .int .i64 a.si, .int .i64 a.zo, .bool a.be, .slice a.la a.ln a.lcap] 29)).alloc (.cells #[.int .i64 e.kd, .int .i64 e.sr, .int .i64 e.pi, .int .i64 e.si, .int .i64 e.nn, .int .i64 e.zo, .bool e.be] 36)) (w.heap.size + 1) 36 #[.int .i64 e.kd, .int .i64 e.sr, .int .i64 e.pi, .int .i64 e.si, .int .i64 e.nn, .int .i64 e.zo, .bool e.be] := heap_alloc2_new _ _ _
  generalize hW : (w.alloc (.cells #[.int .i64 a.kd, .int .i64 a.nn, .int .i64 a.pi, .int .i64 a.si, .int .i64 a.zo, .bool a.be, .slice a.la a.ln a.lcap] 29)).alloc (.cells #[.int .i64 e.kd, .int .i64 e.sr, .int .i64 e.pi, .int .i64 e.si, .int .i64 e.nn, .int .i64 e.zo, .bool e.be] 36) = W at hb0 x1 x2
  have hsz := hb0.size
  have c0 := x1.cell 0
  have c6 := x1.cell 6
  simp at c0 c6
  cases q9 : (a.kd == 9)
  case false =>
    have q8 : (a.kd != 9) = true := by rw [bne, q9]; rfl
    have HN : Hid (paN a = 0) := by show paN a = 0; unfold paN; simp_all
    have hown0 : (W.alloc (.cells #[] 36)).ownsRow W.heap.size 36 7 (.slice (some ⟨W.heap.size, 0, none⟩) 0 0) 0 [] := World.ownsRow_lit W #[] 0 (Nat.le_refl _) (by decide) rfl
    have ho := (own_ofE evC_len (f := paF a e) hown0 (by simp)).elim (fun g hg => by obtain ⟨cap, h1, _, h3⟩ := hg; simp at h1; obtain ⟨rfl, rfl⟩ := h1; exact h3)
    have HO : Hid (OwnE evC 7 (W.alloc (.cells #[] 36)) w.heap.size W.heap.size (some ⟨W.heap.size, 0, none⟩) 0 (paF a e)) := ⟨hsz, ho.2⟩
    have hB := hb0.alloc hb0.size (.cells #[] 36)
    clear ho hown0
    go_enter Try.func15, Try.ntmps15
    go_wp2
    go_ret
    rw [HN.out]
    first | exact ⟨_, _, rfl, hB, HO.out⟩ | exact ⟨W.heap.size, ⟨_, rfl⟩, hB, HO.out⟩
  case true =>
  have q8 : (a.kd != 9) = false := by rw [bne, q9]; rfl
  have HN : Hid (paN a = a.ln) := by show paN a = a.ln; unfold paN; simp_all
  go_enter Try.func15, Try.ntmps15
  go_wp2_with (at_make; refine wpList_make_full _ rfl _ _ 27 rfl W.heap.size 36 i0 _ 7 Try.underlying27 hi hz0 hz1 _ _ _ _ a.ln rfl rfl rfl rfl (by rw [hz2]; omega) (by unfold maxLen; omega) (Nat.le_refl _) ?_)
  intro w1 hown hgr
  have hown' : w1.ownsRow W.heap.size 36 7 (.slice (some ⟨W.heap.size, 0, none⟩) a.ln a.ln) a.ln (valsE evC a.ln (fun _ => zE)) := by rw [← made_event]; exact hown
  have hrow := row_madeE hown'
  have HR : Hid (w1.heap[W.heap.size]? = some (.cells (valsE evC a.ln (tilE 0 (paF a e) (fun _ => zE))).toArray 36 (0, 0))) := by rw [tilE_zero]; exact hrow
  have hb1 : Below W.heap.size W w1 := (Below.refl _ _).grown hgr (Nat.le_refl _) (by simp)
  have x3 := x1.grew hb1
  have d6 := x3.cell 6
  simp at d6
  clear hown hown' hgr hrow c0 c6 hW x3
  go_wp2
  go_loopw [19] (fun i wr => ∃ k : Nat, k ≤ a.ln ∧ i = .int .i64 k ∧ Below W.heap.size W wr ∧ Hid (wr.heap[W.heap.size]? = some (.cells (valsE evC a.ln (tilE k (paF a e) (fun _ => zE))).toArray 36 (0, 0)))) (fun i _ => a.ln - (intOf i).toNat)
  case atStart => exact ⟨0, Nat.zero_le _, rfl, hb1, HR⟩
  case round =>
    clear HR hb1 d6
    obtain ⟨k, hk, rfl, hb, hr⟩ := hrel
    have hB := below_app hb0 hb hsz
    by_cases hlt : k < a.ln
    · rcases r1.grew evC_ne hB with h3 | ⟨o1, hpa, h3⟩
      · omega
      rw [hpa]
      obtain ⟨k0, k1, k2, k3, k4, k5, k6⟩ : AtEv wr a.lb (o1 + k * 7) (a.es k) := AtEv_of (h3 k hlt)
      have HF : Hid (tilE (k + 1) (paF a e) (fun _ => zE) = fun i => if i = k then sameE (a.es k) e.nn else tilE k (paF a e) (fun _ => zE) i) := by
        show _ = _
        rw [← paF_same]; exact (tilE_step k (paF a e) _).symm
      generalize a.es k = x at k0 k1 k2 k3 k4 k5 k6 HF
      clear h3 hpa
      have bV := boxR_new wr 36 #[.int .i64 x.kd, .int .i64 x.sr, .int .i64 x.pi, .int .i64 x.si, .int .i64 x.nn, .int .i64 x.zo, .bool x.be]
      have hbV := below_new2' wr (.cells #[.int .i64 x.kd, .int .i64 x.sr, .int .i64 x.pi, .int .i64 x.si, .int .i64 x.nn, .int .i64 x.zo, .bool x.be] 36)
      have x4 := (x2.grew hb).alloc (.cells #[.int .i64 x.kd, .int .i64 x.sr, .int .i64 x.pi, .int .i64 x.si, .int .i64 x.nn, .int .i64 x.zo, .bool x.be] 36)
      generalize hV : wr.alloc (.cells #[.int .i64 x.kd, .int .i64 x.sr, .int .i64 x.pi, .int .i64 x.si, .int .i64 x.nn, .int .i64 x.zo, .bool x.be] 36) = V at bV hbV x4
      have hB2 := below_app hb hbV hb.size
      have e4 := x4.cell 4
      simp at e4
      have m0 := bV.cell 0
      have m1 := bV.cell 1
      have m2 := bV.cell 2
      have m3 := bV.cell 3
      have m4 := bV.cell 4
      have m5 := bV.cell 5
      have m6 := bV.cell 6
      simp at m0 m1 m2 m3 m4 m5 m6
      have y1 : (0 : Int) ≤ (k : Int) := by omega
      have y2 : (k : Int) < (a.ln : Int) := by omega
      go_wp2_with fail
      refine (withSameN_any x e.nn _).mono ?_
      rintro r w2 ⟨rfl, hb2⟩
      generalize sameE x e.nn = y at HF
      have hr2 := (hb2.block _ (lt_row ((hbV.block _ (lt_row hr.out)).trans hr.out))).trans ((hbV.block _ (lt_row hr.out)).trans hr.out)
      have ht : w2.there W.heap.size (k * 7) 7 := there_row hr2 (by simp [valsE_len evC_len]; omega)
      have hput := row_putE evC_len hr2 k y hlt
      rw [← HF.out] at hput
      have hB3 := below_app hB2 hb2 hB2.size
      have hB4 := below_setCells' (g := W.heap.size) (Nat.le_refl _) (evC y) (k * 7) w2 hB3
      generalize hU : w2.setCells W.heap.size (k * 7) (evC y) = U at hput hB4
      clear m0 m1 m2 m3 m4 m5 m6 k0 k1 k2 k3 k4 k5 k6 e4 hr hr2 hb hbV hB hB2 hB3 hb2 bV x4
      go_wp2_with (refine wpList_store_mid rfl 36 (.tmp 30) (.tmp 29) rfl W.heap.size (k * 7) #[.int .i64 y.kd, .int .i64 y.sr, .int .i64 y.pi, .int .i64 y.si, .int .i64 y.nn, .int .i64 y.zo, .bool y.be] (by first | rfl | simp [Act.eval]) rfl ht (by kernel_rfl) (by simp [Value.oneCell']) ?_; generalize hU2 : w2.setCells W.heap.size (k * 7) _ = U2; obtain rfl : U = U2 := hU.symm.trans hU2)
      have HR2 : Hid (U.heap[W.heap.size]? = some (.cells (valsE evC a.ln (tilE (k + 1) (paF a e) (fun _ => zE))).toArray 36 (0, 0))) := hput
      clear hput
      go_roundw
      case rel => first | exact ⟨k + 1, by omega, by go_num, hB4, HR2⟩ | ((repeat apply Exists.intro); exact ⟨⟨k + 1, by omega, by go_num, hB4, HR2⟩, rfl⟩)
      case measure => simp [intOf]; omega
    · obtain rfl : k = a.ln := by omega
      have hr2 := hr.out
      rw [valsE_congr evC_len (tilE_all (paF a e) (fun _ => zE) (Nat.le_refl a.ln))] at hr2
      have ho := ownE_row evC_len hr2 hsz
      clear hr hr2
      go_wp2
      go_ret
      rw [HN.out]
      first | exact ⟨W.heap.size, _, rfl, hB, ho⟩ | exact ⟨W.heap.size, ⟨_, rfl⟩, hB, ho⟩
end Go.Proofs.Ythemmhocnkpcjas
namespace Go.Proofs.Ythemmhocnkpcjas
open Go.ChangeShapes Go.WideShapes Go.ChangeAt Go.RowKit
set_option maxRecDepth 100000
set_option linter.unusedVariables false
set_option linter.unusedSimpArgs false

/-- what its kind names is right -/
def naA (a : Ac) : Bool :=
  if a.kd = 1 ∨ a.kd = 2 ∨ a.kd = 4 ∨ a.kd = 5 then true else if a.kd = 3 then ib a.nn 1 2147483647 else if a.kd = 6 then aimA a else if a.kd = 7 then ib a.zo 1 4 else if a.kd = 8 then ib a.nn 0 99 else if a.kd = 9 then ib a.ln 1 3 && apL a.ln a.es else false
set_option maxHeartbeats 4000000 in
theorem namedOk_any (a : Ac) (w : World) (hok : a.ok w) (hn : a.ln ≤ 1048577) : Calls Try.prog 70 #[(.agg #[.int .i64 a.kd, .int .i64 a.nn, .int .i64 a.pi, .int .i64 a.si, .int .i64 a.zo, .bool a.be, .slice a.la a.ln a.lcap])] w fun e w' => e = .returned (.bool (naA a)) ∧ Below w.heap.size w w' := by
  obtain ⟨_, _, r1, _⟩ := hok
  have HB := (Below.refl _ w).alloc (Nat.le_refl _) (.cells #[.int .i64 a.kd, .int .i64 a.nn, .int .i64 a.pi, .int .i64 a.si, .int .i64 a.zo, .bool a.be, .slice a.la a.ln a.lcap] 29)
  have bx := boxR_new w 29 #[.int .i64 a.kd, .int .i64 a.nn, .int .i64 a.pi, .int .i64 a.si, .int .i64 a.zo, .bool a.be, .slice a.la a.ln a.lcap]
  generalize hW : w.alloc (.cells #[.int .i64 a.kd, .int .i64 a.nn, .int .i64 a.pi, .int .i64 a.si, .int .i64 a.zo, .bool a.be, .slice a.la a.ln a.lcap] 29) = W at HB bx
  have c0 := bx.cell 0
  have c1 := bx.cell 1
  have c2 := bx.cell 2
  have c3 := bx.cell 3
  have c4 := bx.cell 4
  have c5 := bx.cell 5
  have c6 := bx.cell 6
  simp at c0 c1 c2 c3 c4 c5 c6
  go_enter Try.func70, Try.ntmps70
  have r2 := r1.grew evC_ne HB
  go_wp2_with first | (go_at_call 66; refine (between_any _ _ _ _).mono ?_; rintro e w' ⟨rfl, rfl⟩) | (go_at_call 78; refine (aimOk_any a _).mono ?_; rintro e w2 ⟨rfl, hb2⟩) | (go_at_call 79; refine (partsOk_any a.la a.lb a.ln a.lcap a.es _ hn r2).mono ?_; rintro e w2 ⟨rfl, hb2⟩)
  all_goals go_ret
  all_goals exact ⟨ret_bool' (by unfold naA; first | (simp_all; done) | (simp_all; omega) | (rw [Bool.eq_iff_iff]; simp_all)), by first | exact HB | exact below_app HB hb2 HB.size⟩
theorem okAc_eq (a : Ac) : okAc a = (naA a && nnA (woA a)) := by
  by_cases hx : 1 ≤ a.kd ∧ a.kd ≤ 9
  · have hk : a.kd = 1 ∨ a.kd = 2 ∨ a.kd = 3 ∨ a.kd = 4 ∨ a.kd = 5 ∨ a.kd = 6 ∨ a.kd = 7 ∨ a.kd = 8 ∨ a.kd = 9 := by omega
    rcases hk with h | h | h | h | h | h | h | h | h
    case inr.inr.inr.inr.inr.inl => unfold okAc naA nnA woA plA; simp only [h]; by_cases h1 : a.nn = 0 <;> by_cases h2 : a.zo = 0 <;> by_cases h3 : a.ln = 0 <;> by_cases h4 : a.pi = 0 <;> by_cases h6 : a.si = -1 <;> cases h5 : a.be <;> simp [ac6, aimA, ib, *]
    all_goals (unfold okAc naA nnA woA plA; simp only [h]; simp [ac6, ac7, ac8, ac9, aimA, ib, h])
    all_goals first | (rw [Bool.eq_iff_iff]; simp; done) | (rw [Bool.eq_iff_iff]; simp; omega) | (rw [Bool.eq_iff_iff]; simp; constructor <;> intro hh <;> simp_all <;> omega)
  · have h1 : a.kd ≠ 1 := by omega
    have h2 : a.kd ≠ 2 := by omega
    have h3 : a.kd ≠ 3 := by omega
    have h4 : a.kd ≠ 4 := by omega
    have h5 : a.kd ≠ 5 := by omega
    have h6 : a.kd ≠ 6 := by omega
    have h7 : a.kd ≠ 7 := by omega
    have h8 : a.kd ≠ 8 := by omega
    have h9 : a.kd ≠ 9 := by omega
    unfold okAc naA; simp [h1, h2, h3, h4, h5, h6, h7, h8, h9]
set_option maxHeartbeats 4000000 in
theorem implActOk_any (a : Ac) (w : World) (hok : a.ok w) (hn : a.ln ≤ 1048577) : Calls Try.prog 52 #[(.agg #[.int .i64 a.kd, .int .i64 a.nn, .int .i64 a.pi, .int .i64 a.si, .int .i64 a.zo, .bool a.be, .slice a.la a.ln a.lcap])] w fun e w' => e = .returned (.bool (okAc a)) ∧ Below w.heap.size w w' := by
  rw [okAc_eq]
  have HB := (Below.refl _ w).alloc (Nat.le_refl _) (.cells #[.int .i64 a.kd, .int .i64 a.nn, .int .i64 a.pi, .int .i64 a.si, .int .i64 a.zo, .bool a.be, .slice a.la a.ln a.lcap] 29)
  have bx := boxR_new w 29 #[.int .i64 a.kd, .int .i64 a.nn, .int .i64 a.pi, .int .i64 a.si, .int .i64 a.zo, .bool a.be, .slice a.la a.ln a.lcap]
  generalize hW : w.alloc (.cells #[.int .i64 a.kd, .int .i64 a.nn, .int .i64 a.pi, .int .i64 a.si, .int .i64 a.zo, .bool a.be, .slice a.la a.ln a.lcap] 29) = W at HB bx
  have c0 := bx.cell 0
  have c1 := bx.cell 1
  have c2 := bx.cell 2
  have c3 := bx.cell 3
  have c4 := bx.cell 4
  have c5 := bx.cell 5
  have c6 := bx.cell 6
  simp at c0 c1 c2 c3 c4 c5 c6
  go_enter Try.func52, Try.ntmps52
  have hok2 := act_grew hok HB
  go_wp2_with fail
  refine (namedOk_any a _ hok2 hn).mono ?_
  rintro e w1 ⟨rfl, hb1⟩
  replace bx := bx.grew hb1
  replace HB := below_app HB hb1 HB.size
  clear hW c0 c1 c2 c3 c4 c5 c6 hok2 hb1
  have d0 := bx.cell 0
  have d1 := bx.cell 1
  have d2 := bx.cell 2
  have d3 := bx.cell 3
  have d4 := bx.cell 4
  have d5 := bx.cell 5
  have d6 := bx.cell 6
  simp at d0 d1 d2 d3 d4 d5 d6
  cases hp : naA a
  case false =>
    go_wp2
    go_ret
    exact ⟨ret_bool' (by first | rfl | (simp [hp]; done)), HB⟩
  case true =>
    go_wp2_with fail
    refine (withoutNamed_any a _).mono ?_
    rintro e w2 ⟨rfl, hb2⟩
    obtain ⟨b, hbw⟩ : ∃ b, woA a = b := ⟨_, rfl⟩
    rw [hbw]
    have HW : Hid (woA a = b) := hbw
    clear hbw
    go_wp2_with fail
    refine (namesNothing_any b _).mono ?_
    rintro e w3 ⟨rfl, hb3⟩
    replace HB := below_app HB hb2 HB.size
    go_wp2
    go_ret
    exact ⟨ret_bool' (by simp [hp, HW.out]), below_app HB hb3 HB.size⟩
end Go.Proofs.Ythemmhocnkpcjas
