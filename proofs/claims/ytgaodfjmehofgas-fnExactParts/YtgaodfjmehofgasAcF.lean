/-
  Chapter 9: the program's ActFits, Amount, withSameN, partOk, aimOk, namesNothing, withoutNamed. Written by tools/aci.gen.py. Own work.
-/
import Derived.Test.YtgaodfjmehofgasAcC
import Derived.Test.YtgaodfjmehofgasAcD
import Derived.Test.YtgaodfjmehofgasEvD
import Derived.Test.YtgaodfjmehofgasPieceI1
namespace Go.Proofs.Ytgaodfjmehofgas
open Go.ChangeShapes Go.WideShapes Go.ChangeAt Go.RowKit
set_option maxRecDepth 100000
set_option linter.unusedVariables false
set_option linter.unusedSimpArgs false

set_option maxHeartbeats 2000000 in
theorem implAmount_any (a : Ac) (n : Int) (w : World) : Calls Try.prog 10 #[(.agg #[.int .i64 a.kd, .int .i64 a.nn, .int .i64 a.pi, .int .i64 a.si, .int .i64 a.zo, .bool a.be, .slice a.la a.ln a.lcap]), .int .i64 n] w fun e w' => e = .returned (.int .i64 (amA a n)) ∧ Below w.heap.size w w' := by
  have HB := (Below.refl _ w).alloc (Nat.le_refl _) (.cells #[.int .i64 a.kd, .int .i64 a.nn, .int .i64 a.pi, .int .i64 a.si, .int .i64 a.zo, .bool a.be, .slice a.la a.ln a.lcap] 29)
  have bx := boxR_new w 29 #[.int .i64 a.kd, .int .i64 a.nn, .int .i64 a.pi, .int .i64 a.si, .int .i64 a.zo, .bool a.be, .slice a.la a.ln a.lcap]
  generalize hW : w.alloc (.cells #[.int .i64 a.kd, .int .i64 a.nn, .int .i64 a.pi, .int .i64 a.si, .int .i64 a.zo, .bool a.be, .slice a.la a.ln a.lcap] 29) = W at HB bx
  have c0 := bx.cell 0
  have c1 := bx.cell 1
  have c2 := bx.cell 2
  have c3 := bx.cell 3
  have c4 := bx.cell 4
  have c5 := bx.cell 5
  have c6 := bx.cell 6
  simp at c0 c1 c2 c3 c4 c5 c6
  go_enter Try.func10, Try.ntmps10
  go_wp2_with first | (go_at_call 32; refine (implUpto_b _ _ _).mono ?_; rintro e w' ⟨rfl, rfl⟩) | (go_at_call 33; refine (implPlus_b _ _ (Below.refl _ _) (Nat.le_refl _)).mono ?_; rintro e w2 ⟨rfl, hb2, _⟩) | (go_at_call 34; refine (implTwice_b _ (Below.refl _ _) (Nat.le_refl _)).mono ?_; rintro e w2 ⟨rfl, hb2, _⟩) | (go_at_call 35; refine (implHalf_any _ _).mono ?_; rintro e w' ⟨rfl, rfl⟩)
  all_goals go_ret
  all_goals exact ⟨ret_int (by unfold amA; first | (simp_all; done) | (simp_all [hf]; done)), by first | exact HB | exact below_app HB hb2 HB.size⟩
/-- a part with the amount of what is turned into parts -/
def sameE (e : Ev) (n : Int) : Ev := if e.nn = -1 then wnE e n else e
theorem sameE_yes {e : Ev} {n : Int} (h : (e.nn == -1) = true) : sameE e n = wnE e n := by unfold sameE; simp_all
theorem sameE_no {e : Ev} {n : Int} (h : (e.nn == -1) = false) : sameE e n = e := by unfold sameE; simp_all
set_option maxHeartbeats 2000000 in
theorem withSameN_any (x : Ev) (n : Int) (w : World) : Calls Try.prog 36 #[(.agg #[.int .i64 x.kd, .int .i64 x.sr, .int .i64 x.pi, .int .i64 x.si, .int .i64 x.nn, .int .i64 x.zo, .bool x.be]), .int .i64 n] w fun r w' => r = .returned (.agg #[.int .i64 (sameE x n).kd, .int .i64 (sameE x n).sr, .int .i64 (sameE x n).pi, .int .i64 (sameE x n).si, .int .i64 (sameE x n).nn, .int .i64 (sameE x n).zo, .bool (sameE x n).be]) ∧ Below w.heap.size w w' := by
  have hb0 := ((Below.refl _ w).alloc (Nat.le_refl _) (.cells #[.int .i64 x.kd, .int .i64 x.sr, .int .i64 x.pi, .int .i64 x.si, .int .i64 x.nn, .int .i64 x.zo, .bool x.be] 36)).alloc (by simp) (.cells #[.int .i64 0, .int .i64 0, .int .i64 0, .int .i64 0, .int .i64 0, .int .i64 0, .bool false] 36)
  have x1 := (boxR_new w 36 #[.int .i64 x.kd, .int .i64 x.sr, .int .i64 x.pi, .int .i64 x.si, .int .i64 x.nn, .int .i64 x.zo, .bool x.be]).alloc (.cells #[.int .i64 0, .int .i64 0, .int .i64 0, .int .i64 0, .int .i64 0, .int .i64 0, .bool false] 36)
  have x2 : BoxR ((w.alloc (.cells #[.int .i64 x.kd, .int .i64 x.sr, .int .i64 x.pi, .int .i64 x.si, .int .i64 x.nn, .int .i64 x.zo, .bool x.be] 36)).alloc (.cells #[.int .i64 0, .int .i64 0, .int .i64 0, .int .i64 0, .int .i64 0, .int .i64 0, .bool false] 36)) (w.heap.size + 1) 36 #[.int .i64 0, .int .i64 0, .int .i64 0, .int .i64 0, .int .i64 0, .int .i64 0, .bool false] := heap_alloc2_new _ _ _
  generalize hW : (w.alloc (.cells #[.int .i64 x.kd, .int .i64 x.sr, .int .i64 x.pi, .int .i64 x.si, .int .i64 x.nn, .int .i64 x.zo, .bool x.be] 36)).alloc (.cells #[.int .i64 0, .int .i64 0, .int .i64 0, .int .i64 0, .int .i64 0, .int .i64 0, .bool false] 36) = W at hb0 x1 x2
  have c0 := x1.cell 0
  have c1 := x1.cell 1
  have c2 := x1.cell 2
  have c3 := x1.cell 3
  have c4 := x1.cell 4
  have c5 := x1.cell 5
  have c6 := x1.cell 6
  simp at c0 c1 c2 c3 c4 c5 c6
  cases q1 : (x.nn == -1)
  case false =>
    have HP : Hid (sameE x n = x) := sameE_no q1
    have q2 : (x.nn != -1) = true := by rw [bne, q1]; rfl
    go_enter Try.func36, Try.ntmps36
    go_wp2_with (refine wpList_store_row rfl 36 (.tmp 4) _ rfl (w.heap.size + 1) _ (by rfl) (by rfl) _ _ x2 (by kernel_rfl) (by rfl) (by simp [Value.oneCell']) ?_)
    (try simp only [Exit.inBlock, Exit.then]); refine bodyPost_ret (results_cell_row rfl _ _ (w.heap.size + 1) _ _ _ _ rfl (setRow_heap _ _ _ _ _ _ x2) Try.underlying36 rfl (by kernel_rfl)) rfl ?_
    rw [HP.out]
    exact ⟨rfl, below_setRow hb0 (by omega) _⟩
  case true =>
    have HP : Hid (sameE x n = wnE x n) := sameE_yes q1
    have q2 : (x.nn != -1) = false := by rw [bne, q1]; rfl
    go_enter Try.func36, Try.ntmps36
    go_wp2_with fail
    refine (implWithN_any x n _).mono ?_
    rintro r w1 ⟨rfl, hb1⟩
    replace x2 := x2.grew hb1
    have hB := below_app hb0 hb1 hb0.size
    go_wp2_with (refine wpList_store_row rfl 36 (.tmp 4) _ rfl (w.heap.size + 1) _ (by rfl) (by rfl) _ _ x2 (by kernel_rfl) (by rfl) (by simp [Value.oneCell', wnE]) ?_)
    (try simp only [Exit.inBlock, Exit.then]); refine bodyPost_ret (results_cell_row rfl _ _ (w.heap.size + 1) _ _ _ _ rfl (setRow_heap _ _ _ _ _ _ x2) Try.underlying36 rfl (by kernel_rfl)) rfl ?_
    rw [HP.out]
    exact ⟨rfl, below_setRow hB (by omega) _⟩
theorem ptE_move {x : Ev} (h : (x.kd == 2) = true) : ptE x = okE x := by unfold ptE; simp_all
theorem up_none : up 0 2147483647 = 0 := by decide
theorem ptE_rest {x : Ev} (h : (x.kd == 2) = false) : ptE x = okE (sameE x 0) := by
  unfold ptE sameE wnE
  rw [up_none]
  by_cases q : x.nn = -1 <;> simp_all
/-- what an act turns onto is right -/
def aimA (a : Ac) : Bool := bif decide (a.pi = 0) then ib a.si 0 2 else ib a.pi 1 99 && decide (a.si = -1)
/-- whether it names nothing -/
def nnA (a : Ac) : Bool := decide (a.nn = 0) && plA a
/-- what is left when that is taken away which its kind names -/
def woA (a : Ac) : Ac :=
  if a.kd = 8 then { a with be := false, nn := 0 } else if a.kd = 3 then { a with nn := 0 } else if a.kd = 6 then { a with pi := 0, si := -1 } else if a.kd = 7 then { a with zo := 0 } else if a.kd = 9 then { a with la := none, ln := 0, lcap := 0 } else a
end Go.Proofs.Ytgaodfjmehofgas
