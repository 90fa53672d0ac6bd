/-
  Chapter 9: the specification's l9Part, l9Plain, ActFits (fiA), Amount (amA). Written by tools/ac.gen.py. Own work.
-/
import Derived.Test.YtodfdfncdoliiatAcA
import Derived.Test.YtodfdfncdoliiatEvB
import Derived.Test.YtodfdfncdoliiatNum
namespace Go.Proofs.Ytodfdfncdoliiat
open Go.ChangeShapes Go.WideShapes Go.ChangeAt Go.RowKit
set_option maxRecDepth 100000
set_option linter.unusedVariables false
set_option linter.unusedSimpArgs false

/-- whether a part is right: as it stands, or with another amount -/
def ptE (e : Ev) : Bool := okE (bif decide (e.nn = -1) && !decide (e.kd = 2) then { e with nn := 0 } else e)
/-- whether an act names nothing but its kind, and perhaps an amount -/
def plA (a : Ac) : Bool := decide (a.pi = 0) && decide (a.si = -1) && decide (a.zo = 0) && !a.be && decide (a.ln = 0)
def fiA (a : Ac) (k : Int) : Bool := ib k 1 6 && (bif decide (a.kd = 2) || decide (a.kd = 6) then decide (k = 1) else bif decide (a.kd = 3) || decide (a.kd = 4) || decide (a.kd = 5) then !decide (k = 2) else bif decide (a.kd = 7) || decide (a.kd = 8) then decide (k = 2) else decide (a.kd = 1) || decide (a.kd = 9))
def amA (a : Ac) (n : Int) : Int := if a.kd = 1 then 0 else if a.kd = 3 then pl (up n 2147483647) a.nn else if a.kd = 4 then tw (up n 2147483647) else if a.kd = 5 then hf (up n 2147483647) else up n 2147483647
set_option maxHeartbeats 2000000 in
theorem l9Plain_any (a : Ac) (w : World) (hn : a.ln ≤ 1048577) : Calls Try.prog 74 #[(.agg #[.int .i64 a.kd, .int .i64 a.nn, .int .i64 a.pi, .int .i64 a.si, .int .i64 a.zo, .bool a.be, .slice a.la a.ln a.lcap])] w fun e w' => e = .returned (.bool (plA a)) ∧ Below w.heap.size w w' := by
  have HB := (Below.refl _ w).alloc (Nat.le_refl _) (.cells #[.int .i64 a.kd, .int .i64 a.nn, .int .i64 a.pi, .int .i64 a.si, .int .i64 a.zo, .bool a.be, .slice a.la a.ln a.lcap] 39)
  have bx := boxR_new w 39 #[.int .i64 a.kd, .int .i64 a.nn, .int .i64 a.pi, .int .i64 a.si, .int .i64 a.zo, .bool a.be, .slice a.la a.ln a.lcap]
  generalize hW : w.alloc (.cells #[.int .i64 a.kd, .int .i64 a.nn, .int .i64 a.pi, .int .i64 a.si, .int .i64 a.zo, .bool a.be, .slice a.la a.ln a.lcap] 39) = W at HB bx
  have c0 := bx.cell 0
  have c1 := bx.cell 1
  have c2 := bx.cell 2
  have c3 := bx.cell 3
  have c4 := bx.cell 4
  have c5 := bx.cell 5
  have c6 := bx.cell 6
  simp at c0 c1 c2 c3 c4 c5 c6
  go_enter Try.func74, Try.ntmps74
  go_wp2
  all_goals go_ret
  all_goals exact ⟨ret_bool' (by unfold plA; first | (simp_all; done) | (simp_all; omega) | (rw [Bool.eq_iff_iff]; simp_all)), HB⟩
set_option maxHeartbeats 2000000 in
theorem specActFits_any (a : Ac) (k : Int) (w : World) : Calls Try.prog 64 #[(.agg #[.int .i64 a.kd, .int .i64 a.nn, .int .i64 a.pi, .int .i64 a.si, .int .i64 a.zo, .bool a.be, .slice a.la a.ln a.lcap]), .int .i64 k] w fun e w' => e = .returned (.bool (fiA a k)) ∧ Below w.heap.size w w' := by
  have HB := (Below.refl _ w).alloc (Nat.le_refl _) (.cells #[.int .i64 a.kd, .int .i64 a.nn, .int .i64 a.pi, .int .i64 a.si, .int .i64 a.zo, .bool a.be, .slice a.la a.ln a.lcap] 39)
  have bx := boxR_new w 39 #[.int .i64 a.kd, .int .i64 a.nn, .int .i64 a.pi, .int .i64 a.si, .int .i64 a.zo, .bool a.be, .slice a.la a.ln a.lcap]
  generalize hW : w.alloc (.cells #[.int .i64 a.kd, .int .i64 a.nn, .int .i64 a.pi, .int .i64 a.si, .int .i64 a.zo, .bool a.be, .slice a.la a.ln a.lcap] 39) = W at HB bx
  have c0 := bx.cell 0
  have c1 := bx.cell 1
  have c2 := bx.cell 2
  have c3 := bx.cell 3
  have c4 := bx.cell 4
  have c5 := bx.cell 5
  have c6 := bx.cell 6
  simp at c0 c1 c2 c3 c4 c5 c6
  go_enter Try.func64, Try.ntmps64
  go_wp2_with (go_at_call 60; refine (l1In_any _ _ _ _).mono ?_; rintro e w' ⟨rfl, rfl⟩)
  all_goals go_ret
  all_goals exact ⟨ret_bool' (by unfold fiA; first | (simp_all; done) | (rw [Bool.eq_iff_iff]; simp_all)), HB⟩
set_option maxHeartbeats 2000000 in
theorem l9Part_any (e : Ev) (w : World) : Calls Try.prog 75 #[(.agg #[.int .i64 e.kd, .int .i64 e.sr, .int .i64 e.pi, .int .i64 e.si, .int .i64 e.nn, .int .i64 e.zo, .bool e.be])] w fun r w' => r = .returned (.bool (ptE e)) ∧ Below w.heap.size w w' := by
  have HB := (Below.refl _ w).alloc (Nat.le_refl _) (.cells #[.int .i64 e.kd, .int .i64 e.sr, .int .i64 e.pi, .int .i64 e.si, .int .i64 e.nn, .int .i64 e.zo, .bool e.be] 43)
  have bx := boxR_new w 43 #[.int .i64 e.kd, .int .i64 e.sr, .int .i64 e.pi, .int .i64 e.si, .int .i64 e.nn, .int .i64 e.zo, .bool e.be]
  generalize hW : w.alloc (.cells #[.int .i64 e.kd, .int .i64 e.sr, .int .i64 e.pi, .int .i64 e.si, .int .i64 e.nn, .int .i64 e.zo, .bool e.be] 43) = W at HB bx
  have c0 := bx.cell 0
  have c1 := bx.cell 1
  have c2 := bx.cell 2
  have c3 := bx.cell 3
  have c4 := bx.cell 4
  have c5 := bx.cell 5
  have c6 := bx.cell 6
  simp at c0 c1 c2 c3 c4 c5 c6
  have f4 := bx.froz 4
  have by_ := bx.put 4 (.int .i64 0)
  have hb4 := HB.setCell (p := ⟨w.heap.size, 4, none⟩) (Nat.le_refl _) (.int .i64 0)
  generalize hV : W.setCell ⟨w.heap.size, 4, none⟩ (.int .i64 0) = V at by_ hb4
  have d0 := by_.cell 0
  have d1 := by_.cell 1
  have d2 := by_.cell 2
  have d3 := by_.cell 3
  have d4 := by_.cell 4
  have d5 := by_.cell 5
  have d6 := by_.cell 6
  simp at d0 d1 d2 d3 d4 d5 d6
  cases q1 : (e.nn == -1)
  case false =>
    have HP : Hid (ptE e = okE e) := by
      show ptE e = okE e
      unfold ptE
      simp_all
    clear hV d0 d1 d2 d3 d4 d5 d6 by_ hb4
    go_enter Try.func75, Try.ntmps75
    go_wp2_with fail
    refine (specEventOk_any e _).mono ?_
    rintro r w1 ⟨rfl, hb1⟩
    go_wp2
    go_ret
    exact ⟨ret_bool' HP.out.symm, below_app HB hb1 HB.size⟩
  case true =>
    cases q2 : (e.kd == 2)
    case true =>
      have q3 : (e.kd != 2) = false := by rw [bne, q2]; rfl
      have HP : Hid (ptE e = okE e) := by
        show ptE e = okE e
        unfold ptE
        simp_all
      clear hV d0 d1 d2 d3 d4 d5 d6 by_ hb4
      go_enter Try.func75, Try.ntmps75
      go_wp2_with fail
      refine (specEventOk_any e _).mono ?_
      rintro r w1 ⟨rfl, hb1⟩
      go_wp2
      go_ret
      exact ⟨ret_bool' HP.out.symm, below_app HB hb1 HB.size⟩
    case false =>
      have q3 : (e.kd != 2) = true := by rw [bne, q2]; rfl
      have HP : Hid (ptE e = okE { e with nn := 0 }) := by
        show ptE e = okE _
        unfold ptE
        simp_all
      go_enter Try.func75, Try.ntmps75
      go_wp2_with fail
      refine (specEventOk_any { e with nn := 0 } _).mono ?_
      rintro r w1 ⟨rfl, hb1⟩
      go_wp2
      go_ret
      exact ⟨ret_bool' HP.out.symm, below_app hb4 hb1 hb4.size⟩
end Go.Proofs.Ytodfdfncdoliiat
