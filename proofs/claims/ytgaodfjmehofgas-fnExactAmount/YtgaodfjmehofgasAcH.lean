/-
  Chapter 9: the program's namedOk, ActOk. Written by tools/aci.gen.py. Own work.
-/
import Derived.Test.YtgaodfjmehofgasAcG
namespace Go.Proofs.Ytgaodfjmehofgas
open Go.ChangeShapes Go.WideShapes Go.ChangeAt Go.RowKit
set_option maxRecDepth 100000
set_option linter.unusedVariables false
set_option linter.unusedSimpArgs false

/-- what its kind names is right -/
def naA (a : Ac) : Bool :=
  if a.kd = 1 ∨ a.kd = 2 ∨ a.kd = 4 ∨ a.kd = 5 then true else if a.kd = 3 then ib a.nn 1 2147483647 else if a.kd = 6 then aimA a else if a.kd = 7 then ib a.zo 1 4 else if a.kd = 8 then ib a.nn 0 99 else if a.kd = 9 then ib a.ln 1 3 && apL a.ln a.es else false
theorem okAc_eq (a : Ac) : okAc a = (naA a && nnA (woA a)) := by
  by_cases hx : 1 ≤ a.kd ∧ a.kd ≤ 9
  · have hk : a.kd = 1 ∨ a.kd = 2 ∨ a.kd = 3 ∨ a.kd = 4 ∨ a.kd = 5 ∨ a.kd = 6 ∨ a.kd = 7 ∨ a.kd = 8 ∨ a.kd = 9 := by omega
    rcases hk with h | h | h | h | h | h | h | h | h
    case inr.inr.inr.inr.inr.inl => unfold okAc naA nnA woA plA; simp only [h]; by_cases h1 : a.nn = 0 <;> by_cases h2 : a.zo = 0 <;> by_cases h3 : a.ln = 0 <;> by_cases h4 : a.pi = 0 <;> by_cases h6 : a.si = -1 <;> cases h5 : a.be <;> simp [ac6, aimA, ib, *]
    all_goals (unfold okAc naA nnA woA plA; simp only [h]; simp [ac6, ac7, ac8, ac9, aimA, ib, h])
    all_goals first | (rw [Bool.eq_iff_iff]; simp; done) | (rw [Bool.eq_iff_iff]; simp; omega) | (rw [Bool.eq_iff_iff]; simp; constructor <;> intro hh <;> simp_all <;> omega)
  · have h1 : a.kd ≠ 1 := by omega
    have h2 : a.kd ≠ 2 := by omega
    have h3 : a.kd ≠ 3 := by omega
    have h4 : a.kd ≠ 4 := by omega
    have h5 : a.kd ≠ 5 := by omega
    have h6 : a.kd ≠ 6 := by omega
    have h7 : a.kd ≠ 7 := by omega
    have h8 : a.kd ≠ 8 := by omega
    have h9 : a.kd ≠ 9 := by omega
    unfold okAc naA; simp [h1, h2, h3, h4, h5, h6, h7, h8, h9]
end Go.Proofs.Ytgaodfjmehofgas
