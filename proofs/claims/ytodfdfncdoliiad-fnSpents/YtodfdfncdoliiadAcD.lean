/-
  Chapter 9: the specification's ActOk (okAc). Written by tools/ac.gen.py. Own work.
-/
import Derived.Test.YtodfdfncdoliiadGFrE7
namespace Go.Proofs.Ytodfdfncdoliiad
open Go.ChangeShapes Go.WideShapes Go.ChangeAt Go.RowKit
set_option maxRecDepth 100000
set_option linter.unusedVariables false
set_option linter.unusedSimpArgs false

/-- whether each of the first n parts is right -/
def apL (n : Nat) (f : Nat → Ev) : Bool := (List.range n).all (fun i => ptE (f i))
theorem apL_no {n k : Nat} {f : Nat → Ev} (hk : k < n) (h : ptE (f k) = false) : apL n f = false := by unfold apL; rw [List.all_eq_false]; exact ⟨k, List.mem_range.2 hk, by simp [h]⟩
theorem apL_yes {n : Nat} {f : Nat → Ev} (h : ∀ k, k < n → ptE (f k) = true) : apL n f = true := by unfold apL; rw [List.all_eq_true]; exact fun k hk => h k (List.mem_range.1 hk)
def ac6 (a : Ac) : Bool := decide (a.nn = 0) && decide (a.zo = 0) && !a.be && decide (a.ln = 0) && ((ib a.pi 1 99 && decide (a.si = -1)) || (decide (a.pi = 0) && ib a.si 0 2))
def ac7 (a : Ac) : Bool := decide (a.nn = 0) && decide (a.pi = 0) && decide (a.si = -1) && !a.be && decide (a.ln = 0) && ib a.zo 1 4
def ac8 (a : Ac) : Bool := ib a.nn 0 99 && decide (a.pi = 0) && decide (a.si = -1) && decide (a.zo = 0) && decide (a.ln = 0)
def ac9 (a : Ac) : Bool := decide (a.nn = 0) && decide (a.pi = 0) && decide (a.si = -1) && decide (a.zo = 0) && !a.be && ib a.ln 1 3
/-- whether an act may be -/
def okAc (a : Ac) : Bool :=
  if a.kd = 1 ∨ a.kd = 2 ∨ a.kd = 4 ∨ a.kd = 5 then plA a && decide (a.nn = 0)
  else if a.kd = 3 then plA a && ib a.nn 1 2147483647
  else if a.kd = 6 then ac6 a else if a.kd = 7 then ac7 a else if a.kd = 8 then ac8 a
  else if a.kd = 9 then apL a.ln a.es && ac9 a else false
end Go.Proofs.Ytodfdfncdoliiad
