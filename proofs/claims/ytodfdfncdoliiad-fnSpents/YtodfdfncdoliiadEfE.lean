/-
  Chapter 10: the specification's SameEffect (smEf). Written by tools/ef.gen.py. Own work.
-/
import Derived.Test.YtodfdfncdoliiadGSpA2
import Derived.Test.YtodfdfncdoliiadGStAt2
import Derived.Deep.DeepCutAuto
import Derived.Deep.CutBlock
namespace Go.Proofs.Ytodfdfncdoliiad
open Go.ChangeShapes Go.WideShapes Go.ChangeAt Go.RowKit
set_option maxRecDepth 100000
set_option linter.unusedVariables false
set_option linter.unusedSimpArgs false

/-- whether all of the first n things are the same -/
def smL (n : Nat) (f g : Nat → Ev) : Bool := (List.range n).all (fun i => smE (f i) (g i))
theorem smL_no {n k : Nat} {f g : Nat → Ev} (hk : k < n) (h : smE (f k) (g k) = false) : smL n f g = false := by unfold smL; rw [List.all_eq_false]; exact ⟨k, List.mem_range.2 hk, by simp [h]⟩
theorem smL_yes {n : Nat} {f g : Nat → Ev} (h : ∀ k, k < n → smE (f k) (g k) = true) : smL n f g = true := by unfold smL; rw [List.all_eq_true]; exact fun k hk => h k (List.mem_range.1 hk)
def smH (a b : Ef) : Bool := decide (a.id = b.id) && decide (a.si = b.si) && decide (a.sr = b.sr) && decide (a.cl = b.cl) && smPt a.pt b.pt && smGd a.gd b.gd && decide (a.un = b.un) && decide (a.le = b.le)
def smK (x y : Ac) : Bool := decide (x.kd = y.kd) && decide (x.nn = y.nn) && decide (x.pi = y.pi) && decide (x.si = y.si) && decide (x.zo = y.zo) && decide (x.be = y.be) && decide (x.ln = y.ln)
/-- whether they are the same -/
def smEf (a b : Ef) : Bool := smH a b && smK a.ac b.ac && smL a.ac.ln a.ac.es b.ac.es
end Go.Proofs.Ytodfdfncdoliiad
