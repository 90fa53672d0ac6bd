/-
  Chapter 5: two states held against each other: the specification's SameState; the library's Equal at pieces, the program's rowAt, sameSides, SameState. Own work.
-/
import Derived.Test.YtodfdfncdoliiatStEq
import Derived.Test.YtodfdfncdoliiatState5
import Derived.Laws.CopyRow
import Derived.Lib.SlBuf
namespace Go.Proofs.Ytodfdfncdoliiat
open Go.ChangeShapes Go.WideShapes Go.ChangeAt Go.RowKit
set_option maxRecDepth 100000
set_option linter.unusedVariables false
theorem allf_no {n k : Nat} {f : Nat → Bool} (hk : k < n) (h : f k = false) : (List.range n).all f = false := by rw [List.all_eq_false]; exact ⟨k, List.mem_range.2 hk, by simp [h]⟩
theorem allf_yes {n : Nat} {f : Nat → Bool} (h : ∀ k, k < n → f k = true) : (List.range n).all f = true := by rw [List.all_eq_true]; exact fun k hk => h k (List.mem_range.1 hk)
def eqR (n m : Nat) (f g : Nat → Pc) : Bool := decide (n = m) && (List.range n).all (fun i => smP (f i) (g i))
def eqD (n m : Nat) (f g : Nat → Sd) : Bool := decide (n = m) && (List.range n).all (fun i => smD (f i) (g i))
/-- whether two states are the same -/
def smS (s t : Stt) : Bool := decide (s.ac = t.ac) && decide (s.cl = t.cl) && eqD s.sn t.sn s.ss t.ss && eqR s.pn t.pn s.ps t.ps
end Go.Proofs.Ytodfdfncdoliiat
