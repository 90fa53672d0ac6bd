/-
  Chapter 4: the specification's PieceOk: one walk for each test that may be the first to fail. Written by tools/piece.gen.py. eqState; the specification's l5Side, StateOk. Written by tools/state6.gen.py. Own work.
-/
import Derived.Test.YtodfdfncdoliiatPiece2
import Derived.Test.YtodfdfncdoliiatState5
namespace Go.Proofs.Ytodfdfncdoliiat
open Go.ChangeShapes Go.WideShapes Go.ChangeAt Go.RowKit
set_option maxRecDepth 100000

end Go.Proofs.Ytodfdfncdoliiat
namespace Go.Proofs.Ytodfdfncdoliiat
open Go.ChangeShapes Go.WideShapes Go.ChangeAt Go.RowKit
set_option maxRecDepth 100000
set_option linter.unusedVariables false
def okSd (s : Sd) : Bool := ib s.li (-2147483647) 2147483647 && ib s.po 0 2147483647
/-- whether the piece at place i is as chapter 5 wants it -/
def pAt (s : Stt) (i : Nat) : Bool := okP (s.ps i) && (decide (i = 0) || decide ((s.ps (i - 1)).id < (s.ps i).id)) && decide ((s.ps i).ow < s.sn) && decide ((s.ps i).si < s.sn) && decide ((s.ps i).st ≤ s.cl)
def hdS (s : Stt) : Bool := decide (s.pn ≤ 8) && ib s.sn 2 3 && ib s.ac 0 (s.sn - 1) && ib s.cl 0 9999
def psS (s : Stt) : Bool := (List.range s.pn).all (pAt s)
def ssS (s : Stt) : Bool := (List.range s.sn).all (fun i => okSd (s.ss i))
/-- whether a state is as chapter 5 wants it -/
def okS (s : Stt) : Bool := hdS s && psS s && ssS s
theorem all_no {n k : Nat} {f : Nat → Bool} (hk : k < n) (h : f k = false) : (List.range n).all f = false := by rw [List.all_eq_false]; exact ⟨k, List.mem_range.2 hk, by simp [h]⟩
theorem all_yes {n : Nat} {f : Nat → Bool} (h : ∀ k, k < n → f k = true) : (List.range n).all f = true := by rw [List.all_eq_true]; exact fun k hk => h k (List.mem_range.1 hk)

theorem okS_hd {s : Stt} (h : hdS s = false) : okS s = false := by unfold okS; rw [h]; rfl
end Go.Proofs.Ytodfdfncdoliiat
