/-
  Chapter 4: the program's between, Moved, asPrinted, SamePiece, HasTrait, withCounters, PowerOf, ToughOf, flagNum. Own work.
-/
import Derived.Test.YthemmhocnkpcjasPiece3
import Derived.Test.YthemmhocnkpcjasRegBelow
namespace Go.Proofs.Ythemmhocnkpcjas
open Go.ChangeShapes Go.WideShapes Go.ChangeAt Go.RowKit
set_option maxRecDepth 100000

theorem between_any (x a b : Int) (w : World) : Calls Try.prog 66 #[.int .i64 x, .int .i64 a, .int .i64 b] w fun e w' => e = .returned (.bool (ib x a b)) ∧ w' = w := by
  go_enter Try.func66, Try.ntmps66
  go_wp2
  all_goals go_ret
  all_goals refine ⟨ret_bool' ?_, rfl⟩
  all_goals (unfold ib; simp_all <;> omega)
end Go.Proofs.Ythemmhocnkpcjas
