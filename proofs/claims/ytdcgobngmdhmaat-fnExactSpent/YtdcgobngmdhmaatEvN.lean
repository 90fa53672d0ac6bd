/-
  Chapter 6: WithN, of the specification and of the program; a law's eqEvent. Written by tools/ev.gen.py. Own work.
-/
import Derived.Test.YtdcgobngmdhmaatEvA
import Derived.Test.YtdcgobngmdhmaatNum
namespace Go.Proofs.Ytdcgobngmdhmaat
open Go.ChangeShapes Go.WideShapes Go.ChangeAt Go.RowKit
set_option maxRecDepth 100000
set_option linter.unusedVariables false
set_option linter.unusedSimpArgs false

/-- it, with so much -/
def wnE (e : Ev) (n : Int) : Ev := ⟨e.kd, e.sr, e.pi, e.si, up n 2147483647, e.zo, e.be⟩
set_option maxHeartbeats 4000000 in
theorem eqEvent_any (p q : Ev) (w : World) :
    Calls Try.prog 40 #[(.agg #[.int .i64 p.kd, .int .i64 p.sr, .int .i64 p.pi, .int .i64 p.si, .int .i64 p.nn, .int .i64 p.zo, .bool p.be]), (.agg #[.int .i64 q.kd, .int .i64 q.sr, .int .i64 q.pi, .int .i64 q.si, .int .i64 q.nn, .int .i64 q.zo, .bool q.be])] w fun e w' => e = .returned (.bool (smE p q)) ∧ Below w.heap.size w w' := by
  go_enter Try.func40, Try.ntmps40
  go_wp2
  all_goals go_ret
  all_goals refine ⟨ret_bool' ?_, ((Below.refl _ w).alloc (Nat.le_refl _) _).alloc (by simp) _⟩
  all_goals (unfold smE; simp_all)
end Go.Proofs.Ytdcgobngmdhmaat
