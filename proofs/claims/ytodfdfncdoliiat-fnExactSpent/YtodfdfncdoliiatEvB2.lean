/-
  Chapter 6: the specification's EventOk, going on. Written by tools/ev.gen.py. Own work.
-/
import Derived.Test.YtodfdfncdoliiatEvW
namespace Go.Proofs.Ytodfdfncdoliiat
open Go.ChangeShapes Go.WideShapes Go.ChangeAt Go.RowKit
set_option maxRecDepth 100000
set_option linter.unusedVariables false
set_option linter.unusedSimpArgs false

set_option maxHeartbeats 4000000 in
theorem eok_2 (e : Ev) (w : World) (hk : e.kd = 2) :
    Calls Try.prog 84 #[(.agg #[.int .i64 e.kd, .int .i64 e.sr, .int .i64 e.pi, .int .i64 e.si, .int .i64 e.nn, .int .i64 e.zo, .bool e.be])] w fun r w' => r = .returned (.bool (okE e)) ∧ Below w.heap.size w w' := by
  go_enter Try.func84, Try.ntmps84
  try simp only [List.append_eq, List.cons_append, List.nil_append]
  go_wp2_with (go_at_call 60; refine (l1In_any _ _ _ _).mono ?_; rintro r w' ⟨rfl, rfl⟩)
  all_goals go_ret
  all_goals refine ⟨ret_bool' ?_, (Below.refl _ w).alloc (Nat.le_refl _) _⟩
  all_goals (unfold okE; unfold ok2 pcE; simp_all <;> (intro; omega))
end Go.Proofs.Ytodfdfncdoliiat
