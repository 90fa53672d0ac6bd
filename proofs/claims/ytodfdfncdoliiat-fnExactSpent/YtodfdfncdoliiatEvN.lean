/-
  Chapter 6: WithN, of the specification and of the program; a law's eqEvent. Written by tools/ev.gen.py. Own work.
-/
import Derived.Test.YtodfdfncdoliiatEvA
import Derived.Test.YtodfdfncdoliiatNum
namespace Go.Proofs.Ytodfdfncdoliiat
open Go.ChangeShapes Go.WideShapes Go.ChangeAt Go.RowKit
set_option maxRecDepth 100000
set_option linter.unusedVariables false
set_option linter.unusedSimpArgs false

/-- it, with so much -/
def wnE (e : Ev) (n : Int) : Ev := ⟨e.kd, e.sr, e.pi, e.si, up n 2147483647, e.zo, e.be⟩
set_option maxHeartbeats 4000000 in
theorem implWithN_any (e : Ev) (n : Int) (w : World) : Calls Try.prog 101 #[(.agg #[.int .i64 e.kd, .int .i64 e.sr, .int .i64 e.pi, .int .i64 e.si, .int .i64 e.nn, .int .i64 e.zo, .bool e.be]), .int .i64 n] w fun r w' => r = .returned (.agg #[.int .i64 (wnE e n).kd, .int .i64 (wnE e n).sr, .int .i64 (wnE e n).pi, .int .i64 (wnE e n).si, .int .i64 (wnE e n).nn, .int .i64 (wnE e n).zo, .bool (wnE e n).be]) ∧ Below w.heap.size w w' := by
  go_enter Try.func101, Try.ntmps101
  go_wp2_with (go_at_call 104; refine (implUpto_b _ _ _).mono ?_; rintro r w' ⟨rfl, rfl⟩)
  (try simp only [Exit.inBlock, Exit.then]); refine bodyPost_ret (results_cell_row rfl _ _ (w.heap.size + 1) _ _ _ _ rfl (heap_alloc2_new _ _ _) Try.underlying43 rfl (by kernel_rfl)) rfl ?_
  exact ⟨rfl, ((Below.refl _ w).alloc (Nat.le_refl _) _).alloc (by simp) _⟩
set_option maxHeartbeats 4000000 in
theorem eqEvent_any (p q : Ev) (w : World) :
    Calls Try.prog 73 #[(.agg #[.int .i64 p.kd, .int .i64 p.sr, .int .i64 p.pi, .int .i64 p.si, .int .i64 p.nn, .int .i64 p.zo, .bool p.be]), (.agg #[.int .i64 q.kd, .int .i64 q.sr, .int .i64 q.pi, .int .i64 q.si, .int .i64 q.nn, .int .i64 q.zo, .bool q.be])] w fun e w' => e = .returned (.bool (smE p q)) ∧ Below w.heap.size w w' := by
  go_enter Try.func73, Try.ntmps73
  go_wp2
  all_goals go_ret
  all_goals refine ⟨ret_bool' ?_, ((Below.refl _ w).alloc (Nat.le_refl _) _).alloc (by simp) _⟩
  all_goals (unfold smE; simp_all)
end Go.Proofs.Ytodfdfncdoliiat
