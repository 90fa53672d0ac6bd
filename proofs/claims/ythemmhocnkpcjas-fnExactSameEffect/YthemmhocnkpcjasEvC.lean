/-
  Chapter 6: the program's things behind their interface: thingOf, event, thingOk, rightThing, EventOk. Written by tools/ev.gen.py. Own work.
-/
import Derived.Test.YthemmhocnkpcjasEvA
import Derived.Test.YthemmhocnkpcjasPieceI1
namespace Go.Proofs.Ythemmhocnkpcjas
open Go.ChangeShapes Go.WideShapes Go.ChangeAt Go.RowKit
set_option maxRecDepth 100000
set_option linter.unusedVariables false
set_option linter.unusedSimpArgs false

theorem run_as_yes {P : Program} {t xT : TypeId} {fs : Array Field} (hu : P.underlying t = some (.struct fs)) (v : Value) (w : World) : (Instr.typeAssert (.iface t v) xT t true).run P w = .ok (.tuple #[v, .bool true]) w := by
  simp [Instr.typeAssert, run_underlying hu]
theorem run_as_no {P : Program} {t u xT : TypeId} {fs : Array Field} {z : Value} (hu : P.underlying u = some (.struct fs)) (hz : (P.info? u).map (·.zero) = some (some z)) (hne : t ≠ u) (v : Value) (w : World) : (Instr.typeAssert (.iface t v) xT u true).run P w = .ok (.tuple #[z, .bool false]) w := by
  obtain ⟨j, hj, hz'⟩ := Option.map_eq_some_iff.1 hz
  simp [Instr.typeAssert, run_underlying hu, hne, zeroValue, typeInfo, hj, hz']
theorem isIdE_any (x : Int) (w : World) : Calls Try.prog 49 #[.int .i64 x] w fun r w' => r = .returned (.bool (ib x 1 99)) ∧ w' = w := by
  go_enter Try.func49, Try.ntmps49
  go_wp2_with (go_at_call 66; refine (between_any x 1 99 _).mono ?_; rintro r w' ⟨rfl, rfl⟩)
  go_ret
  exact ⟨rfl, rfl⟩
theorem isSide_any (x : Int) (w : World) : Calls Try.prog 67 #[.int .i64 x] w fun r w' => r = .returned (.bool (ib x 0 2)) ∧ w' = w := by
  go_enter Try.func67, Try.ntmps67
  go_wp2_with (go_at_call 66; refine (between_any x 0 2 _).mono ?_; rintro r w' ⟨rfl, rfl⟩)
  go_ret
  exact ⟨rfl, rfl⟩
theorem isAmount_any (x : Int) (w : World) : Calls Try.prog 76 #[.int .i64 x] w fun r w' => r = .returned (.bool (ib x 0 2147483647)) ∧ w' = w := by
  go_enter Try.func76, Try.ntmps76
  go_wp2_with (go_at_call 66; refine (between_any x 0 2147483647 _).mono ?_; rintro r w' ⟨rfl, rfl⟩)
  go_ret
  exact ⟨rfl, rfl⟩
/-- whether a piece may go where it goes -/
def enE (z n : Int) (b : Bool) : Bool := if z = 2 then ib n 0 99 else ib z 1 4 && decide (n = 0) && !b
set_option maxHeartbeats 2000000 in
theorem entryOk_any (p z n : Int) (b : Bool) (w : World) : Calls Try.prog 93 #[.agg #[.int .i64 p, .int .i64 z, .int .i64 n, .bool b]] w fun r w' => r = .returned (.bool (enE z n b)) ∧ Below w.heap.size w w' := by
  go_enter Try.func93, Try.ntmps93
  go_wp2_with (go_at_call 66; refine (between_any _ _ _ _).mono ?_; rintro r w' ⟨rfl, rfl⟩)
  all_goals go_ret
  all_goals refine ⟨ret_bool' ?_, (Below.refl _ w).alloc (Nat.le_refl _) _⟩
  all_goals (unfold enE; simp_all)
end Go.Proofs.Ythemmhocnkpcjas
