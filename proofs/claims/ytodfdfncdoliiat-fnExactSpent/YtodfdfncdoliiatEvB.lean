/-
  Chapter 6: the specification's EventOk, going on. Written by tools/ev.gen.py. Own work.
-/
import Derived.Test.YtodfdfncdoliiatEvB1
import Derived.Test.YtodfdfncdoliiatEvB2
namespace Go.Proofs.Ytodfdfncdoliiat
open Go.ChangeShapes Go.WideShapes Go.ChangeAt Go.RowKit
set_option maxRecDepth 100000
set_option linter.unusedVariables false
set_option linter.unusedSimpArgs false

set_option maxHeartbeats 4000000 in
theorem eok_3 (e : Ev) (w : World) (hk : e.kd = 3) :
    Calls Try.prog 84 #[(.agg #[.int .i64 e.kd, .int .i64 e.sr, .int .i64 e.pi, .int .i64 e.si, .int .i64 e.nn, .int .i64 e.zo, .bool e.be])] w fun r w' => r = .returned (.bool (okE e)) ∧ Below w.heap.size w w' := by
  go_enter Try.func84, Try.ntmps84
  try simp only [List.append_eq, List.cons_append, List.nil_append]
  go_wp2_with (go_at_call 60; refine (l1In_any _ _ _ _).mono ?_; rintro r w' ⟨rfl, rfl⟩)
  all_goals go_ret
  all_goals refine ⟨ret_bool' ?_, (Below.refl _ w).alloc (Nat.le_refl _) _⟩
  all_goals (unfold okE; unfold ok3 sdE; simp_all)
set_option maxHeartbeats 4000000 in
theorem eok_4 (e : Ev) (w : World) (hk : e.kd = 4) :
    Calls Try.prog 84 #[(.agg #[.int .i64 e.kd, .int .i64 e.sr, .int .i64 e.pi, .int .i64 e.si, .int .i64 e.nn, .int .i64 e.zo, .bool e.be])] w fun r w' => r = .returned (.bool (okE e)) ∧ Below w.heap.size w w' := by
  go_enter Try.func84, Try.ntmps84
  try simp only [List.append_eq, List.cons_append, List.nil_append]
  go_wp2_with (go_at_call 60; refine (l1In_any _ _ _ _).mono ?_; rintro r w' ⟨rfl, rfl⟩)
  all_goals go_ret
  all_goals refine ⟨ret_bool' ?_, (Below.refl _ w).alloc (Nat.le_refl _) _⟩
  all_goals (unfold okE; unfold ok3 sdE; simp_all)
set_option maxHeartbeats 4000000 in
theorem eok_5 (e : Ev) (w : World) (hk : e.kd = 5) :
    Calls Try.prog 84 #[(.agg #[.int .i64 e.kd, .int .i64 e.sr, .int .i64 e.pi, .int .i64 e.si, .int .i64 e.nn, .int .i64 e.zo, .bool e.be])] w fun r w' => r = .returned (.bool (okE e)) ∧ Below w.heap.size w w' := by
  go_enter Try.func84, Try.ntmps84
  try simp only [List.append_eq, List.cons_append, List.nil_append]
  go_wp2_with (go_at_call 60; refine (l1In_any _ _ _ _).mono ?_; rintro r w' ⟨rfl, rfl⟩)
  all_goals go_ret
  all_goals refine ⟨ret_bool' ?_, (Below.refl _ w).alloc (Nat.le_refl _) _⟩
  all_goals (unfold okE; unfold ok5 pcE; simp_all)
set_option maxHeartbeats 4000000 in
theorem eok_6 (e : Ev) (w : World) (hk : e.kd = 6) :
    Calls Try.prog 84 #[(.agg #[.int .i64 e.kd, .int .i64 e.sr, .int .i64 e.pi, .int .i64 e.si, .int .i64 e.nn, .int .i64 e.zo, .bool e.be])] w fun r w' => r = .returned (.bool (okE e)) ∧ Below w.heap.size w w' := by
  go_enter Try.func84, Try.ntmps84
  try simp only [List.append_eq, List.cons_append, List.nil_append]
  go_wp2_with (go_at_call 60; refine (l1In_any _ _ _ _).mono ?_; rintro r w' ⟨rfl, rfl⟩)
  all_goals go_ret
  all_goals refine ⟨ret_bool' ?_, (Below.refl _ w).alloc (Nat.le_refl _) _⟩
  all_goals (unfold okE; unfold ok5 pcE; simp_all)
set_option maxHeartbeats 4000000 in
theorem eok_0 (e : Ev) (w : World) (h1 : ¬ e.kd = 1) (h2 : ¬ e.kd = 2) (h3 : ¬ e.kd = 3) (h4 : ¬ e.kd = 4) (h5 : ¬ e.kd = 5) (h6 : ¬ e.kd = 6) :
    Calls Try.prog 84 #[(.agg #[.int .i64 e.kd, .int .i64 e.sr, .int .i64 e.pi, .int .i64 e.si, .int .i64 e.nn, .int .i64 e.zo, .bool e.be])] w fun r w' => r = .returned (.bool (okE e)) ∧ Below w.heap.size w w' := by
  go_enter Try.func84, Try.ntmps84
  try simp only [List.append_eq, List.cons_append, List.nil_append]
  go_wp2_with (go_at_call 60; refine (l1In_any _ _ _ _).mono ?_; rintro r w' ⟨rfl, rfl⟩)
  all_goals go_ret
  all_goals refine ⟨ret_bool' ?_, (Below.refl _ w).alloc (Nat.le_refl _) _⟩
  all_goals (unfold okE; skip; simp_all)
theorem specEventOk_any (e : Ev) (w : World) :
    Calls Try.prog 84 #[(.agg #[.int .i64 e.kd, .int .i64 e.sr, .int .i64 e.pi, .int .i64 e.si, .int .i64 e.nn, .int .i64 e.zo, .bool e.be])] w fun r w' => r = .returned (.bool (okE e)) ∧ Below w.heap.size w w' := by
  by_cases h1 : e.kd = 1
  · exact eok_1 e w h1
  by_cases h2 : e.kd = 2
  · exact eok_2 e w h2
  by_cases h3 : e.kd = 3
  · exact eok_3 e w h3
  by_cases h4 : e.kd = 4
  · exact eok_4 e w h4
  by_cases h5 : e.kd = 5
  · exact eok_5 e w h5
  by_cases h6 : e.kd = 6
  · exact eok_6 e w h6
  exact eok_0 e w h1 h2 h3 h4 h5 h6
end Go.Proofs.Ytodfdfncdoliiat
