/-
  Chapter 8: the specification's GuardOk (okGd), Stronger (srG). Written by tools/gu.gen.py. Own work.
-/
import Derived.Test.YtodfdfncdoliiatGuA
namespace Go.Proofs.Ytodfdfncdoliiat
open Go.ChangeShapes Go.WideShapes Go.ChangeAt Go.RowKit
set_option maxRecDepth 100000
set_option linter.unusedVariables false
set_option linter.unusedSimpArgs false

/-- whether a guard may be asked -/
def okGd (g : Gd) : Bool := bif decide (g.kd = 0) || decide (g.kd = 3) then decide (g.nn = 0) else bif decide (g.kd = 1) then ib g.nn (-2147483647) 2147483647 else (decide (g.kd = 2) || decide (g.kd = 4)) && ib g.nn 0 8
/-- whether the one holds wherever the other does -/
def srG (g h : Gd) : Bool := okGd g && okGd h && (decide (h.kd = 0) || (decide (g.kd = h.kd) && (bif decide (g.kd = 1) then decide (g.nn ≤ h.nn) else decide (h.nn ≤ g.nn))))
set_option maxHeartbeats 2000000 in
theorem sgk_0 (nn : Int) (w : World) : Calls Try.prog 62 #[(.agg #[.int .i64 0, .int .i64 nn])] w fun e w' => e = .returned (.bool (okGd (⟨0, nn⟩ : Gd))) ∧ Below w.heap.size w w' := by
  go_enter Try.func62, Try.ntmps62
  go_wp2_with (go_at_call 60; refine (l1In_any _ _ _ _).mono ?_; rintro e w' ⟨rfl, rfl⟩)
  all_goals go_ret
  all_goals exact ⟨ret_bool' (by unfold okGd; first | (simp_all; done) | (simp_all <;> (rw [Bool.eq_iff_iff]; simp))), (Below.refl _ w).alloc (Nat.le_refl _) _⟩

set_option maxHeartbeats 2000000 in
theorem sgk_1 (nn : Int) (w : World) : Calls Try.prog 62 #[(.agg #[.int .i64 1, .int .i64 nn])] w fun e w' => e = .returned (.bool (okGd (⟨1, nn⟩ : Gd))) ∧ Below w.heap.size w w' := by
  go_enter Try.func62, Try.ntmps62
  go_wp2_with (go_at_call 60; refine (l1In_any _ _ _ _).mono ?_; rintro e w' ⟨rfl, rfl⟩)
  all_goals go_ret
  all_goals exact ⟨ret_bool' (by unfold okGd; first | (simp_all; done) | (simp_all <;> (rw [Bool.eq_iff_iff]; simp))), (Below.refl _ w).alloc (Nat.le_refl _) _⟩

set_option maxHeartbeats 2000000 in
theorem sgk_2 (nn : Int) (w : World) : Calls Try.prog 62 #[(.agg #[.int .i64 2, .int .i64 nn])] w fun e w' => e = .returned (.bool (okGd (⟨2, nn⟩ : Gd))) ∧ Below w.heap.size w w' := by
  go_enter Try.func62, Try.ntmps62
  go_wp2_with (go_at_call 60; refine (l1In_any _ _ _ _).mono ?_; rintro e w' ⟨rfl, rfl⟩)
  all_goals go_ret
  all_goals exact ⟨ret_bool' (by unfold okGd; first | (simp_all; done) | (simp_all <;> (rw [Bool.eq_iff_iff]; simp))), (Below.refl _ w).alloc (Nat.le_refl _) _⟩

set_option maxHeartbeats 2000000 in
theorem sgk_3 (nn : Int) (w : World) : Calls Try.prog 62 #[(.agg #[.int .i64 3, .int .i64 nn])] w fun e w' => e = .returned (.bool (okGd (⟨3, nn⟩ : Gd))) ∧ Below w.heap.size w w' := by
  go_enter Try.func62, Try.ntmps62
  go_wp2_with (go_at_call 60; refine (l1In_any _ _ _ _).mono ?_; rintro e w' ⟨rfl, rfl⟩)
  all_goals go_ret
  all_goals exact ⟨ret_bool' (by unfold okGd; first | (simp_all; done) | (simp_all <;> (rw [Bool.eq_iff_iff]; simp))), (Below.refl _ w).alloc (Nat.le_refl _) _⟩

set_option maxHeartbeats 2000000 in
theorem sgk_4 (nn : Int) (w : World) : Calls Try.prog 62 #[(.agg #[.int .i64 4, .int .i64 nn])] w fun e w' => e = .returned (.bool (okGd (⟨4, nn⟩ : Gd))) ∧ Below w.heap.size w w' := by
  go_enter Try.func62, Try.ntmps62
  go_wp2_with (go_at_call 60; refine (l1In_any _ _ _ _).mono ?_; rintro e w' ⟨rfl, rfl⟩)
  all_goals go_ret
  all_goals exact ⟨ret_bool' (by unfold okGd; first | (simp_all; done) | (simp_all <;> (rw [Bool.eq_iff_iff]; simp))), (Below.refl _ w).alloc (Nat.le_refl _) _⟩

set_option maxHeartbeats 2000000 in
theorem sgk_x (g : Gd) (w : World) (h0 : (g.kd == 0) = false) (h1 : (g.kd == 1) = false) (h2 : (g.kd == 2) = false) (h3 : (g.kd == 3) = false) (h4 : (g.kd == 4) = false) : Calls Try.prog 62 #[(.agg #[.int .i64 g.kd, .int .i64 g.nn])] w fun e w' => e = .returned (.bool (okGd g)) ∧ Below w.heap.size w w' := by
  go_enter Try.func62, Try.ntmps62
  go_wp2_with (go_at_call 60; refine (l1In_any _ _ _ _).mono ?_; rintro e w' ⟨rfl, rfl⟩)
  all_goals go_ret
  all_goals exact ⟨ret_bool' (by unfold okGd; first | (simp_all; done) | (simp_all <;> (rw [Bool.eq_iff_iff]; simp))), (Below.refl _ w).alloc (Nat.le_refl _) _⟩

theorem specGuardOk_any (g : Gd) (w : World) : Calls Try.prog 62 #[(.agg #[.int .i64 g.kd, .int .i64 g.nn])] w fun e w' => e = .returned (.bool (okGd g)) ∧ Below w.heap.size w w' := by
  cases h0 : (g.kd == 0)
  case true =>
    obtain ⟨kd, nn⟩ := g
    have e : kd = 0 := by simpa using h0
    subst e
    exact sgk_0 nn w
  cases h1 : (g.kd == 1)
  case true =>
    obtain ⟨kd, nn⟩ := g
    have e : kd = 1 := by simpa using h1
    subst e
    exact sgk_1 nn w
  cases h2 : (g.kd == 2)
  case true =>
    obtain ⟨kd, nn⟩ := g
    have e : kd = 2 := by simpa using h2
    subst e
    exact sgk_2 nn w
  cases h3 : (g.kd == 3)
  case true =>
    obtain ⟨kd, nn⟩ := g
    have e : kd = 3 := by simpa using h3
    subst e
    exact sgk_3 nn w
  cases h4 : (g.kd == 4)
  case true =>
    obtain ⟨kd, nn⟩ := g
    have e : kd = 4 := by simpa using h4
    subst e
    exact sgk_4 nn w
  exact sgk_x g w h0 h1 h2 h3 h4
end Go.Proofs.Ytodfdfncdoliiat
