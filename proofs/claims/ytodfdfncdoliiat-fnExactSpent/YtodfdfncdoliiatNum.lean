/-
  Contracts of chapter 1's sums (Bound, Plus, Less, Twice, Half, Upto, and the program's inner sum) over this seat's translation: what each answers, for every argument, and that the world holds at most new blocks behind it. Own work.
-/
import Derived.Test.YtodfdfncdoliiatRows
import Derived.WalkKit
import Derived.ProofKit
import Derived.OpenShut
namespace Go.Proofs.Ytodfdfncdoliiat
open Go.ChangeShapes Go.WideShapes Go.ChangeAt Go.RowKit
set_option maxRecDepth 100000

def bnd (n : Int) : Int := if 2147483647 < n then 2147483647 else if n < -2147483647 then -2147483647 else n
theorem bnd_rng (n : Int) : -2147483647 ≤ bnd n ∧ bnd n ≤ 2147483647 := by
  unfold bnd; split
  · omega
  · split <;> omega
theorem ret_int {k : IntKind} {a b : Int} (h : a = b) : Ending.returned (.int k a) = .returned (.int k b) := by rw [h]

theorem specBound_any (n : Int) (w : World) :
    Calls Try.prog 54 #[.int .i64 n] w fun e w' => e = .returned (.int .i64 (bnd n)) ∧ w' = w := by
  go_enter Try.func54, Try.ntmps54
  go_wp2
  all_goals go_ret
  all_goals refine ⟨ret_int ?_, rfl⟩
  all_goals (unfold bnd; (try split) <;> (try split) <;> omega)

theorem implBound_any (n : Int) (w : World) :
    Calls Try.prog 56 #[.int .i64 n] w fun e w' => e = .returned (.int .i64 (bnd n)) ∧ w' = w := by
  go_enter Try.func56, Try.ntmps56
  go_wp2
  all_goals go_ret
  all_goals refine ⟨ret_int ?_, rfl⟩
  all_goals (unfold bnd; (repeat' split) <;> omega)

set_option maxHeartbeats 400000 in
theorem sum2_any (bk off : Nat) (a b : Int) (w : World) (h0 : w.cell? ⟨bk, off, none⟩ = some (.int .i64 a)) (h1 : w.cell? ⟨bk, off + 1, none⟩ = some (.int .i64 b)) :
    Calls Try.prog 55 #[.slice (some ⟨bk, off, none⟩) 2 2] w fun e w' => e = .returned (.int .i64 (bnd (bnd a + bnd b))) ∧ w' = w := by
  have ra := bnd_rng a
  have rb := bnd_rng b
  go_enter Try.func55, Try.ntmps55
  go_wp2
  go_loop [3, 8] (fun t i => (i = .int .i64 0 ∧ t = .int .i64 0) ∨ (i = .int .i64 1 ∧ t = .int .i64 (bnd a)) ∨ (i = .int .i64 2 ∧ t = .int .i64 (bnd a + bnd b))) (fun _ i => 2 - (intOf i).toNat)
  case atStart => exact .inl ⟨rfl, rfl⟩
  case round =>
    rcases hrel with ⟨rfl, rfl⟩ | ⟨rfl, rfl⟩ | ⟨rfl, rfl⟩
    · go_wp2_with (go_at_call 56; refine (implBound_any _ _).mono ?_; rintro e w' ⟨rfl, rfl⟩)
      go_round
      case rel => exact .inr (.inl ⟨rfl, by go_num⟩)
      case measure => simp [intOf]
    · go_wp2_with (go_at_call 56; refine (implBound_any _ _).mono ?_; rintro e w' ⟨rfl, rfl⟩)
      go_round
      case rel => exact .inr (.inr ⟨rfl, rfl⟩)
      case measure => simp [intOf]
    · go_wp2_with (go_at_call 56; refine (implBound_any _ _).mono ?_; rintro e w' ⟨rfl, rfl⟩)
      go_ret
      exact ⟨rfl, rfl⟩

def upt (n m : Int) : Int := if m < n then (if m < 0 then 0 else m) else (if n < 0 then 0 else n)

theorem specLess_any (a b : Int) (w : World) :
    Calls Try.prog 38 #[.int .i64 a, .int .i64 b] w fun e w' => e = .returned (.int .i64 (bnd (bnd a - bnd b))) ∧ w' = w := by
  have ra := bnd_rng a
  have rb := bnd_rng b
  go_enter Try.func38, Try.ntmps38
  go_wp2_with (go_at_call 54; refine (specBound_any _ _).mono ?_; rintro e w' ⟨rfl, rfl⟩)
  go_ret
  exact ⟨rfl, rfl⟩
theorem specUpto_any (a b : Int) (w : World) :
    Calls Try.prog 37 #[.int .i64 a, .int .i64 b] w fun e w' => e = .returned (.int .i64 (upt a b)) ∧ w' = w := by
  go_enter Try.func37, Try.ntmps37
  go_wp2
  all_goals go_ret
  all_goals refine ⟨ret_int ?_, rfl⟩
  all_goals (unfold upt; (repeat' split) <;> omega)
theorem implLess_any (a b : Int) (w : World) :
    Calls Try.prog 39 #[.int .i64 a, .int .i64 b] w fun e w' => e = .returned (.int .i64 (bnd (bnd a - bnd b))) ∧ Grown w w' := by
  have rb := bnd_rng b
  have hb : bnd (-bnd b) = -bnd b := by unfold bnd at *; (repeat' split) <;> omega
  go_enter Try.func39, Try.ntmps39
  go_wp2_with (first | (go_at_call 56; refine (implBound_any _ _).mono ?_; rintro e w' ⟨rfl, rfl⟩) | (go_at_call 55; refine (sum2_any _ _ a (-bnd b) _ (by simp) (by simp)).mono ?_; rintro e w' ⟨rfl, rfl⟩))
  go_ret
  exact ⟨ret_int (by rw [Int.sub_eq_add_neg]), by repeat (first | exact Grown.refl _ | apply Grown.drew | apply Grown.alloc)⟩
theorem implUpto_any (a b : Int) (w : World) :
    Calls Try.prog 104 #[.int .i64 a, .int .i64 b] w fun e w' => e = .returned (.int .i64 (upt a b)) ∧ w' = w := by
  go_enter Try.func104, Try.ntmps104
  go_wp2
  all_goals go_ret
  all_goals refine ⟨ret_int ?_, rfl⟩
  all_goals (unfold upt; (repeat' split) <;> omega)

/-! The same answers under names that a walk does not open, the world told by 'Below'. -/
def pl (a b : Int) : Int := bnd (bnd a + bnd b)
def ls (a b : Int) : Int := bnd (bnd a - bnd b)
def tw (a : Int) : Int := bnd (2 * bnd a)
def hf (a : Int) : Int := (bnd a).tdiv 2
def bd (a : Int) : Int := bnd a
def up (a b : Int) : Int := upt a b
theorem specLess_b (a b : Int) (w : World) : Calls Try.prog 38 #[.int .i64 a, .int .i64 b] w fun e w' => e = .returned (.int .i64 (ls a b)) ∧ w' = w := specLess_any a b w
theorem specUpto_b (a b : Int) (w : World) : Calls Try.prog 37 #[.int .i64 a, .int .i64 b] w fun e w' => e = .returned (.int .i64 (up a b)) ∧ w' = w := specUpto_any a b w
theorem specBound_b (a : Int) (w : World) : Calls Try.prog 54 #[.int .i64 a] w fun e w' => e = .returned (.int .i64 (bd a)) ∧ w' = w := specBound_any a w
theorem implBound_b (a : Int) (w : World) : Calls Try.prog 56 #[.int .i64 a] w fun e w' => e = .returned (.int .i64 (bd a)) ∧ w' = w := implBound_any a w
theorem implUpto_b (a b : Int) (w : World) : Calls Try.prog 104 #[.int .i64 a, .int .i64 b] w fun e w' => e = .returned (.int .i64 (up a b)) ∧ w' = w := implUpto_any a b w
theorem implLess_b (a b : Int) {B : Nat} {W w : World} (h : Below B W w) (hB : B ≤ w.heap.size) :
    Calls Try.prog 39 #[.int .i64 a, .int .i64 b] w fun e w' => e = .returned (.int .i64 (ls a b)) ∧ Below B W w' ∧ B ≤ w'.heap.size := by
  have rb := bnd_rng b
  have hb : bnd (-bnd b) = -bnd b := by unfold bnd at *; (repeat' split) <;> omega
  go_enter Try.func39, Try.ntmps39
  go_wp2_with (first | (go_at_call 56; refine (implBound_any _ _).mono ?_; rintro e w' ⟨rfl, rfl⟩) | (go_at_call 55; refine (sum2_any _ _ a (-bnd b) _ (by simp) (by simp)).mono ?_; rintro e w' ⟨rfl, rfl⟩))
  go_ret
  exact ⟨ret_int (by unfold ls; rw [Int.sub_eq_add_neg]), h.alloc hB _, by simp; omega⟩
end Go.Proofs.Ytodfdfncdoliiat
