/-
  Contracts of chapter 1's sums (Bound, Plus, Less, Twice, Half, Upto, and the program's inner sum) over this seat's translation: what each answers, for every argument, and that the world holds at most new blocks behind it. Own work.
-/
import Derived.Test.YthemmhocnkpcjasRows
import Derived.WalkKit
import Derived.ProofKit
import Derived.OpenShut
namespace Go.Proofs.Ythemmhocnkpcjas
open Go.ChangeShapes Go.WideShapes Go.ChangeAt Go.RowKit
set_option maxRecDepth 100000

def bnd (n : Int) : Int := if 2147483647 < n then 2147483647 else if n < -2147483647 then -2147483647 else n
theorem bnd_rng (n : Int) : -2147483647 ≤ bnd n ∧ bnd n ≤ 2147483647 := by
  unfold bnd; split
  · omega
  · split <;> omega
theorem ret_int {k : IntKind} {a b : Int} (h : a = b) : Ending.returned (.int k a) = .returned (.int k b) := by rw [h]

theorem specBound_any (n : Int) (w : World) :
    Calls Try.prog 60 #[.int .i64 n] w fun e w' => e = .returned (.int .i64 (bnd n)) ∧ w' = w := by
  go_enter Try.func60, Try.ntmps60
  go_wp2
  all_goals go_ret
  all_goals refine ⟨ret_int ?_, rfl⟩
  all_goals (unfold bnd; (try split) <;> (try split) <;> omega)

theorem implBound_any (n : Int) (w : World) :
    Calls Try.prog 62 #[.int .i64 n] w fun e w' => e = .returned (.int .i64 (bnd n)) ∧ w' = w := by
  go_enter Try.func62, Try.ntmps62
  go_wp2
  all_goals go_ret
  all_goals refine ⟨ret_int ?_, rfl⟩
  all_goals (unfold bnd; (repeat' split) <;> omega)

set_option maxHeartbeats 400000 in
theorem sum2_any (bk off : Nat) (a b : Int) (w : World) (h0 : w.cell? ⟨bk, off, none⟩ = some (.int .i64 a)) (h1 : w.cell? ⟨bk, off + 1, none⟩ = some (.int .i64 b)) :
    Calls Try.prog 61 #[.slice (some ⟨bk, off, none⟩) 2 2] w fun e w' => e = .returned (.int .i64 (bnd (bnd a + bnd b))) ∧ w' = w := by
  have ra := bnd_rng a
  have rb := bnd_rng b
  go_enter Try.func61, Try.ntmps61
  go_wp2
  go_loop [3, 8] (fun t i => (i = .int .i64 0 ∧ t = .int .i64 0) ∨ (i = .int .i64 1 ∧ t = .int .i64 (bnd a)) ∨ (i = .int .i64 2 ∧ t = .int .i64 (bnd a + bnd b))) (fun _ i => 2 - (intOf i).toNat)
  case atStart => exact .inl ⟨rfl, rfl⟩
  case round =>
    rcases hrel with ⟨rfl, rfl⟩ | ⟨rfl, rfl⟩ | ⟨rfl, rfl⟩
    · go_wp2_with (go_at_call 62; refine (implBound_any _ _).mono ?_; rintro e w' ⟨rfl, rfl⟩)
      go_round
      case rel => exact .inr (.inl ⟨rfl, by go_num⟩)
      case measure => simp [intOf]
    · go_wp2_with (go_at_call 62; refine (implBound_any _ _).mono ?_; rintro e w' ⟨rfl, rfl⟩)
      go_round
      case rel => exact .inr (.inr ⟨rfl, rfl⟩)
      case measure => simp [intOf]
    · go_wp2_with (go_at_call 62; refine (implBound_any _ _).mono ?_; rintro e w' ⟨rfl, rfl⟩)
      go_ret
      exact ⟨rfl, rfl⟩

def upt (n m : Int) : Int := if m < n then (if m < 0 then 0 else m) else (if n < 0 then 0 else n)

theorem specPlus_any (a b : Int) (w : World) :
    Calls Try.prog 31 #[.int .i64 a, .int .i64 b] w fun e w' => e = .returned (.int .i64 (bnd (bnd a + bnd b))) ∧ w' = w := by
  have ra := bnd_rng a
  have rb := bnd_rng b
  go_enter Try.func31, Try.ntmps31
  go_wp2_with (go_at_call 60; refine (specBound_any _ _).mono ?_; rintro e w' ⟨rfl, rfl⟩)
  go_ret
  exact ⟨rfl, rfl⟩
theorem specTwice_any (a : Int) (w : World) :
    Calls Try.prog 32 #[.int .i64 a] w fun e w' => e = .returned (.int .i64 (bnd (2 * bnd a))) ∧ w' = w := by
  have ra := bnd_rng a
  go_enter Try.func32, Try.ntmps32
  go_wp2_with (go_at_call 60; refine (specBound_any _ _).mono ?_; rintro e w' ⟨rfl, rfl⟩)
  go_ret
  exact ⟨rfl, rfl⟩
theorem specHalf_any (a : Int) (w : World) :
    Calls Try.prog 33 #[.int .i64 a] w fun e w' => e = .returned (.int .i64 ((bnd a).tdiv 2)) ∧ w' = w := by
  have ra := bnd_rng a
  go_enter Try.func33, Try.ntmps33
  go_wp2_with (go_at_call 60; refine (specBound_any _ _).mono ?_; rintro e w' ⟨rfl, rfl⟩)
  go_ret
  exact ⟨rfl, rfl⟩
theorem specUpto_any (a b : Int) (w : World) :
    Calls Try.prog 30 #[.int .i64 a, .int .i64 b] w fun e w' => e = .returned (.int .i64 (upt a b)) ∧ w' = w := by
  go_enter Try.func30, Try.ntmps30
  go_wp2
  all_goals go_ret
  all_goals refine ⟨ret_int ?_, rfl⟩
  all_goals (unfold upt; (repeat' split) <;> omega)
theorem implPlus_any (a b : Int) (w : World) :
    Calls Try.prog 36 #[.int .i64 a, .int .i64 b] w fun e w' => e = .returned (.int .i64 (bnd (bnd a + bnd b))) ∧ Grown w w' := by
  go_enter Try.func36, Try.ntmps36
  go_wp2_with (go_at_call 61; refine (sum2_any _ _ a b _ (by simp) (by simp)).mono ?_; rintro e w' ⟨rfl, rfl⟩)
  go_ret
  exact ⟨rfl, by repeat (first | exact Grown.refl _ | apply Grown.drew | apply Grown.alloc)⟩
theorem implTwice_any (a : Int) (w : World) :
    Calls Try.prog 37 #[.int .i64 a] w fun e w' => e = .returned (.int .i64 (bnd (2 * bnd a))) ∧ Grown w w' := by
  go_enter Try.func37, Try.ntmps37
  go_wp2_with (go_at_call 61; refine (sum2_any _ _ a a _ (by simp) (by simp)).mono ?_; rintro e w' ⟨rfl, rfl⟩)
  go_ret
  exact ⟨ret_int (by congr 1; omega), by repeat (first | exact Grown.refl _ | apply Grown.drew | apply Grown.alloc)⟩
theorem implHalf_any (a : Int) (w : World) :
    Calls Try.prog 38 #[.int .i64 a] w fun e w' => e = .returned (.int .i64 ((bnd a).tdiv 2)) ∧ w' = w := by
  have ra := bnd_rng a
  go_enter Try.func38, Try.ntmps38
  go_wp2_with (go_at_call 62; refine (implBound_any _ _).mono ?_; rintro e w' ⟨rfl, rfl⟩)
  go_ret
  exact ⟨rfl, rfl⟩
theorem implUpto_any (a b : Int) (w : World) :
    Calls Try.prog 35 #[.int .i64 a, .int .i64 b] w fun e w' => e = .returned (.int .i64 (upt a b)) ∧ w' = w := by
  go_enter Try.func35, Try.ntmps35
  go_wp2
  all_goals go_ret
  all_goals refine ⟨ret_int ?_, rfl⟩
  all_goals (unfold upt; (repeat' split) <;> omega)

/-! The same answers under names that a walk does not open, the world told by 'Below'. -/
def pl (a b : Int) : Int := bnd (bnd a + bnd b)
def ls (a b : Int) : Int := bnd (bnd a - bnd b)
def tw (a : Int) : Int := bnd (2 * bnd a)
def hf (a : Int) : Int := (bnd a).tdiv 2
def bd (a : Int) : Int := bnd a
def up (a b : Int) : Int := upt a b
theorem specPlus_b (a b : Int) (w : World) : Calls Try.prog 31 #[.int .i64 a, .int .i64 b] w fun e w' => e = .returned (.int .i64 (pl a b)) ∧ w' = w := specPlus_any a b w
theorem specTwice_b (a : Int) (w : World) : Calls Try.prog 32 #[.int .i64 a] w fun e w' => e = .returned (.int .i64 (tw a)) ∧ w' = w := specTwice_any a w
theorem specUpto_b (a b : Int) (w : World) : Calls Try.prog 30 #[.int .i64 a, .int .i64 b] w fun e w' => e = .returned (.int .i64 (up a b)) ∧ w' = w := specUpto_any a b w
theorem specBound_b (a : Int) (w : World) : Calls Try.prog 60 #[.int .i64 a] w fun e w' => e = .returned (.int .i64 (bd a)) ∧ w' = w := specBound_any a w
theorem implBound_b (a : Int) (w : World) : Calls Try.prog 62 #[.int .i64 a] w fun e w' => e = .returned (.int .i64 (bd a)) ∧ w' = w := implBound_any a w
theorem implHalf_b (a : Int) (w : World) : Calls Try.prog 38 #[.int .i64 a] w fun e w' => e = .returned (.int .i64 (hf a)) ∧ w' = w := implHalf_any a w
theorem implUpto_b (a b : Int) (w : World) : Calls Try.prog 35 #[.int .i64 a, .int .i64 b] w fun e w' => e = .returned (.int .i64 (up a b)) ∧ w' = w := implUpto_any a b w
theorem implPlus_b (a b : Int) {B : Nat} {W w : World} (h : Below B W w) (hB : B ≤ w.heap.size) :
    Calls Try.prog 36 #[.int .i64 a, .int .i64 b] w fun e w' => e = .returned (.int .i64 (pl a b)) ∧ Below B W w' ∧ B ≤ w'.heap.size := by
  go_enter Try.func36, Try.ntmps36
  go_wp2_with (go_at_call 61; refine (sum2_any _ _ a b _ (by simp) (by simp)).mono ?_; rintro e w' ⟨rfl, rfl⟩)
  go_ret
  exact ⟨rfl, h.alloc hB _, by simp; omega⟩
theorem implTwice_b (a : Int) {B : Nat} {W w : World} (h : Below B W w) (hB : B ≤ w.heap.size) :
    Calls Try.prog 37 #[.int .i64 a] w fun e w' => e = .returned (.int .i64 (tw a)) ∧ Below B W w' ∧ B ≤ w'.heap.size := by
  go_enter Try.func37, Try.ntmps37
  go_wp2_with (go_at_call 61; refine (sum2_any _ _ a a _ (by simp) (by simp)).mono ?_; rintro e w' ⟨rfl, rfl⟩)
  go_ret
  exact ⟨ret_int (by unfold tw; congr 1; omega), h.alloc hB _, by simp; omega⟩
end Go.Proofs.Ythemmhocnkpcjas
