/-
  Contracts of chapter 1's sums (Bound, Plus, Less, Twice, Half, Upto, and the program's inner sum) over this seat's translation: what each answers, for every argument, and that the world holds at most new blocks behind it. Own work.
-/
import Derived.Test.YtgaodfjmehofgacDoorRows
import Derived.WalkKit
import Derived.ProofKit
import Derived.OpenShut
namespace Go.Proofs.YtgaodfjmehofgacDoor
open Go.ChangeShapes Go.WideShapes Go.ChangeAt Go.RowKit
set_option maxRecDepth 100000

def bnd (n : Int) : Int := if 2147483647 < n then 2147483647 else if n < -2147483647 then -2147483647 else n
theorem bnd_rng (n : Int) : -2147483647 ≤ bnd n ∧ bnd n ≤ 2147483647 := by
  unfold bnd; split
  · omega
  · split <;> omega
theorem ret_int {k : IntKind} {a b : Int} (h : a = b) : Ending.returned (.int k a) = .returned (.int k b) := by rw [h]

def upt (n m : Int) : Int := if m < n then (if m < 0 then 0 else m) else (if n < 0 then 0 else n)

theorem specUpto_any (a b : Int) (w : World) :
    Calls Tryd.prog 31 #[.int .i64 a, .int .i64 b] w fun e w' => e = .returned (.int .i64 (upt a b)) ∧ w' = w := by
  go_enter Tryd.func31, Tryd.ntmps31
  go_wp2
  all_goals go_ret
  all_goals refine ⟨ret_int ?_, rfl⟩
  all_goals (unfold upt; (repeat' split) <;> omega)
theorem implUpto_any (a b : Int) (w : World) :
    Calls Tryd.prog 54 #[.int .i64 a, .int .i64 b] w fun e w' => e = .returned (.int .i64 (upt a b)) ∧ w' = w := by
  go_enter Tryd.func54, Tryd.ntmps54
  go_wp2
  all_goals go_ret
  all_goals refine ⟨ret_int ?_, rfl⟩
  all_goals (unfold upt; (repeat' split) <;> omega)

/-! The same answers under names that a walk does not open, the world told by 'Below'. -/
def pl (a b : Int) : Int := bnd (bnd a + bnd b)
def ls (a b : Int) : Int := bnd (bnd a - bnd b)
def tw (a : Int) : Int := bnd (2 * bnd a)
def hf (a : Int) : Int := (bnd a).tdiv 2
def bd (a : Int) : Int := bnd a
def up (a b : Int) : Int := upt a b
theorem specUpto_b (a b : Int) (w : World) : Calls Tryd.prog 31 #[.int .i64 a, .int .i64 b] w fun e w' => e = .returned (.int .i64 (up a b)) ∧ w' = w := specUpto_any a b w
theorem implUpto_b (a b : Int) (w : World) : Calls Tryd.prog 54 #[.int .i64 a, .int .i64 b] w fun e w' => e = .returned (.int .i64 (up a b)) ∧ w' = w := implUpto_any a b w
end Go.Proofs.YtgaodfjmehofgacDoor
