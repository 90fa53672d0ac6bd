/-
  Contracts of chapter 2's PutList: the specification's. Own work.
-/
import Derived.Test.YtpdoefcdajcloapBytes2
namespace Go.Proofs.Ytpdoefcdajcloap
open Go.ChangeShapes Go.WideShapes Go.ChangeAt Go.RowKit
set_option maxRecDepth 100000

/-- a list's bytes: how many, and four bytes of each -/
def encL (m : Nat) (g : Nat → Int) : Nat → Int := fun i => if i = 0 then (m : Int) else enc (g ((i - 1) / 4)) ((i - 1) % 4)
theorem encL_step (n m k : Nat) (f g : Nat → Int) : ∀ i, i < n + 1 + 4 * k + 4 → cat (n + 1 + 4 * k) (cat n f (encL m g)) (enc (g k)) i = cat n f (encL m g) i := by
  intro i hi
  unfold cat
  by_cases h : i < n + 1 + 4 * k
  · rw [if_pos h]
  · rw [if_neg h, if_neg (by omega)]
    unfold encL
    rw [if_neg (by omega), show (i - n - 1) / 4 = k by omega, show (i - n - 1) % 4 = i - (n + 1 + 4 * k) by omega]
theorem encL_head (n m : Nat) (f g : Nat → Int) : ∀ i, i < n + 1 → cat n f (fun _ => (m : Int)) i = cat n f (encL m g) i := by
  intro i hi
  unfold cat
  by_cases h : i < n
  · rw [if_pos h, if_pos h]
  · rw [if_neg h, if_neg h, show i - n = 0 by omega]; rfl
theorem vals1 (k : IntKind) (f : Nat → Int) : vals k 1 f = [.int k (f 0)] := rfl

end Go.Proofs.Ytpdoefcdajcloap
