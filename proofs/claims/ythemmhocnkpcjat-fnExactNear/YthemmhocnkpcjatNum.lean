/-
  Contracts of chapter 1's sums (Bound, Plus, Less, Twice, Half, Upto, and the program's inner sum) over this seat's translation: what each answers, for every argument, and that the world holds at most new blocks behind it. Own work.
-/
import Derived.Test.YthemmhocnkpcjatRows
import Derived.WalkKit
import Derived.ProofKit
import Derived.OpenShut
namespace Go.Proofs.Ythemmhocnkpcjat
open Go.ChangeShapes Go.WideShapes Go.ChangeAt Go.RowKit
set_option maxRecDepth 100000

def bnd (n : Int) : Int := if 2147483647 < n then 2147483647 else if n < -2147483647 then -2147483647 else n
theorem bnd_rng (n : Int) : -2147483647 ≤ bnd n ∧ bnd n ≤ 2147483647 := by
  unfold bnd; split
  · omega
  · split <;> omega
theorem ret_int {k : IntKind} {a b : Int} (h : a = b) : Ending.returned (.int k a) = .returned (.int k b) := by rw [h]

def upt (n m : Int) : Int := if m < n then (if m < 0 then 0 else m) else (if n < 0 then 0 else n)

/-! The same answers under names that a walk does not open, the world told by 'Below'. -/
def pl (a b : Int) : Int := bnd (bnd a + bnd b)
def ls (a b : Int) : Int := bnd (bnd a - bnd b)
def tw (a : Int) : Int := bnd (2 * bnd a)
def hf (a : Int) : Int := (bnd a).tdiv 2
def bd (a : Int) : Int := bnd a
def up (a b : Int) : Int := upt a b
end Go.Proofs.Ythemmhocnkpcjat
