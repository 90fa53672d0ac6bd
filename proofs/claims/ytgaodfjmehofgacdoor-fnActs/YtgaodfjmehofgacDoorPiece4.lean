/-
  Chapter 4: the specification's PutPiece. Own work.
-/
import Derived.Test.YtgaodfjmehofgacDoorPieceOk
import Derived.Test.YtgaodfjmehofgacDoorPiece3
import Derived.Test.YtgaodfjmehofgacDoorBytesA
import Derived.Test.YtgaodfjmehofgacDoorRegs
import Derived.BigQuiet
namespace Go.Proofs.YtgaodfjmehofgacDoor
open Go.ChangeShapes Go.WideShapes Go.ChangeAt Go.RowKit
set_option maxRecDepth 100000

def bt (b : Bool) : Int := if b then 1 else 0
/-- a piece's numbers, in the order in which they are written -/
def pcl (p : Pc) : List Int := [p.id, p.ow, p.si, p.zo, p.st, p.po, p.to, p.tr, p.pl, p.mi, p.ma, bt p.de, bt p.be]
/-- the bytes of numbers -/
def encM (L : List Int) : Nat → Int := fun i => enc (L.getD (i / 4) 0) (i % 4)
theorem encM_step (n k : Nat) (f : Nat → Int) (L : List Int) : ∀ i, i < n + 4 * k + 4 → cat (n + 4 * k) (cat n f (encM L)) (enc (L.getD k 0)) i = cat n f (encM L) i := by
  intro i hi
  unfold cat
  by_cases h1 : i < n + 4 * k
  · rw [if_pos h1]
  · rw [if_neg h1, if_neg (by omega)]
    unfold encM
    rw [show (i - n) / 4 = k by omega, show (i - n) % 4 = i - (n + 4 * k) by omega]
def ppN (n : Nat) (p : Pc) : Nat := if okP p = true then n + 52 else n
def ppF (n : Nat) (f : Nat → Int) (p : Pc) : Nat → Int := if okP p = true then cat n f (encM (pcl p)) else f
theorem ppN_le (n : Nat) (p : Pc) : ppN n p ≤ n + 52 := by unfold ppN; split <;> omega

end Go.Proofs.YtgaodfjmehofgacDoor
