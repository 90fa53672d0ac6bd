/-
  Contracts of chapter 2's draws DrawPutNum, DrawGetNum. Own work.
-/
import Derived.Test.YthhmfbegbhndaabDrawB
import Derived.Test.YthhmfbegbhndaabCurLaw
namespace Go.Proofs.Ythhmfbegbhndaab
open Go.ChangeShapes Go.WideShapes Go.ChangeAt Go.RowKit

/-- bytes that were drawn: a slice of the call's own, with its capacity, and what it reads -/
def DrawnB (w : World) (q n c : Nat) (f : Nat → Int) (w' : World) : Prop := n ≤ 100 ∧ n ≤ c ∧ U8 n f ∧ Own .u8 w' w.heap.size q (some ⟨q, 0, none⟩) n f ∧ Below w.heap.size w w'
theorem U8.enc4 (n : Int) : U8 4 (enc n) := by
  have r := bnd_rng n
  intro i hi
  unfold enc
  (repeat' split) <;> omega
theorem U8.cat {n m : Nat} {f g : Nat → Int} (hf : U8 n f) (hg : U8 m g) : U8 (n + m) (cat n f g) := by
  intro i hi
  unfold Go.Proofs.Ythhmfbegbhndaab.cat
  split
  · exact hf i (by assumption)
  · exact hg (i - n) (by omega)
end Go.Proofs.Ythhmfbegbhndaab
