/-
  Contracts of the draws of lists of ints (l2List, DrawPacked) and of 'sameInts', which holds two lists against each other. Own work.
-/
import Derived.Test.YtnlnledijpcjpacDrawB
import Derived.Test.YtnlnledijpcjpacCurs
namespace Go.Proofs.Ytnlnledijpcjpac
open Go.ChangeShapes Go.WideShapes Go.ChangeAt Go.RowKit
set_option maxRecDepth 100000

def I64 (n : Nat) (f : Nat → Int) : Prop := ∀ i, i < n → inI64 (f i)
/-- a list that was drawn -/
def DrawnL (p : Nat) (a : Option Addr) (len cap : Nat) (w : World) (most : Nat) (e : Ending) (w' : World) : Prop :=
  ∃ q c n f, e = .returned (.slice (some ⟨q, 0, none⟩) n c) ∧ n ≤ most ∧ n ≤ c ∧ I64 n f ∧ Own .i64 w' w.heap.size q (some ⟨q, 0, none⟩) n f ∧ Only p w w' ∧ Cur w' p a len cap ∧ w'.ownsRow w.heap.size 3 1 (.slice (some ⟨q, 0, none⟩) n c) n (vals .i64 n f)
end Go.Proofs.Ytnlnledijpcjpac
