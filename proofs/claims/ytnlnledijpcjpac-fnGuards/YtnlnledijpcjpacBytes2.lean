/-
  Contracts of chapter 2's joined, cut, PutNum. Own work.
-/
import Derived.Test.YtnlnledijpcjpacBytes
namespace Go.Proofs.Ytnlnledijpcjpac
open Go.ChangeShapes Go.WideShapes Go.ChangeAt Go.RowKit
set_option maxRecDepth 100000

theorem spl_two (n1 n2 : Nat) (f1 f2 z : Nat → Int) : ∀ i, i < n1 + n2 → spl (spl z 0 n1 f1) n1 n2 f2 i = cat n1 f1 f2 i := by
  intro i hi
  unfold spl cat
  by_cases h : i < n1
  · rw [if_neg (by omega), if_pos (by omega), if_pos h, Nat.sub_zero]
  · rw [if_pos (by omega), if_neg h]
theorem row_made {k : IntKind} {w : World} {B g : Nat} {e : TypeId} {n : Nat} {f : Nat → Int} (h : w.ownsRow B e 1 (.slice (some ⟨g, 0, none⟩) n n) n (vals k n f)) : w.heap[g]? = some (.cells (vals k n f).toArray e (0, 0)) := by
  rcases h.2 with ⟨h', _⟩ | ⟨g', cap', cur, h', hb, hg, hnc, hcm, hcs, htake⟩
  · simp at h'
  · simp only [Value.slice.injEq, Option.some.injEq, Addr.mk.injEq, and_true, true_and] at h'
    obtain ⟨rfl, rfl⟩ := h'
    rw [List.take_of_length_le (by rw [Array.length_toList, hcs]; exact Nat.le_refl _)] at htake
    rw [hg, ← htake]
theorem sizeU8 : (Try.prog.info? 5).map (·.size) = some 1 := by kernel_rfl
theorem below_new (w : World) (o : Obj) : Below w.heap.size w (w.alloc o) := (Below.refl _ _).alloc (Nat.le_refl _) _
end Go.Proofs.Ytnlnledijpcjpac
