/-
  Chapter 4: the specification's PutPiece. Contracts of chapter 2's joined, cut, PutNum. Own work.
-/
import Derived.Test.YtodfdfncdoliiadPieceOk
import Derived.Test.YtodfdfncdoliiadGRegBelow3
import Derived.Test.YtodfdfncdoliiadGEfB2
import Derived.Test.YtodfdfncdoliiadGSeg2
import Derived.BigQuiet
namespace Go.Proofs.Ytodfdfncdoliiad
open Go.ChangeShapes Go.WideShapes Go.ChangeAt Go.RowKit
set_option maxRecDepth 100000

def bt (b : Bool) : Int := if b then 1 else 0
/-- a piece's numbers, in the order in which they are written -/
def pcl (p : Pc) : List Int := [p.id, p.ow, p.si, p.zo, p.st, p.po, p.to, p.tr, p.pl, p.mi, p.ma, bt p.de, bt p.be]
/-- the bytes of numbers -/
def encM (L : List Int) : Nat → Int := fun i => enc (L.getD (i / 4) 0) (i % 4)
theorem encM_step (n k : Nat) (f : Nat → Int) (L : List Int) : ∀ i, i < n + 4 * k + 4 → cat (n + 4 * k) (cat n f (encM L)) (enc (L.getD k 0)) i = cat n f (encM L) i := by
  intro i hi
  unfold cat
  by_cases h1 : i < n + 4 * k
  · rw [if_pos h1]
  · rw [if_neg h1, if_neg (by omega)]
    unfold encM
    rw [show (i - n) / 4 = k by omega, show (i - n) % 4 = i - (n + 4 * k) by omega]
def ppN (n : Nat) (p : Pc) : Nat := if okP p = true then n + 52 else n
def ppF (n : Nat) (f : Nat → Int) (p : Pc) : Nat → Int := if okP p = true then cat n f (encM (pcl p)) else f
theorem ppN_le (n : Nat) (p : Pc) : ppN n p ≤ n + 52 := by unfold ppN; split <;> omega

end Go.Proofs.Ytodfdfncdoliiad
namespace Go.Proofs.Ytodfdfncdoliiad
open Go.ChangeShapes Go.WideShapes Go.ChangeAt Go.RowKit
set_option maxRecDepth 100000

theorem spl_two (n1 n2 : Nat) (f1 f2 z : Nat → Int) : ∀ i, i < n1 + n2 → spl (spl z 0 n1 f1) n1 n2 f2 i = cat n1 f1 f2 i := by
  intro i hi
  unfold spl cat
  by_cases h : i < n1
  · rw [if_neg (by omega), if_pos (by omega), if_pos h, Nat.sub_zero]
  · rw [if_pos (by omega), if_neg h]
theorem row_made {k : IntKind} {w : World} {B g : Nat} {e : TypeId} {n : Nat} {f : Nat → Int} (h : w.ownsRow B e 1 (.slice (some ⟨g, 0, none⟩) n n) n (vals k n f)) : w.heap[g]? = some (.cells (vals k n f).toArray e (0, 0)) := by
  rcases h.2 with ⟨h', _⟩ | ⟨g', cap', cur, h', hb, hg, hnc, hcm, hcs, htake⟩
  · simp at h'
  · simp only [Value.slice.injEq, Option.some.injEq, Addr.mk.injEq, and_true, true_and] at h'
    obtain ⟨rfl, rfl⟩ := h'
    rw [List.take_of_length_le (by rw [Array.length_toList, hcs]; exact Nat.le_refl _)] at htake
    rw [hg, ← htake]
theorem sizeU8 : (Try.prog.info? 5).map (·.size) = some 1 := by kernel_rfl
theorem below_new (w : World) (o : Obj) : Below w.heap.size w (w.alloc o) := (Below.refl _ _).alloc (Nat.le_refl _) _
end Go.Proofs.Ytodfdfncdoliiad
