/-
  Chapter 5, the program's PieceAt, and where a new piece goes: the library's IndexFunc at pieces. Chapter 9: the specification's Parts (paN, paF: how many, which). Written by tools/ac.gen.py. Own work.
-/
import Derived.Test.YtodfdfncdoliiadGEfD2
import Derived.Test.YtodfdfncdoliiadGFrE7
namespace Go.Proofs.Ytodfdfncdoliiad
open Go.ChangeShapes Go.WideShapes Go.ChangeAt Go.RowKit
set_option maxRecDepth 100000
set_option linter.unusedVariables false
/-- the place of the first piece that P is true of -/
def ixI (n : Nat) (f : Nat → Pc) (P : Pc → Bool) : Int := match (List.range n).find? (fun i => P (f i)) with | some i => (i : Int) | none => -1
theorem ixI_at {n k : Nat} {f : Nat → Pc} {P : Pc → Bool} (hk : k < n) (h : P (f k) = true) (h0 : ∀ j, j < k → P (f j) = false) : ixI n f P = (k : Int) := by
  have : (List.range n).find? (fun i => P (f i)) = some k := by
    rw [List.find?_range_eq_some]
    exact ⟨h, List.mem_range.2 hk, fun j hj => by rw [h0 j hj]; rfl⟩
  unfold ixI
  rw [this]
theorem ixI_none {n : Nat} {f : Nat → Pc} {P : Pc → Bool} (h0 : ∀ j, j < n → P (f j) = false) : ixI n f P = -1 := by
  have : (List.range n).find? (fun i => P (f i)) = none := by
    rw [List.find?_eq_none]
    exact fun j hj => by rw [h0 j (List.mem_range.1 hj)]; simp
  unfold ixI
  rw [this]
theorem below_new2' (w : World) (o : Obj) : Below w.heap.size w (w.alloc o) := (Below.refl _ _).alloc (Nat.le_refl _) _
/-- a piece laid into a new block -/
theorem bV_of (wr : World) (p : Pc) : BoxP ((wr.alloc (.cells #[.int .i64 0, .int .i64 0, .int .i64 0, .int .i64 0, .int .i64 0, .int .i64 0, .int .i64 0, .int .i64 0, .int .i64 0, .int .i64 0, .int .i64 0, .bool false, .bool false] 78)).setRow wr.heap.size #[.int .i64 p.id, .int .i64 p.ow, .int .i64 p.si, .int .i64 p.zo, .int .i64 p.st, .int .i64 p.po, .int .i64 p.to, .int .i64 p.tr, .int .i64 p.pl, .int .i64 p.mi, .int .i64 p.ma, .bool p.de, .bool p.be]) wr.heap.size 78 p := setRow_heap _ _ _ _ _ _ (heap_alloc_new wr _)
theorem hbV_of (wr : World) (p : Pc) : Below wr.heap.size wr ((wr.alloc (.cells #[.int .i64 0, .int .i64 0, .int .i64 0, .int .i64 0, .int .i64 0, .int .i64 0, .int .i64 0, .int .i64 0, .int .i64 0, .int .i64 0, .int .i64 0, .bool false, .bool false] 78)).setRow wr.heap.size #[.int .i64 p.id, .int .i64 p.ow, .int .i64 p.si, .int .i64 p.zo, .int .i64 p.st, .int .i64 p.po, .int .i64 p.to, .int .i64 p.tr, .int .i64 p.pl, .int .i64 p.mi, .int .i64 p.ma, .bool p.de, .bool p.be]) := below_setRow ((Below.refl _ _).alloc (Nat.le_refl _) _) (Nat.le_refl _) _
theorem bS_of (wr : World) (s : Sd) : BoxR ((wr.alloc (.cells #[.int .i64 0, .int .i64 0, .bool false] 76)).setRow wr.heap.size #[.int .i64 s.li, .int .i64 s.po, .bool s.lo]) wr.heap.size 76 #[.int .i64 s.li, .int .i64 s.po, .bool s.lo] := setRow_heap _ _ _ _ _ _ (heap_alloc_new wr _)
theorem hbS_of (wr : World) (s : Sd) : Below wr.heap.size wr ((wr.alloc (.cells #[.int .i64 0, .int .i64 0, .bool false] 76)).setRow wr.heap.size #[.int .i64 s.li, .int .i64 s.po, .bool s.lo]) := below_setRow ((Below.refl _ _).alloc (Nat.le_refl _) _) (Nat.le_refl _) _
/-- the place of the first piece of a greater number, or behind all -/
def pnN (n : Nat) (f : Nat → Pc) (id : Int) : Nat := match (List.range n).find? (fun i => decide (id < (f i).id)) with | some i => i | none => n
theorem pnN_le (n : Nat) (f : Nat → Pc) (id : Int) : pnN n f id ≤ n := by
  unfold pnN
  cases h : (List.range n).find? (fun i => decide (id < (f i).id)) with
  | none => exact Nat.le_refl _
  | some i => exact Nat.le_of_lt (List.mem_range.1 (List.mem_of_find?_eq_some h))
theorem pnN_ix (n : Nat) (f : Nat → Pc) (id : Int) : (ixI n f (fun p => decide (id < p.id)) = -1 ∧ pnN n f id = n) ∨ (∃ k : Nat, ixI n f (fun p => decide (id < p.id)) = (k : Int) ∧ pnN n f id = k ∧ k < n) := by
  unfold ixI pnN
  cases h : (List.range n).find? (fun i => decide (id < (f i).id)) with
  | none => exact .inl ⟨rfl, rfl⟩
  | some i => exact .inr ⟨i, rfl, rfl, List.mem_range.1 (List.mem_of_find?_eq_some h)⟩
end Go.Proofs.Ytodfdfncdoliiad
namespace Go.Proofs.Ytodfdfncdoliiad
open Go.ChangeShapes Go.WideShapes Go.ChangeAt Go.RowKit
set_option maxRecDepth 100000
set_option linter.unusedVariables false
set_option linter.unusedSimpArgs false

theorem owns_kept9 {w w' : World} {B : Nat} {e : TypeId} {m : Nat} {v : Value} {n : Nat} {xs : List Value} (h : w.ownsRow B e m v n xs) (hb : Below w.heap.size w w') : w'.ownsRow B e m v n xs := h.kept (row := none) ⟨hb.os, hb.tape, hb.output, hb.size, fun k hk _ => hb.block k hk⟩ (by cases v.ownBlock <;> simp)
/-- the parts of an act for a thing: how many, which -/
def paN (a : Ac) : Nat := if a.kd = 9 then a.ln else 0
def paF (a : Ac) (e : Ev) : Nat → Ev := fun i => if (a.es i).nn = -1 then { a.es i with nn := up e.nn 2147483647 } else a.es i
theorem paF_yes {a : Ac} {e : Ev} {k : Nat} (h : ((a.es k).nn == -1) = true) : paF a e k = { a.es k with nn := up e.nn 2147483647 } := by unfold paF; simp_all
theorem paF_no {a : Ac} {e : Ev} {k : Nat} (h : ((a.es k).nn == -1) = false) : paF a e k = a.es k := by unfold paF; simp_all
end Go.Proofs.Ytodfdfncdoliiad
