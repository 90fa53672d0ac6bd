/-
  Chapter 4: a law's piece taken over (toPiece), and the specification's PieceOk, SamePiece, HasTrait, PowerOf, ToughOf, Moved. Own work.
-/
import Derived.Test.YtodfdfncdoliiatPiece
import Derived.Test.YtodfdfncdoliiatRow
namespace Go.Proofs.Ytodfdfncdoliiat
open Go.ChangeShapes Go.WideShapes Go.ChangeAt Go.RowKit
set_option maxRecDepth 100000

/-- block b holds a piece -/
def BoxP (w : World) (b t : Nat) (p : Pc) : Prop := w.heap[b]? = some (.cells #[.int .i64 p.id, .int .i64 p.ow, .int .i64 p.si, .int .i64 p.zo, .int .i64 p.st, .int .i64 p.po, .int .i64 p.to, .int .i64 p.tr, .int .i64 p.pl, .int .i64 p.mi, .int .i64 p.ma, .bool p.de, .bool p.be] t (0, 0))
theorem box_new (w : World) (t : Nat) (p : Pc) : BoxP (w.alloc (.cells #[.int .i64 p.id, .int .i64 p.ow, .int .i64 p.si, .int .i64 p.zo, .int .i64 p.st, .int .i64 p.po, .int .i64 p.to, .int .i64 p.tr, .int .i64 p.pl, .int .i64 p.mi, .int .i64 p.ma, .bool p.de, .bool p.be] t)) w.heap.size t p := heap_alloc_new w _
theorem BoxP.lt {w : World} {b t : Nat} {p : Pc} (h : BoxP w b t p) : b < w.heap.size := (Array.getElem?_eq_some_iff.1 h).1
theorem BoxP.grew {w w' : World} {b t : Nat} {p : Pc} (h : BoxP w b t p) (hb : Below w.heap.size w w') : BoxP w' b t p := (hb.block b h.lt).trans h
theorem BoxP.alloc {w : World} {b t : Nat} {p : Pc} (h : BoxP w b t p) (o : Obj) : BoxP (w.alloc o) b t p := (Below.heap_alloc w o b h.lt).trans h
/-- its cells, one by one -/
def Cells13 (w : World) (b : Nat) (p : Pc) : Prop :=
  w.cell? ⟨b, 0, none⟩ = some (.int .i64 p.id) ∧ w.cell? ⟨b, 1, none⟩ = some (.int .i64 p.ow) ∧ w.cell? ⟨b, 2, none⟩ = some (.int .i64 p.si) ∧ w.cell? ⟨b, 3, none⟩ = some (.int .i64 p.zo) ∧ w.cell? ⟨b, 4, none⟩ = some (.int .i64 p.st) ∧ w.cell? ⟨b, 5, none⟩ = some (.int .i64 p.po) ∧ w.cell? ⟨b, 6, none⟩ = some (.int .i64 p.to) ∧ w.cell? ⟨b, 7, none⟩ = some (.int .i64 p.tr) ∧ w.cell? ⟨b, 8, none⟩ = some (.int .i64 p.pl) ∧ w.cell? ⟨b, 9, none⟩ = some (.int .i64 p.mi) ∧ w.cell? ⟨b, 10, none⟩ = some (.int .i64 p.ma) ∧ w.cell? ⟨b, 11, none⟩ = some (.bool p.de) ∧ w.cell? ⟨b, 12, none⟩ = some (.bool p.be)
theorem BoxP.cells {w : World} {b t : Nat} {p : Pc} (h : BoxP w b t p) : Cells13 w b p :=
  ⟨cell_of_row w b 0 _ t (0, 0) h, cell_of_row w b 1 _ t (0, 0) h, cell_of_row w b 2 _ t (0, 0) h, cell_of_row w b 3 _ t (0, 0) h, cell_of_row w b 4 _ t (0, 0) h, cell_of_row w b 5 _ t (0, 0) h, cell_of_row w b 6 _ t (0, 0) h, cell_of_row w b 7 _ t (0, 0) h, cell_of_row w b 8 _ t (0, 0) h, cell_of_row w b 9 _ t (0, 0) h, cell_of_row w b 10 _ t (0, 0) h, cell_of_row w b 11 _ t (0, 0) h, cell_of_row w b 12 _ t (0, 0) h⟩
theorem BoxP.cells13 {w w' : World} {b t : Nat} {p : Pc} (h : BoxP w b t p) (hb : Below w.heap.size w w') : Cells13 w' b p := (h.grew hb).cells
/-- whether x lies from a to b -/
def ib (x a b : Int) : Bool := decide (a ≤ x) && decide (x ≤ b)
theorem ret_bool' {a b : Bool} (h : a = b) : Ending.returned (.bool a) = .returned (.bool b) := by rw [h]
theorem l1In_any (x a b : Int) (w : World) : Calls Try.prog 60 #[.int .i64 x, .int .i64 a, .int .i64 b] w fun e w' => e = .returned (.bool (ib x a b)) ∧ w' = w := by
  go_enter Try.func60, Try.ntmps60
  go_wp2
  all_goals go_ret
  all_goals refine ⟨ret_bool' ?_, rfl⟩
  all_goals (unfold ib; simp_all <;> omega)
def okA (p : Pc) : Bool := ib p.id 1 99 && ib p.ow 0 2 && ib p.si 0 2 && ib p.zo 1 4 && ib p.st 0 9999 && ib p.po 0 999 && ib p.to 0 999 && ib p.tr 0 63
def okB (p : Pc) : Bool := ib p.pl 0 2147483647 && ib p.mi 0 2147483647 && ib p.ma 0 2147483647
def okC (p : Pc) : Bool := decide (p.zo = 2) || (decide (p.si = p.ow) && decide (p.pl = 0) && decide (p.mi = 0) && decide (p.ma = 0) && !p.de && !p.be)
/-- whether a piece is as chapter 4 wants it -/
def okP (p : Pc) : Bool := okA p && okB p && okC p
end Go.Proofs.Ytodfdfncdoliiat
