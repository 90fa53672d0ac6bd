/-
  Chapter 7: words for what is asked for (Pt), how a law's own is opened and taken over, its box; what '==' of two answers. Written by tools/pa.gen.py. Own work.
-/
import Derived.Test.YtnlnledijpcjparEvA
namespace Go.Proofs.Ytnlnledijpcjpar
open Go.ChangeShapes Go.WideShapes Go.ChangeAt Go.RowKit
set_option maxRecDepth 100000
set_option linter.unusedVariables false
set_option linter.unusedSimpArgs false

structure Pt where
  (kd wh sr tr pi le zo : Int)
/-- each of its numbers is one that an int can be -/
def Pt.wf (e : Pt) : Prop := ∀ x ∈ [e.kd, e.wh, e.sr, e.tr, e.pi, e.le, e.zo], (Lit.int .i64 x).wf = true
theorem list7_pat {α : Type} : ∀ {l : List α}, l.length = 7 → ∃ x0 x1 x2 x3 x4 x5 x6, l = [x0, x1, x2, x3, x4, x5, x6]
  | [x0, x1, x2, x3, x4, x5, x6], _ => ⟨x0, x1, x2, x3, x4, x5, x6, rfl⟩
/-- block b holds one -/
def BoxPt (w : World) (b t : Nat) (e : Pt) : Prop := w.heap[b]? = some (.cells #[.int .i64 e.kd, .int .i64 e.wh, .int .i64 e.sr, .int .i64 e.tr, .int .i64 e.pi, .int .i64 e.le, .int .i64 e.zo] t (0, 0))
theorem boxPt_new (w : World) (t : Nat) (e : Pt) : BoxPt (w.alloc (.cells #[.int .i64 e.kd, .int .i64 e.wh, .int .i64 e.sr, .int .i64 e.tr, .int .i64 e.pi, .int .i64 e.le, .int .i64 e.zo] t)) w.heap.size t e := heap_alloc_new w _
theorem BoxPt.lt {w : World} {b t : Nat} {e : Pt} (h : BoxPt w b t e) : b < w.heap.size := (Array.getElem?_eq_some_iff.1 h).1
theorem BoxPt.grew {w w' : World} {b t : Nat} {e : Pt} (h : BoxPt w b t e) (hb : Below w.heap.size w w') : BoxPt w' b t e := (hb.block b h.lt).trans h
theorem BoxPt.alloc {w : World} {b t : Nat} {e : Pt} (h : BoxPt w b t e) (o : Obj) : BoxPt (w.alloc o) b t e := (Below.heap_alloc w o b h.lt).trans h
/-- its cells, one by one -/
def CellsPt (w : World) (b : Nat) (e : Pt) : Prop :=
  w.cell? ⟨b, 0, none⟩ = some (.int .i64 e.kd) ∧ w.cell? ⟨b, 1, none⟩ = some (.int .i64 e.wh) ∧ w.cell? ⟨b, 2, none⟩ = some (.int .i64 e.sr) ∧ w.cell? ⟨b, 3, none⟩ = some (.int .i64 e.tr) ∧ w.cell? ⟨b, 4, none⟩ = some (.int .i64 e.pi) ∧ w.cell? ⟨b, 5, none⟩ = some (.int .i64 e.le) ∧ w.cell? ⟨b, 6, none⟩ = some (.int .i64 e.zo)
theorem BoxPt.cells {w : World} {b t : Nat} {e : Pt} (h : BoxPt w b t e) : CellsPt w b e :=
  ⟨cell_of_row w b 0 _ t (0, 0) h, cell_of_row w b 1 _ t (0, 0) h, cell_of_row w b 2 _ t (0, 0) h, cell_of_row w b 3 _ t (0, 0) h, cell_of_row w b 4 _ t (0, 0) h, cell_of_row w b 5 _ t (0, 0) h, cell_of_row w b 6 _ t (0, 0) h⟩
/-- whether two are the same in all their parts -/
def smPt (p q : Pt) : Bool := decide (p.kd = q.kd) && decide (p.wh = q.wh) && decide (p.sr = q.sr) && decide (p.tr = q.tr) && decide (p.pi = q.pi) && decide (p.le = q.le) && decide (p.zo = q.zo)
theorem smPt_self (e : Pt) : smPt e e = true := by unfold smPt; simp
end Go.Proofs.Ytnlnledijpcjpar
