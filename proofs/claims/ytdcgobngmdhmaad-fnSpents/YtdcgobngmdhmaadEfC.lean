/-
  Chapter 10: words for an effect: a box's cells; how a law compares two. Written by tools/ef.gen.py. Own work.
-/
import Derived.Test.YtdcgobngmdhmaadEfB
namespace Go.Proofs.Ytdcgobngmdhmaad
open Go.ChangeShapes Go.WideShapes Go.ChangeAt Go.RowKit
set_option maxRecDepth 100000
set_option linter.unusedVariables false
set_option linter.unusedSimpArgs false

/-- the cells of an effect, in a box -/
theorem BoxR.cells22 {w : World} {g : Nat} {a : Ef} {T : Nat} (h : BoxR w g T #[.int .i64 a.id, .int .i64 a.si, .int .i64 a.sr, .int .i64 a.cl, .int .i64 a.pt.kd, .int .i64 a.pt.wh, .int .i64 a.pt.sr, .int .i64 a.pt.tr, .int .i64 a.pt.pi, .int .i64 a.pt.le, .int .i64 a.pt.zo, .int .i64 a.gd.kd, .int .i64 a.gd.nn, .int .i64 a.ac.kd, .int .i64 a.ac.nn, .int .i64 a.ac.pi, .int .i64 a.ac.si, .int .i64 a.ac.zo, .bool a.ac.be, .slice a.ac.la a.ac.ln a.ac.lcap, .int .i64 a.un, .int .i64 a.le]) : w.cell? ⟨g, 0, none⟩ = some (.int .i64 a.id) ∧ w.cell? ⟨g, 1, none⟩ = some (.int .i64 a.si) ∧ w.cell? ⟨g, 2, none⟩ = some (.int .i64 a.sr) ∧ w.cell? ⟨g, 3, none⟩ = some (.int .i64 a.cl) ∧ w.cell? ⟨g, 4, none⟩ = some (.int .i64 a.pt.kd) ∧ w.cell? ⟨g, 5, none⟩ = some (.int .i64 a.pt.wh) ∧ w.cell? ⟨g, 6, none⟩ = some (.int .i64 a.pt.sr) ∧ w.cell? ⟨g, 7, none⟩ = some (.int .i64 a.pt.tr) ∧ w.cell? ⟨g, 8, none⟩ = some (.int .i64 a.pt.pi) ∧ w.cell? ⟨g, 9, none⟩ = some (.int .i64 a.pt.le) ∧ w.cell? ⟨g, 10, none⟩ = some (.int .i64 a.pt.zo) ∧ w.cell? ⟨g, 11, none⟩ = some (.int .i64 a.gd.kd) ∧ w.cell? ⟨g, 12, none⟩ = some (.int .i64 a.gd.nn) ∧ w.cell? ⟨g, 13, none⟩ = some (.int .i64 a.ac.kd) ∧ w.cell? ⟨g, 14, none⟩ = some (.int .i64 a.ac.nn) ∧ w.cell? ⟨g, 15, none⟩ = some (.int .i64 a.ac.pi) ∧ w.cell? ⟨g, 16, none⟩ = some (.int .i64 a.ac.si) ∧ w.cell? ⟨g, 17, none⟩ = some (.int .i64 a.ac.zo) ∧ w.cell? ⟨g, 18, none⟩ = some (.bool a.ac.be) ∧ w.cell? ⟨g, 19, none⟩ = some (.slice a.ac.la a.ac.ln a.ac.lcap) ∧ w.cell? ⟨g, 20, none⟩ = some (.int .i64 a.un) ∧ w.cell? ⟨g, 21, none⟩ = some (.int .i64 a.le) :=
  ⟨h.cell 0, h.cell 1, h.cell 2, h.cell 3, h.cell 4, h.cell 5, h.cell 6, h.cell 7, h.cell 8, h.cell 9, h.cell 10, h.cell 11, h.cell 12, h.cell 13, h.cell 14, h.cell 15, h.cell 16, h.cell 17, h.cell 18, h.cell 19, h.cell 20, h.cell 21⟩
end Go.Proofs.Ytdcgobngmdhmaad
