/-
  Chapter 8: the specification's GuardOk (okGd), Stronger (srG). Written by tools/gu.gen.py. Own work.
-/
import Derived.Test.YtdcgobngmdhmaatGuA
namespace Go.Proofs.Ytdcgobngmdhmaat
open Go.ChangeShapes Go.WideShapes Go.ChangeAt Go.RowKit
set_option maxRecDepth 100000
set_option linter.unusedVariables false
set_option linter.unusedSimpArgs false

/-- whether a guard may be asked -/
def okGd (g : Gd) : Bool := bif decide (g.kd = 0) || decide (g.kd = 3) then decide (g.nn = 0) else bif decide (g.kd = 1) then ib g.nn (-2147483647) 2147483647 else (decide (g.kd = 2) || decide (g.kd = 4)) && ib g.nn 0 8
/-- whether the one holds wherever the other does -/
def srG (g h : Gd) : Bool := okGd g && okGd h && (decide (h.kd = 0) || (decide (g.kd = h.kd) && (bif decide (g.kd = 1) then decide (g.nn ≤ h.nn) else decide (h.nn ≤ g.nn))))
end Go.Proofs.Ytdcgobngmdhmaat
