/-
  Chapter 7: the specification's PatOk (okPt): one walk for each test that may be the first to fail. Written by tools/pa.gen.py. Own work.
-/
import Derived.Test.YtdcgobngmdhmaatPaA
namespace Go.Proofs.Ytdcgobngmdhmaat
open Go.ChangeShapes Go.WideShapes Go.ChangeAt Go.RowKit
set_option maxRecDepth 100000
set_option linter.unusedVariables false
set_option linter.unusedSimpArgs false

def okT7 (p : Pt) : Bool := ib p.kd 1 6 && ib p.wh 0 2 && ib p.pi 0 99 && ib p.le 0 2147483647 && ib p.sr 0 99 && ib p.tr 0 63 && ib p.zo 0 4
/-- whether what is asked for may be asked for -/
def okPt (p : Pt) : Bool := okT7 p && (decide (p.kd = 1) || (decide (p.sr = 0) && decide (p.tr = 0))) && (decide (p.kd = 2) || decide (p.zo = 0)) && ((!decide (p.kd = 3) && !decide (p.kd = 4)) || decide (p.pi = 0))
end Go.Proofs.Ytdcgobngmdhmaat
