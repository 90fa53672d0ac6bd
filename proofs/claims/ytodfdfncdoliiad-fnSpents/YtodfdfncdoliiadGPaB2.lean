/-
  Chapter 7: the specification's PatOk (okPt): one walk for each test that may be the first to fail. Written by tools/pa.gen.py. Chapter 8: the specification's GuardOk (okGd), Stronger (srG). Written by tools/gu.gen.py. Own work.
-/
import Derived.Test.YtodfdfncdoliiadGPaA3
namespace Go.Proofs.Ytodfdfncdoliiad
open Go.ChangeShapes Go.WideShapes Go.ChangeAt Go.RowKit
set_option maxRecDepth 100000
set_option linter.unusedVariables false
set_option linter.unusedSimpArgs false

def okT7 (p : Pt) : Bool := ib p.kd 1 6 && ib p.wh 0 2 && ib p.pi 0 99 && ib p.le 0 2147483647 && ib p.sr 0 99 && ib p.tr 0 63 && ib p.zo 0 4
/-- whether what is asked for may be asked for -/
def okPt (p : Pt) : Bool := okT7 p && (decide (p.kd = 1) || (decide (p.sr = 0) && decide (p.tr = 0))) && (decide (p.kd = 2) || decide (p.zo = 0)) && ((!decide (p.kd = 3) && !decide (p.kd = 4)) || decide (p.pi = 0))
end Go.Proofs.Ytodfdfncdoliiad
namespace Go.Proofs.Ytodfdfncdoliiad
open Go.ChangeShapes Go.WideShapes Go.ChangeAt Go.RowKit
set_option maxRecDepth 100000
set_option linter.unusedVariables false
set_option linter.unusedSimpArgs false

/-- whether a guard may be asked -/
def okGd (g : Gd) : Bool := bif decide (g.kd = 0) || decide (g.kd = 3) then decide (g.nn = 0) else bif decide (g.kd = 1) then ib g.nn (-2147483647) 2147483647 else (decide (g.kd = 2) || decide (g.kd = 4)) && ib g.nn 0 8
/-- whether the one holds wherever the other does -/
def srG (g h : Gd) : Bool := okGd g && okGd h && (decide (h.kd = 0) || (decide (g.kd = h.kd) && (bif decide (g.kd = 1) then decide (g.nn ≤ h.nn) else decide (h.nn ≤ g.nn))))
end Go.Proofs.Ytodfdfncdoliiad
