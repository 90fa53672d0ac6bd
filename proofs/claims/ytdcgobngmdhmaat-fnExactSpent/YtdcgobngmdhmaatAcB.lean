/-
  Chapter 9: the specification's l9Part, l9Plain, ActFits (fiA), Amount (amA). Written by tools/ac.gen.py. Own work.
-/
import Derived.Test.YtdcgobngmdhmaatAcA
import Derived.Test.YtdcgobngmdhmaatEvB
import Derived.Test.YtdcgobngmdhmaatNum
namespace Go.Proofs.Ytdcgobngmdhmaat
open Go.ChangeShapes Go.WideShapes Go.ChangeAt Go.RowKit
set_option maxRecDepth 100000
set_option linter.unusedVariables false
set_option linter.unusedSimpArgs false

/-- whether a part is right: as it stands, or with another amount -/
def ptE (e : Ev) : Bool := okE (bif decide (e.nn = -1) && !decide (e.kd = 2) then { e with nn := 0 } else e)
/-- whether an act names nothing but its kind, and perhaps an amount -/
def plA (a : Ac) : Bool := decide (a.pi = 0) && decide (a.si = -1) && decide (a.zo = 0) && !a.be && decide (a.ln = 0)
def fiA (a : Ac) (k : Int) : Bool := ib k 1 6 && (bif decide (a.kd = 2) || decide (a.kd = 6) then decide (k = 1) else bif decide (a.kd = 3) || decide (a.kd = 4) || decide (a.kd = 5) then !decide (k = 2) else bif decide (a.kd = 7) || decide (a.kd = 8) then decide (k = 2) else decide (a.kd = 1) || decide (a.kd = 9))
def amA (a : Ac) (n : Int) : Int := if a.kd = 1 then 0 else if a.kd = 3 then pl (up n 2147483647) a.nn else if a.kd = 4 then tw (up n 2147483647) else if a.kd = 5 then hf (up n 2147483647) else up n 2147483647
end Go.Proofs.Ytdcgobngmdhmaat
