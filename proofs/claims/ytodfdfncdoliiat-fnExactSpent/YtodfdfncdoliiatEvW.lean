/-
  Chapter 6: the specification's EventOk (okE). Written by tools/ev.gen.py. Own work.
-/
import Derived.Test.YtodfdfncdoliiatEvA
namespace Go.Proofs.Ytodfdfncdoliiat
open Go.ChangeShapes Go.WideShapes Go.ChangeAt Go.RowKit
set_option maxRecDepth 100000
set_option linter.unusedVariables false
set_option linter.unusedSimpArgs false

/-- of a piece; of a side -/
def pcE (e : Ev) : Bool := ib e.pi 1 99 && decide (e.si = -1)
def sdE (e : Ev) : Bool := decide (e.pi = 0) && ib e.si 0 2
def ok1 (e : Ev) : Bool := ib e.sr 1 99 && (pcE e || sdE e) && decide (e.zo = 0) && !e.be
def ok2 (e : Ev) : Bool := decide (e.sr = 0) && pcE e && ib e.zo 1 4 && decide (e.nn ≤ 99) && (decide (e.zo = 2) || decide (e.nn = 0) && !e.be)
def ok3 (e : Ev) : Bool := decide (e.sr = 0) && sdE e && decide (e.zo = 0) && !e.be
def ok5 (e : Ev) : Bool := decide (e.sr = 0) && pcE e && decide (e.zo = 0) && !e.be
/-- whether it may be -/
def okE (e : Ev) : Bool := ib e.nn 0 2147483647 && (if e.kd = 1 then ok1 e else if e.kd = 2 then ok2 e else if e.kd = 3 ∨ e.kd = 4 then ok3 e else if e.kd = 5 ∨ e.kd = 6 then ok5 e else false)
end Go.Proofs.Ytodfdfncdoliiat
