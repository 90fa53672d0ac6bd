/-
  Chapter 7: the specification's Narrower (nrP). Written by tools/pa.gen.py. Own work.
-/
import Derived.Test.YtodfdfncdoliiadGPaB2
namespace Go.Proofs.Ytodfdfncdoliiad
open Go.ChangeShapes Go.WideShapes Go.ChangeAt Go.RowKit
set_option maxRecDepth 100000
set_option linter.unusedVariables false
set_option linter.unusedSimpArgs false

/-- what is asked for behind the two tests: the kinds, the traits, how much at least -/
def nrA (p q : Pt) : Bool := decide (p.kd = q.kd) && decide (bits .and .i64 p.tr q.tr = q.tr) && decide (q.le ≤ p.le)
def orS (x y : Int) : Bool := decide (x = 0) || decide (x = y)
def nrB (p q : Pt) : Bool := orS q.wh p.wh && orS q.sr p.sr && orS q.pi p.pi && orS q.zo p.zo
/-- whether p asks for all that q asks for -/
def nrP (p q : Pt) : Bool := okPt p && okPt q && nrA p q && nrB p q
end Go.Proofs.Ytodfdfncdoliiad
