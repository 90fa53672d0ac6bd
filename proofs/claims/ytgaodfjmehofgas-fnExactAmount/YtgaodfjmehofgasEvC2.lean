/-
  Chapter 6: the program's things, going on. Written by tools/ev.gen.py. Own work.
-/
import Derived.Test.YtgaodfjmehofgasEvC
namespace Go.Proofs.Ytgaodfjmehofgas
open Go.ChangeShapes Go.WideShapes Go.ChangeAt Go.RowKit
set_option maxRecDepth 100000
set_option linter.unusedVariables false
set_option linter.unusedSimpArgs false

def ev_pm (e : Ev) : Ev := ⟨2, 0, e.pi, -1, e.nn, e.zo, e.be⟩
def ok_pm (e : Ev) : Bool := ib e.pi 1 99 && enE e.zo e.nn e.be
def rt_pm (e : Ev) : Bool := smE (ev_pm e) e && ok_pm e
def ev_sg (e : Ev) : Ev := ⟨3, 0, 0, e.si, e.nn, 0, false⟩
def ok_sg (e : Ev) : Bool := ib e.si 0 2 && ib e.nn 0 2147483647
def rt_sg (e : Ev) : Bool := smE (ev_sg e) e && ok_sg e
end Go.Proofs.Ytgaodfjmehofgas
