/-
  Chapter 6: the program's things, going on. Written by tools/ev.gen.py. Own work.
-/
import Derived.Test.YtgaodfjmehofgasEvC
namespace Go.Proofs.Ytgaodfjmehofgas
open Go.ChangeShapes Go.WideShapes Go.ChangeAt Go.RowKit
set_option maxRecDepth 100000
set_option linter.unusedVariables false
set_option linter.unusedSimpArgs false

def ev_sl (e : Ev) : Ev := ⟨4, 0, 0, e.si, e.nn, 0, false⟩
def ok_sl (e : Ev) : Bool := ib e.si 0 2 && ib e.nn 0 2147483647
def rt_sl (e : Ev) : Bool := smE (ev_sl e) e && ok_sl e
def ev_pp (e : Ev) : Ev := ⟨5, 0, e.pi, -1, e.nn, 0, false⟩
def ok_pp (e : Ev) : Bool := ib e.pi 1 99 && ib e.nn 0 2147483647
def rt_pp (e : Ev) : Bool := smE (ev_pp e) e && ok_pp e
def ev_pc (e : Ev) : Ev := ⟨6, 0, e.pi, -1, e.nn, 0, false⟩
def ok_pc (e : Ev) : Bool := ib e.pi 1 99 && ib e.nn 0 2147483647
def rt_pc (e : Ev) : Bool := smE (ev_pc e) e && ok_pc e
end Go.Proofs.Ytgaodfjmehofgas
