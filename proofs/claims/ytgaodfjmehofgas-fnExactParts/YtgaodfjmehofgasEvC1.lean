/-
  Chapter 6: the program's things, going on. Written by tools/ev.gen.py. Own work.
-/
import Derived.Test.YtgaodfjmehofgasEvC
namespace Go.Proofs.Ytgaodfjmehofgas
open Go.ChangeShapes Go.WideShapes Go.ChangeAt Go.RowKit
set_option maxRecDepth 100000
set_option linter.unusedVariables false
set_option linter.unusedSimpArgs false

def ev_ph (e : Ev) : Ev := ⟨1, e.sr, e.pi, -1, e.nn, 0, false⟩
def ok_ph (e : Ev) : Bool := ib e.sr 1 99 && ib e.pi 1 99 && ib e.nn 0 2147483647
def rt_ph (e : Ev) : Bool := smE (ev_ph e) e && ok_ph e
def ev_sh (e : Ev) : Ev := ⟨1, e.sr, 0, e.si, e.nn, 0, false⟩
def ok_sh (e : Ev) : Bool := ib e.sr 1 99 && ib e.si 0 2 && ib e.nn 0 2147483647
def rt_sh (e : Ev) : Bool := smE (ev_sh e) e && ok_sh e
end Go.Proofs.Ytgaodfjmehofgas
