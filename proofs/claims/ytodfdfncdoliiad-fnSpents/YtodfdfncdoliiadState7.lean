/-
  The specification's StateOk: its loops. Written by tools/state7.gen.py. Own work.
-/
import Derived.Test.YtodfdfncdoliiadGState62
namespace Go.Proofs.Ytodfdfncdoliiad
open Go.ChangeShapes Go.WideShapes Go.ChangeAt Go.RowKit
set_option maxRecDepth 100000
set_option linter.unusedVariables false
theorem okS_ps {s : Stt} (h : psS s = false) : okS s = false := by unfold okS; rw [h]; simp
theorem okS_ss {s : Stt} (h : ssS s = false) : okS s = false := by unfold okS; rw [h]; simp
theorem okS_yes {s : Stt} (h0 : hdS s = true) (h1 : psS s = true) (h2 : ssS s = true) : okS s = true := by unfold okS; rw [h0, h1, h2]; rfl
end Go.Proofs.Ytodfdfncdoliiad
