/-
  Chapter 9: the specification at acts that are alike. Written by tools/ac.gen.py. Own work.
-/
import Derived.Test.YtdcgobngmdhmaatAcC
import Derived.Test.YtdcgobngmdhmaatAcD
namespace Go.Proofs.Ytdcgobngmdhmaat
open Go.ChangeShapes Go.WideShapes Go.ChangeAt Go.RowKit
set_option maxRecDepth 100000
set_option linter.unusedVariables false
set_option linter.unusedSimpArgs false

theorem alike_okAc {t a : Ac} (h : AlikeA t a) : okAc t = okAc a := by unfold okAc plA ac6 ac7 ac8 ac9; rw [h.kd, h.nn, h.pi, h.si, h.zo, h.be, h.ln, h.es]
theorem alike_fiA {t a : Ac} (h : AlikeA t a) (k : Int) : fiA t k = fiA a k := by unfold fiA; rw [h.kd]
theorem alike_amA {t a : Ac} (h : AlikeA t a) (n : Int) : amA t n = amA a n := by unfold amA; rw [h.kd, h.nn]
theorem alike_paN {t a : Ac} (h : AlikeA t a) : paN t = paN a := by unfold paN; rw [h.kd, h.ln]
theorem alike_paF {t a : Ac} (h : AlikeA t a) (e : Ev) : paF t e = paF a e := by unfold paF; rw [h.es]
end Go.Proofs.Ytdcgobngmdhmaat
