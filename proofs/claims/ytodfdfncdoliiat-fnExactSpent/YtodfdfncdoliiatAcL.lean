/-
  Chapter 9: the specification at acts that are alike. Written by tools/ac.gen.py. Own work.
-/
import Derived.Test.YtodfdfncdoliiatAcC
import Derived.Test.YtodfdfncdoliiatAcD
namespace Go.Proofs.Ytodfdfncdoliiat
open Go.ChangeShapes Go.WideShapes Go.ChangeAt Go.RowKit
set_option maxRecDepth 100000
set_option linter.unusedVariables false
set_option linter.unusedSimpArgs false

theorem alike_okAc {t a : Ac} (h : AlikeA t a) : okAc t = okAc a := by unfold okAc plA ac6 ac7 ac8 ac9; rw [h.kd, h.nn, h.pi, h.si, h.zo, h.be, h.ln, h.es]
theorem alike_fiA {t a : Ac} (h : AlikeA t a) (k : Int) : fiA t k = fiA a k := by unfold fiA; rw [h.kd]
theorem alike_amA {t a : Ac} (h : AlikeA t a) (n : Int) : amA t n = amA a n := by unfold amA; rw [h.kd, h.nn]
theorem alike_paN {t a : Ac} (h : AlikeA t a) : paN t = paN a := by unfold paN; rw [h.kd, h.ln]
theorem alike_paF {t a : Ac} (h : AlikeA t a) (e : Ev) : paF t e = paF a e := by unfold paF; rw [h.es]
theorem specActOk_al {w0 w : World} {B : Nat} {t a : Ac} (h : OwnA w B t) (k : AlikeA t a) (hs : a.ok w0) (hn : a.ln ≤ 1048576) : Calls Try.prog 63 #[(.agg #[.int .i64 t.kd, .int .i64 t.nn, .int .i64 t.pi, .int .i64 t.si, .int .i64 t.zo, .bool t.be, .slice t.la t.ln t.lcap])] w fun e w' => e = .returned (.bool (okAc a)) ∧ Below w.heap.size w w' := by
  rw [← alike_okAc k]; exact specActOk_any t w (okT9 h k hs) (by rw [k.ln]; omega)
theorem specActFits_al {w0 w : World} {B : Nat} {t a : Ac} (c : Int) (h : OwnA w B t) (k : AlikeA t a) (hs : a.ok w0) (hn : a.ln ≤ 1048576) : Calls Try.prog 64 #[(.agg #[.int .i64 t.kd, .int .i64 t.nn, .int .i64 t.pi, .int .i64 t.si, .int .i64 t.zo, .bool t.be, .slice t.la t.ln t.lcap]), .int .i64 c] w fun e w' => e = .returned (.bool (fiA a c)) ∧ Below w.heap.size w w' := by
  rw [← alike_fiA k]; exact specActFits_any t c w
end Go.Proofs.Ytodfdfncdoliiat
