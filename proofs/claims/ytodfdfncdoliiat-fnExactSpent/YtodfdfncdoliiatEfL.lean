/-
  Chapter 10: the specification at effects that are alike. Written by tools/ef.gen.py. Own work.
-/
import Derived.Test.YtodfdfncdoliiatEfD
import Derived.Test.YtodfdfncdoliiatEfE
import Derived.Test.YtodfdfncdoliiatAcL
namespace Go.Proofs.Ytodfdfncdoliiat
open Go.ChangeShapes Go.WideShapes Go.ChangeAt Go.RowKit
set_option maxRecDepth 100000
set_option linter.unusedVariables false
set_option linter.unusedSimpArgs false

theorem alike_okEf {t a : Ef} (h : AlikeF t a) : okEf t = okEf a := by unfold okEf hdE cdE; rw [h.id, h.si, h.sr, h.cl, h.pt, h.gd, h.un, h.le, alike_okAc h.ac, alike_fiA h.ac, h.ac.kd]
theorem alike_lvE {t a : Ef} (h : AlikeF t a) (c : Int) : lvE t c = lvE a c := by unfold lvE; rw [h.un, h.le]
theorem alike_nrE {t a : Ef} (h : AlikeF t a) (v : Ev) : nrE t v = nrE a v := by unfold nrE; rw [h.cl, h.sr]
theorem alike_smEf {t a s b : Ef} (h : AlikeF t a) (k : AlikeF s b) : smEf t s = smEf a b := by unfold smEf smH smK; rw [h.id, h.si, h.sr, h.cl, h.pt, h.gd, h.un, h.le, h.ac.kd, h.ac.nn, h.ac.pi, h.ac.si, h.ac.zo, h.ac.be, h.ac.ln, h.ac.es, k.id, k.si, k.sr, k.cl, k.pt, k.gd, k.un, k.le, k.ac.kd, k.ac.nn, k.ac.pi, k.ac.si, k.ac.zo, k.ac.be, k.ac.ln, k.ac.es]
theorem specEffectOk_al {w0 w : World} {B : Nat} {t a : Ef} (h : OwnF w B t) (k : AlikeF t a) (hs : a.ok w0) (hn : a.ac.ln ≤ 1048576) : Calls Try.prog 43 #[(.agg #[.int .i64 t.id, .int .i64 t.si, .int .i64 t.sr, .int .i64 t.cl, .int .i64 t.pt.kd, .int .i64 t.pt.wh, .int .i64 t.pt.sr, .int .i64 t.pt.tr, .int .i64 t.pt.pi, .int .i64 t.pt.le, .int .i64 t.pt.zo, .int .i64 t.gd.kd, .int .i64 t.gd.nn, .int .i64 t.ac.kd, .int .i64 t.ac.nn, .int .i64 t.ac.pi, .int .i64 t.ac.si, .int .i64 t.ac.zo, .bool t.ac.be, .slice t.ac.la t.ac.ln t.ac.lcap, .int .i64 t.un, .int .i64 t.le])] w fun e w' => e = .returned (.bool (okEf a)) ∧ Below w.heap.size w w' := by
  rw [← alike_okEf k]; exact specEffectOk_any t w (okT10 h k hs).w (by rw [k.ac.ln]; omega)
theorem specNear_al {w0 w : World} {B : Nat} {t a : Ef} (v : Ev) (h : OwnF w B t) (k : AlikeF t a) (hs : a.ok w0) (hn : a.ac.ln ≤ 1048576) : Calls Try.prog 9 #[(.agg #[.int .i64 t.id, .int .i64 t.si, .int .i64 t.sr, .int .i64 t.cl, .int .i64 t.pt.kd, .int .i64 t.pt.wh, .int .i64 t.pt.sr, .int .i64 t.pt.tr, .int .i64 t.pt.pi, .int .i64 t.pt.le, .int .i64 t.pt.zo, .int .i64 t.gd.kd, .int .i64 t.gd.nn, .int .i64 t.ac.kd, .int .i64 t.ac.nn, .int .i64 t.ac.pi, .int .i64 t.ac.si, .int .i64 t.ac.zo, .bool t.ac.be, .slice t.ac.la t.ac.ln t.ac.lcap, .int .i64 t.un, .int .i64 t.le]), (.agg #[.int .i64 v.kd, .int .i64 v.sr, .int .i64 v.pi, .int .i64 v.si, .int .i64 v.nn, .int .i64 v.zo, .bool v.be])] w fun e w' => e = .returned (.bool (nrE a v)) ∧ Below w.heap.size w w' := by
  rw [← alike_nrE k]; exact specNear_any t v w
theorem specSameEffect_al {w0 w : World} {B1 B2 : Nat} {t s a b : Ef} (h1 : OwnF w B1 t) (k1 : AlikeF t a) (h2 : OwnF w B2 s) (k2 : AlikeF s b) (ha : a.ok w0) (hb : b.ok w0) (hn : a.ac.ln ≤ 1048576) : Calls Try.prog 45 #[(.agg #[.int .i64 t.id, .int .i64 t.si, .int .i64 t.sr, .int .i64 t.cl, .int .i64 t.pt.kd, .int .i64 t.pt.wh, .int .i64 t.pt.sr, .int .i64 t.pt.tr, .int .i64 t.pt.pi, .int .i64 t.pt.le, .int .i64 t.pt.zo, .int .i64 t.gd.kd, .int .i64 t.gd.nn, .int .i64 t.ac.kd, .int .i64 t.ac.nn, .int .i64 t.ac.pi, .int .i64 t.ac.si, .int .i64 t.ac.zo, .bool t.ac.be, .slice t.ac.la t.ac.ln t.ac.lcap, .int .i64 t.un, .int .i64 t.le]), (.agg #[.int .i64 s.id, .int .i64 s.si, .int .i64 s.sr, .int .i64 s.cl, .int .i64 s.pt.kd, .int .i64 s.pt.wh, .int .i64 s.pt.sr, .int .i64 s.pt.tr, .int .i64 s.pt.pi, .int .i64 s.pt.le, .int .i64 s.pt.zo, .int .i64 s.gd.kd, .int .i64 s.gd.nn, .int .i64 s.ac.kd, .int .i64 s.ac.nn, .int .i64 s.ac.pi, .int .i64 s.ac.si, .int .i64 s.ac.zo, .bool s.ac.be, .slice s.ac.la s.ac.ln s.ac.lcap, .int .i64 s.un, .int .i64 s.le])] w fun e w' => e = .returned (.bool (smEf a b)) ∧ Below w.heap.size w w' := by
  rw [← alike_smEf k1 k2]; exact specSameEffect_any t s w (okT10 h1 k1 ha).w (okT10 h2 k2 hb).w (by rw [k1.ac.ln]; omega)
end Go.Proofs.Ytodfdfncdoliiat
