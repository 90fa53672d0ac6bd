/-
  Chapter 10: the program at effects that are alike. Written by tools/ef.gen.py. Own work.
-/
import Derived.Test.YthemmhocnkpcjasEfL
import Derived.Test.YthemmhocnkpcjasEfS
namespace Go.Proofs.Ythemmhocnkpcjas
open Go.ChangeShapes Go.WideShapes Go.ChangeAt Go.RowKit
set_option maxRecDepth 100000
set_option linter.unusedVariables false
set_option linter.unusedSimpArgs false

theorem implSameEffect_al {w0 w : World} {B1 B2 : Nat} {t s a b : Ef} (h1 : OwnF w B1 t) (k1 : AlikeF t a) (h2 : OwnF w B2 s) (k2 : AlikeF s b) (ha : a.ok w0) (hb : b.ok w0) (hn : a.ac.ln ≤ 1048576) : Calls Try.prog 26 #[(.agg #[.int .i64 t.id, .int .i64 t.si, .int .i64 t.sr, .int .i64 t.cl, .int .i64 t.pt.kd, .int .i64 t.pt.wh, .int .i64 t.pt.sr, .int .i64 t.pt.tr, .int .i64 t.pt.pi, .int .i64 t.pt.le, .int .i64 t.pt.zo, .int .i64 t.gd.kd, .int .i64 t.gd.nn, .int .i64 t.ac.kd, .int .i64 t.ac.nn, .int .i64 t.ac.pi, .int .i64 t.ac.si, .int .i64 t.ac.zo, .bool t.ac.be, .slice t.ac.la t.ac.ln t.ac.lcap, .int .i64 t.un, .int .i64 t.le]), (.agg #[.int .i64 s.id, .int .i64 s.si, .int .i64 s.sr, .int .i64 s.cl, .int .i64 s.pt.kd, .int .i64 s.pt.wh, .int .i64 s.pt.sr, .int .i64 s.pt.tr, .int .i64 s.pt.pi, .int .i64 s.pt.le, .int .i64 s.pt.zo, .int .i64 s.gd.kd, .int .i64 s.gd.nn, .int .i64 s.ac.kd, .int .i64 s.ac.nn, .int .i64 s.ac.pi, .int .i64 s.ac.si, .int .i64 s.ac.zo, .bool s.ac.be, .slice s.ac.la s.ac.ln s.ac.lcap, .int .i64 s.un, .int .i64 s.le])] w fun e w' => e = .returned (.bool (smEf a b)) ∧ Below w.heap.size w w' := by
  rw [← alike_smEf k1 k2]; exact implSameEffect_any t s w (okT10 h1 k1 ha) (okT10 h2 k2 hb) (by rw [k1.ac.ln]; omega)
end Go.Proofs.Ythemmhocnkpcjas
