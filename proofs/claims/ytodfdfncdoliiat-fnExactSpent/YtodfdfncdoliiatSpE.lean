/-
  Chapter 10, the program: Spent at effects that are alike. Written by tools/sp.gen.py. Own work.
-/
import Derived.Test.YtodfdfncdoliiatSpC
import Derived.Test.YtodfdfncdoliiatSpD
namespace Go.Proofs.Ytodfdfncdoliiat
open Go.ChangeShapes Go.WideShapes Go.ChangeAt Go.RowKit
set_option maxRecDepth 100000
set_option linter.unusedVariables false
set_option linter.unusedSimpArgs false

theorem implSpent_al {w0 w : World} {B : Nat} {t a : Ef} (n : Int) (h : OwnF w B t) (k : AlikeF t a) (hs : a.ok w0) (hn : a.ac.ln ≤ 1048576) : Calls Try.prog 15 #[(.agg #[.int .i64 t.id, .int .i64 t.si, .int .i64 t.sr, .int .i64 t.cl, .int .i64 t.pt.kd, .int .i64 t.pt.wh, .int .i64 t.pt.sr, .int .i64 t.pt.tr, .int .i64 t.pt.pi, .int .i64 t.pt.le, .int .i64 t.pt.zo, .int .i64 t.gd.kd, .int .i64 t.gd.nn, .int .i64 t.ac.kd, .int .i64 t.ac.nn, .int .i64 t.ac.pi, .int .i64 t.ac.si, .int .i64 t.ac.zo, .bool t.ac.be, .slice t.ac.la t.ac.ln t.ac.lcap, .int .i64 t.un, .int .i64 t.le]), .int .i64 n] w fun e w' => ∃ q : Ef, e = .returned (.agg #[.int .i64 q.id, .int .i64 q.si, .int .i64 q.sr, .int .i64 q.cl, .int .i64 q.pt.kd, .int .i64 q.pt.wh, .int .i64 q.pt.sr, .int .i64 q.pt.tr, .int .i64 q.pt.pi, .int .i64 q.pt.le, .int .i64 q.pt.zo, .int .i64 q.gd.kd, .int .i64 q.gd.nn, .int .i64 q.ac.kd, .int .i64 q.ac.nn, .int .i64 q.ac.pi, .int .i64 q.ac.si, .int .i64 q.ac.zo, .bool q.ac.be, .slice q.ac.la q.ac.ln q.ac.lcap, .int .i64 q.un, .int .i64 q.le]) ∧ Below w.heap.size w w' ∧ OwnF w' w.heap.size q ∧ AlikeF q (spE a n) :=
  (implSpent_any t n w (okT10 h k hs).w (by rw [k.ac.ln]; omega)).mono (by rintro e w' ⟨q, h1, h2, h3, h4⟩; exact ⟨q, h1, h2, h3, alike_spE h4 k⟩)
end Go.Proofs.Ytodfdfncdoliiat
