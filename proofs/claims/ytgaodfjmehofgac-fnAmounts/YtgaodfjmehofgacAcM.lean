/-
  Chapter 9: the program at acts that are alike. Written by tools/ac.gen.py. Own work.
-/
import Derived.Test.YtgaodfjmehofgacAcL
import Derived.Test.YtgaodfjmehofgacAcQ
namespace Go.Proofs.Ytgaodfjmehofgac
open Go.ChangeShapes Go.WideShapes Go.ChangeAt Go.RowKit
set_option maxRecDepth 100000
set_option linter.unusedVariables false
set_option linter.unusedSimpArgs false

theorem implActOk_al {w0 w : World} {B : Nat} {t a : Ac} (h : OwnA w B t) (k : AlikeA t a) (hs : a.ok w0) (hn : a.ln ≤ 1048576) : Calls Try.prog 36 #[(.agg #[.int .i64 t.kd, .int .i64 t.nn, .int .i64 t.pi, .int .i64 t.si, .int .i64 t.zo, .bool t.be, .slice t.la t.ln t.lcap])] w fun e w' => e = .returned (.bool (okAc a)) ∧ Below w.heap.size w w' := by
  rw [← alike_okAc k]; exact implActOk_any t w (okT9 h k hs) (by rw [k.ln]; omega)
theorem implAmount_al {w0 w : World} {B : Nat} {t a : Ac} (n : Int) (h : OwnA w B t) (k : AlikeA t a) (hs : a.ok w0) (hn : a.ln ≤ 1048576) : Calls Try.prog 34 #[(.agg #[.int .i64 t.kd, .int .i64 t.nn, .int .i64 t.pi, .int .i64 t.si, .int .i64 t.zo, .bool t.be, .slice t.la t.ln t.lcap]), .int .i64 n] w fun e w' => e = .returned (.int .i64 (amA a n)) ∧ Below w.heap.size w w' := by
  rw [← alike_amA k]; exact implAmount_any t n w
end Go.Proofs.Ytgaodfjmehofgac
