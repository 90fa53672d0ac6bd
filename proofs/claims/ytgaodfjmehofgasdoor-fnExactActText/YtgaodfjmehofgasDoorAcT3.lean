/-
  Chapter 9: what acts that are alike say. Written by tools/exactact.py. Own work.
-/
import Derived.Test.YtgaodfjmehofgasDoorAcT2
import Derived.Test.YtgaodfjmehofgasDoorAcL
namespace Go.Proofs.YtgaodfjmehofgasDoor
open Go.ChangeShapes Go.WideShapes Go.ChangeAt Go.RowKit
set_option maxRecDepth 100000
set_option linter.unusedVariables false
set_option linter.unusedSimpArgs false

theorem alike_txA {t a : Ac} (h : AlikeA t a) : txA t = txA a := by unfold txA wdA aiT; rw [alike_okAc h, h.kd, h.nn, h.pi, h.si, h.zo, h.be, h.ln]
theorem specActText_al {w0 w : World} {B : Nat} {t a : Ac} (h : OwnA w B t) (k : AlikeA t a) (hs : a.ok w0) (hn : a.ln ≤ 1048576) : Calls Tryd.prog 5 #[(.agg #[.int .i64 t.kd, .int .i64 t.nn, .int .i64 t.pi, .int .i64 t.si, .int .i64 t.zo, .bool t.be, .slice t.la t.ln t.lcap])] w fun e w' => e = .returned (.string (txA a)) ∧ Below w.heap.size w w' := by
  rw [← alike_txA k]; exact specActText_any t w (okT9 h k hs) (by rw [k.ln]; omega)
theorem implActText_al {w0 w : World} {B : Nat} {t a : Ac} (h : OwnA w B t) (k : AlikeA t a) (hs : a.ok w0) (hn : a.ln ≤ 1048576) (ht : Pow w) : Calls Tryd.prog 7 #[(.agg #[.int .i64 t.kd, .int .i64 t.nn, .int .i64 t.pi, .int .i64 t.si, .int .i64 t.zo, .bool t.be, .slice t.la t.ln t.lcap])] w fun e w' => e = .returned (.string (txA a)) ∧ Below w.heap.size w w' := by
  rw [← alike_txA k]; exact implActText_any t w (okT9 h k hs) (by rw [k.ln]; omega) ht
end Go.Proofs.YtgaodfjmehofgasDoor
