/-
  Chapter 9: the program at acts that are alike. Written by tools/ac.gen.py. Own work.
-/
import Derived.Test.YthemmhocnkpcjasAcL
import Derived.Test.YthemmhocnkpcjasAcQ
namespace Go.Proofs.Ythemmhocnkpcjas
open Go.ChangeShapes Go.WideShapes Go.ChangeAt Go.RowKit
set_option maxRecDepth 100000
set_option linter.unusedVariables false
set_option linter.unusedSimpArgs false

theorem implActOk_al {w0 w : World} {B : Nat} {t a : Ac} (h : OwnA w B t) (k : AlikeA t a) (hs : a.ok w0) (hn : a.ln ≤ 1048576) : Calls Try.prog 52 #[(.agg #[.int .i64 t.kd, .int .i64 t.nn, .int .i64 t.pi, .int .i64 t.si, .int .i64 t.zo, .bool t.be, .slice t.la t.ln t.lcap])] w fun e w' => e = .returned (.bool (okAc a)) ∧ Below w.heap.size w w' := by
  rw [← alike_okAc k]; exact implActOk_any t w (okT9 h k hs) (by rw [k.ln]; omega)
theorem implActFits_al {w0 w : World} {B : Nat} {t a : Ac} (c : Int) (h : OwnA w B t) (k : AlikeA t a) (hs : a.ok w0) (hn : a.ln ≤ 1048576) : Calls Try.prog 53 #[(.agg #[.int .i64 t.kd, .int .i64 t.nn, .int .i64 t.pi, .int .i64 t.si, .int .i64 t.zo, .bool t.be, .slice t.la t.ln t.lcap]), .int .i64 c] w fun e w' => e = .returned (.bool (fiA a c)) ∧ Below w.heap.size w w' := by
  rw [← alike_fiA k]; exact implActFits_any t c w
theorem implAmount_al {w0 w : World} {B : Nat} {t a : Ac} (n : Int) (h : OwnA w B t) (k : AlikeA t a) (hs : a.ok w0) (hn : a.ln ≤ 1048576) : Calls Try.prog 11 #[(.agg #[.int .i64 t.kd, .int .i64 t.nn, .int .i64 t.pi, .int .i64 t.si, .int .i64 t.zo, .bool t.be, .slice t.la t.ln t.lcap]), .int .i64 n] w fun e w' => e = .returned (.int .i64 (amA a n)) ∧ Below w.heap.size w w' := by
  rw [← alike_amA k]; exact implAmount_any t n w
theorem implParts_al {w0 w : World} {B : Nat} {t a : Ac} (e : Ev) (h : OwnA w B t) (k : AlikeA t a) (hs : a.ok w0) (hn : a.ln ≤ 1048576) : Calls Try.prog 15 #[(.agg #[.int .i64 t.kd, .int .i64 t.nn, .int .i64 t.pi, .int .i64 t.si, .int .i64 t.zo, .bool t.be, .slice t.la t.ln t.lcap]), (.agg #[.int .i64 e.kd, .int .i64 e.sr, .int .i64 e.pi, .int .i64 e.si, .int .i64 e.nn, .int .i64 e.zo, .bool e.be])] w fun r w' => ∃ q cap, r = .returned (.slice (some ⟨q, 0, none⟩) (paN a) cap) ∧ Below w.heap.size w w' ∧ OwnE evC 7 w' w.heap.size q (some ⟨q, 0, none⟩) (paN a) (paF a e) := by
  rw [← alike_paN k, ← alike_paF k]; exact implParts_any t e w (okT9 h k hs) (by rw [k.ln]; omega)
end Go.Proofs.Ythemmhocnkpcjas
