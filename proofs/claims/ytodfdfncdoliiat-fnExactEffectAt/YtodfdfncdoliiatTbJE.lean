/-
  Chapter 11, the program: at lists of effects that are alike: TableOk. Written by tools/tab.gen.py. Own work.
-/
import Derived.Test.YtodfdfncdoliiatTaJ
import Derived.Test.YtodfdfncdoliiatTbE
namespace Go.Proofs.Ytodfdfncdoliiat
open Go.ChangeShapes Go.WideShapes Go.ChangeAt Go.RowKit
set_option maxRecDepth 100000
set_option linter.unusedVariables false
set_option linter.unusedSimpArgs false

theorem implTableOk_al {w0 w : World} {B : Nat} {t a : Tb} (h : OwnTb w B t) (k : AlikeT t a) (hs : a.ok w0) (hn : a.n ≤ 1048576) (hl : ∀ i, i < a.n → (a.f i).ac.ln ≤ 1048576) : Calls Try.prog 21 #[.slice t.p t.n t.cap] w fun e w' => e = .returned (.bool (okTb a.n a.f)) ∧ Below w.heap.size w w' := by
  rw [← okTb_alike k.f, ← k.n]; exact implTableOk_any t w (okW_al h k hs hl)
end Go.Proofs.Ytodfdfncdoliiat
