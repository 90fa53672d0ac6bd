/-
  Chapter 9: words for an act (Ac): how a law's own is opened, taken over, measured, compared, marked. Written by tools/ac.gen.py. Own work.
-/
import Derived.Test.YtdcgobngmdhmaadAcR
namespace Go.Proofs.Ytdcgobngmdhmaad
open Go.ChangeShapes Go.WideShapes Go.ChangeAt Go.RowKit
set_option maxRecDepth 100000
set_option linter.unusedVariables false
set_option linter.unusedSimpArgs false

/-- an act as it came in -/
structure Ac where
  (kd nn pi si zo : Int)
  (be : Bool)
  (la : Option Addr)
  (ln lcap lb : Nat)
  (es : Nat → Ev)
def Ac.ok (a : Ac) (w : World) : Prop := a.ln ≤ a.lcap ∧ a.lcap ≤ maxLen ∧ RdE evC 7 w a.lb a.la a.ln a.es ∧ (∀ x ∈ [a.kd, a.nn, a.pi, a.si, a.zo], (Lit.int .i64 x).wf = true) ∧ (∀ i, i < a.ln → (a.es i).wf)
theorem act_grew {a : Ac} {w w' : World} (h : a.ok w) (hb : Below w.heap.size w w') : a.ok w' := ⟨h.1, h.2.1, h.2.2.1.grew evC_ne hb, h.2.2.2⟩
theorem OwnE.onlyE {α : Type} {C : α → List Value} {m : Nat} {w w' : World} {B b p : Nat} {a : Option Addr} {n : Nat} {f : Nat → α} (h : OwnE C m w B b a n f) (ho : Only p w w') (hp : b ≠ p) : OwnE C m w' B b a n f := h.same (ho.block b h.2.1 hp) ho.size
/-- they say the same, wherever their lists lie -/
structure AlikeA (t a : Ac) : Prop where
  kd : t.kd = a.kd
  nn : t.nn = a.nn
  pi : t.pi = a.pi
  si : t.si = a.si
  zo : t.zo = a.zo
  be : t.be = a.be
  ln : t.ln = a.ln
  es : t.es = a.es
/-- the call's own -/
def OwnA (w : World) (B : Nat) (t : Ac) : Prop := t.ln ≤ t.lcap ∧ t.lcap ≤ maxLen ∧ OwnE evC 7 w B t.lb t.la t.ln t.es
theorem OwnA.grew {w w' : World} {B : Nat} {t : Ac} (h : OwnA w B t) (hb : Below w.heap.size w w') : OwnA w' B t := ⟨h.1, h.2.1, h.2.2.grew hb⟩
theorem okT9 {t a : Ac} {w w0 : World} {B : Nat} (h : OwnA w B t) (k : AlikeA t a) (hs : a.ok w0) : t.ok w := by
  refine ⟨h.1, h.2.1, h.2.2.rd, ?_, ?_⟩
  · rw [k.kd, k.nn, k.pi, k.si, k.zo]; exact hs.2.2.2.1
  · rw [k.ln, k.es]; exact hs.2.2.2.2
end Go.Proofs.Ytdcgobngmdhmaad
