/-
  Chapter 10: words for an effect (Ef): how a law's own is opened, measured. Written by tools/ef.gen.py. Own work.
-/
import Derived.Test.YtdcgobngmdhmaadAcA
import Derived.Test.YtdcgobngmdhmaadGPaA2
namespace Go.Proofs.Ytdcgobngmdhmaad
open Go.ChangeShapes Go.WideShapes Go.ChangeAt Go.RowKit
set_option maxRecDepth 100000
set_option linter.unusedVariables false
set_option linter.unusedSimpArgs false

/-- an effect as it came in -/
structure Ef where
  (id si sr cl : Int)
  (pt : Pt)
  (gd : Gd)
  (ac : Ac)
  (un le : Int)
def Ef.ok (a : Ef) (w : World) : Prop := a.ac.ok w ∧ (∀ x ∈ [a.id, a.si, a.sr, a.cl, a.un, a.le], (Lit.int .i64 x).wf = true) ∧ a.pt.wf ∧ a.gd.wf
/-- what the functions of this chapter need of it -/
def Ef.okW (a : Ef) (w : World) : Prop := a.ac.ok w ∧ (Lit.int .i64 a.le).wf = true
theorem Ef.ok.w {a : Ef} {w : World} (h : a.ok w) : a.okW w := ⟨h.1, h.2.1 a.le (by simp)⟩
theorem efw_grew {a : Ef} {w w' : World} (h : a.okW w) (hb : Below w.heap.size w w') : a.okW w' := ⟨act_grew h.1 hb, h.2⟩
theorem ef_grew {a : Ef} {w w' : World} (h : a.ok w) (hb : Below w.heap.size w w') : a.ok w' := ⟨act_grew h.1 hb, h.2⟩
/-- a struct, field by field: what cells each takes -/
theorem open_structN {H : Type} {enc : TypeId × Value → H} {Q : Program} {w : World} {base : Nat} {spare : TypeId → Bool} {held : Bool} {r : Reach} {b0 : Nat} {t : TypeId} {fs : Array Field} {v : Value} {d : DataW H} {p : List MemPlace} (hs : Q.underlying t = some (.struct fs))
    (hv : Value.okWide Q w r b0 t v) (h : DataW.Trod enc Q w base spare held t v d p) :
    ∃ cs : List Value, v = .agg cs.toArray ∧ cs.length = Q.cellsOf t ∧ ∀ (i : Nat) (f : Field), fs[i]? = some f → ∃ n y, DataW.trod enc Q w base spare held n f.type ((cs.drop f.offset).take (Q.cellsOf f.type)) = some y := by
  obtain ⟨cs, rfl, hsz⟩ := okWide_struct hs hv
  obtain ⟨fuel, hf⟩ := h
  obtain ⟨xs, n, _, _, _, hlen, hx⟩ := DataW.trod_struct hs hf
  refine ⟨cs.toList, by simp, by simp [hsz], fun i f hfi => ?_⟩
  have h1 := hx i f hfi
  have hi : i < xs.length := by rw [hlen]; exact (Array.getElem?_eq_some_iff.1 hfi).1
  rw [List.getElem?_eq_getElem hi] at h1
  exact ⟨n, _, h1⟩
theorem list22 {α : Type} : ∀ {l : List α}, l.length = 22 → ∃ x0 x1 x2 x3 x4 x5 x6 x7 x8 x9 x10 x11 x12 x13 x14 x15 x16 x17 x18 x19 x20 x21, l = [x0, x1, x2, x3, x4, x5, x6, x7, x8, x9, x10, x11, x12, x13, x14, x15, x16, x17, x18, x19, x20, x21]
  | [x0, x1, x2, x3, x4, x5, x6, x7, x8, x9, x10, x11, x12, x13, x14, x15, x16, x17, x18, x19, x20, x21], _ => ⟨x0, x1, x2, x3, x4, x5, x6, x7, x8, x9, x10, x11, x12, x13, x14, x15, x16, x17, x18, x19, x20, x21, rfl⟩
/-- the cells of the act that an effect holds, in a box -/
theorem BoxR.acts {w : World} {g : Nat} {a : Ef} {T : Nat} (h : BoxR w g T #[.int .i64 a.id, .int .i64 a.si, .int .i64 a.sr, .int .i64 a.cl, .int .i64 a.pt.kd, .int .i64 a.pt.wh, .int .i64 a.pt.sr, .int .i64 a.pt.tr, .int .i64 a.pt.pi, .int .i64 a.pt.le, .int .i64 a.pt.zo, .int .i64 a.gd.kd, .int .i64 a.gd.nn, .int .i64 a.ac.kd, .int .i64 a.ac.nn, .int .i64 a.ac.pi, .int .i64 a.ac.si, .int .i64 a.ac.zo, .bool a.ac.be, .slice a.ac.la a.ac.ln a.ac.lcap, .int .i64 a.un, .int .i64 a.le]) : w.cell? ⟨g, 13, none⟩ = some (.int .i64 a.ac.kd) ∧ w.cell? ⟨g, 14, none⟩ = some (.int .i64 a.ac.nn) ∧ w.cell? ⟨g, 15, none⟩ = some (.int .i64 a.ac.pi) ∧ w.cell? ⟨g, 16, none⟩ = some (.int .i64 a.ac.si) ∧ w.cell? ⟨g, 17, none⟩ = some (.int .i64 a.ac.zo) ∧ w.cell? ⟨g, 18, none⟩ = some (.bool a.ac.be) ∧ w.cell? ⟨g, 19, none⟩ = some (.slice a.ac.la a.ac.ln a.ac.lcap) :=
  ⟨h.cell 13, h.cell 14, h.cell 15, h.cell 16, h.cell 17, h.cell 18, h.cell 19⟩
end Go.Proofs.Ytdcgobngmdhmaad
