/-
  Words for a piece: its thirteen parts, and how a struct of a law's own type is opened. Own work.
-/
import Derived.Test.YtodfdfncdoliiatCur
import Derived.Lib.SmallJoins
namespace Go.Proofs.Ytodfdfncdoliiat
open Go.ChangeShapes Go.WideShapes Go.ChangeAt Go.RowKit
set_option maxRecDepth 100000

structure Pc where
  (id ow si zo st po to tr pl mi ma : Int)
  (de be : Bool)
/-- each of its numbers is one that an int can be -/
def Pc.wf (p : Pc) : Prop := ∀ x ∈ [p.id, p.ow, p.si, p.zo, p.st, p.po, p.to, p.tr, p.pl, p.mi, p.ma], (Lit.int .i64 x).wf = true

theorem list13 {α : Type} : ∀ {l : List α}, l.length = 13 → ∃ a b c d e f g h i j k m n, l = [a, b, c, d, e, f, g, h, i, j, k, m, n]
  | [a, b, c, d, e, f, g, h, i, j, k, m, n], _ => ⟨a, b, c, d, e, f, g, h, i, j, k, m, n, rfl⟩
section
variable {H : Type} {enc : TypeId × Value → H} {P : Program} {w : World} {base : Nat} {spare : TypeId → Bool} {held : Bool}
/-- a struct whose fields are of one cell each: its cells, and each field's reading -/
theorem open_struct1 {r : Reach} {b0 : Nat} {t : TypeId} {fs : Array Field} {v : Value} {d : DataW H} {p : List MemPlace} (hs : P.underlying t = some (.struct fs)) (hone : Deep.oneCellFields P fs = true) (hC : P.cellsOf t = fs.size)
    (hv : Value.okWide P w r b0 t v) (h : DataW.Trod enc P w base spare held t v d p) :
    ∃ cs : List Value, v = .agg cs.toArray ∧ cs.length = fs.size ∧ ∀ (i : Nat) (f : Field) (c : Value), fs[i]? = some f → cs[i]? = some c → ∃ n y, DataW.trod enc P w base spare held n f.type [c] = some y := by
  obtain ⟨cs, rfl, hsz⟩ := okWide_struct hs hv
  obtain ⟨fuel, hf⟩ := h
  obtain ⟨xs, n, _, _, _, hlen, hx⟩ := DataW.trod_struct hs hf
  refine ⟨cs.toList, by simp, by simp [hsz, hC], fun i f c hfi hci => ?_⟩
  obtain ⟨o, k⟩ := Deep.hone_of hone i f hfi
  have h1 := hx i f hfi
  have hi : i < xs.length := by rw [hlen]; exact (Array.getElem?_eq_some_iff.1 hfi).1
  rw [List.getElem?_eq_getElem hi, o, k] at h1
  have hc : ((Value.agg cs).cells.toList.drop i).take 1 = [c] := by
    have hlt := (List.getElem?_eq_some_iff.1 hci)
    obtain ⟨hl, rfl⟩ := hlt
    show (cs.toList.drop i).take 1 = _
    rw [List.drop_eq_getElem_cons hl]; rfl
  rw [hc] at h1
  exact ⟨n, _, h1⟩
end
end Go.Proofs.Ytodfdfncdoliiat
