/-
  Chapter 9: words for rows of things. Written by tools/ac.gen.py. Chapter 9: words for an act (Ac): how a law's own is opened, taken over, measured, compared, marked. Written by tools/ac.gen.py. Own work.
-/
import Derived.Test.YtodfdfncdoliiadGreatGEvA3
import Derived.Test.YtodfdfncdoliiadGreatGPieceOk3
namespace Go.Proofs.YtodfdfncdoliiadGreat
open Go.ChangeShapes Go.WideShapes Go.ChangeAt Go.RowKit
set_option maxRecDepth 100000
set_option linter.unusedVariables false
set_option linter.unusedSimpArgs false

/-- the cells of one -/
def evC (p : Ev) : List Value := [.int .i64 p.kd, .int .i64 p.sr, .int .i64 p.pi, .int .i64 p.si, .int .i64 p.nn, .int .i64 p.zo, .bool p.be]
theorem evC_ne (p : Ev) : evC p ≠ [] := by unfold evC; simp
theorem evC_len (p : Ev) : (evC p).length = 7 := rfl
theorem evC_one (n : Nat) (f : Nat → Ev) : ∀ u ∈ valsE evC n f, u.oneCell' = true := by
  intro u hu
  unfold valsE at hu
  obtain ⟨i, _, hi⟩ := List.mem_flatMap.1 hu
  simp only [evC, List.mem_cons, List.mem_nil_iff, or_false] at hi
  rcases hi with rfl | rfl | rfl | rfl | rfl | rfl | rfl <;> rfl
theorem Tryz.infoEv : (Tryz.prog.info? 39).map (fun i => (i.zero, i.size, i.bytes)) = some (some (.agg #[.int .i64 0, .int .i64 0, .int .i64 0, .int .i64 0, .int .i64 0, .int .i64 0, .bool false]), 7, 56) := by kernel_rfl
def zE : Ev := ⟨0, 0, 0, 0, 0, 0, false⟩
theorem made_event (n : Nat) : (madeCells #[.int .i64 0, .int .i64 0, .int .i64 0, .int .i64 0, .int .i64 0, .int .i64 0, .bool false] (n * 7)).toList = valsE evC n (fun _ => zE) := by
  refine valsE_ext evC_len (by simp [madeCells]) (fun i j hi hj => ?_)
  unfold madeCells
  have hlt : i * 7 + j < n * 7 := by omega
  simp only [Array.toList_map, Array.toList_range, List.getElem?_map, List.getElem?_range hlt, Option.map_some, List.size_toArray, List.length_cons, List.length_nil]
  rw [show (i * 7 + j) % (0 + 1 + 1 + 1 + 1 + 1 + 1 + 1) = j by omega]
  have : j = 0 ∨ j = 1 ∨ j = 2 ∨ j = 3 ∨ j = 4 ∨ j = 5 ∨ j = 6 := by omega
  rcases this with rfl | rfl | rfl | rfl | rfl | rfl | rfl <;> rfl
def AtEv (w : World) (b o : Nat) (p : Ev) : Prop := w.cell? ⟨b, o, none⟩ = some (.int .i64 p.kd) ∧ w.cell? ⟨b, o + 1, none⟩ = some (.int .i64 p.sr) ∧ w.cell? ⟨b, o + 2, none⟩ = some (.int .i64 p.pi) ∧ w.cell? ⟨b, o + 3, none⟩ = some (.int .i64 p.si) ∧ w.cell? ⟨b, o + 4, none⟩ = some (.int .i64 p.nn) ∧ w.cell? ⟨b, o + 5, none⟩ = some (.int .i64 p.zo) ∧ w.cell? ⟨b, o + 6, none⟩ = some (.bool p.be)
theorem AtEv_of {w : World} {b o : Nat} {p : Ev} (h : ∀ j v, (evC p)[j]? = some v → w.cell? ⟨b, o + j, none⟩ = some v) : AtEv w b o p := ⟨h 0 _ rfl, h 1 _ rfl, h 2 _ rfl, h 3 _ rfl, h 4 _ rfl, h 5 _ rfl, h 6 _ rfl⟩
/-- the one that is marked from number x on -/
def mkE (x : Int) : Ev := ⟨x, x + 1, x + 1 + 1, x + 1 + 1 + 1, x + 1 + 1 + 1 + 1, x + 1 + 1 + 1 + 1 + 1, (x + 1 + 1 + 1 + 1 + 1 + 1) % 3 == 0⟩
end Go.Proofs.YtodfdfncdoliiadGreat
namespace Go.Proofs.YtodfdfncdoliiadGreat
open Go.ChangeShapes Go.WideShapes Go.ChangeAt Go.RowKit
set_option maxRecDepth 100000
set_option linter.unusedVariables false
set_option linter.unusedSimpArgs false

/-- an act as it came in -/
structure Ac where
  (kd nn pi si zo : Int)
  (be : Bool)
  (la : Option Addr)
  (ln lcap lb : Nat)
  (es : Nat → Ev)
def Ac.ok (a : Ac) (w : World) : Prop := a.ln ≤ a.lcap ∧ a.lcap ≤ maxLen ∧ RdE evC 7 w a.lb a.la a.ln a.es ∧ (∀ x ∈ [a.kd, a.nn, a.pi, a.si, a.zo], (Lit.int .i64 x).wf = true) ∧ (∀ i, i < a.ln → (a.es i).wf)
theorem act_grew {a : Ac} {w w' : World} (h : a.ok w) (hb : Below w.heap.size w w') : a.ok w' := ⟨h.1, h.2.1, h.2.2.1.grew evC_ne hb, h.2.2.2⟩
theorem OwnE.onlyE {α : Type} {C : α → List Value} {m : Nat} {w w' : World} {B b p : Nat} {a : Option Addr} {n : Nat} {f : Nat → α} (h : OwnE C m w B b a n f) (ho : Only p w w') (hp : b ≠ p) : OwnE C m w' B b a n f := h.same (ho.block b h.2.1 hp) ho.size
/-- they say the same, wherever their lists lie -/
structure AlikeA (t a : Ac) : Prop where
  kd : t.kd = a.kd
  nn : t.nn = a.nn
  pi : t.pi = a.pi
  si : t.si = a.si
  zo : t.zo = a.zo
  be : t.be = a.be
  ln : t.ln = a.ln
  es : t.es = a.es
/-- the call's own -/
def OwnA (w : World) (B : Nat) (t : Ac) : Prop := t.ln ≤ t.lcap ∧ t.lcap ≤ maxLen ∧ OwnE evC 7 w B t.lb t.la t.ln t.es
theorem OwnA.grew {w w' : World} {B : Nat} {t : Ac} (h : OwnA w B t) (hb : Below w.heap.size w w') : OwnA w' B t := ⟨h.1, h.2.1, h.2.2.grew hb⟩
theorem okT9 {t a : Ac} {w w0 : World} {B : Nat} (h : OwnA w B t) (k : AlikeA t a) (hs : a.ok w0) : t.ok w := by
  refine ⟨h.1, h.2.1, h.2.2.rd, ?_, ?_⟩
  · rw [k.kd, k.nn, k.pi, k.si, k.zo]; exact hs.2.2.2.1
  · rw [k.ln, k.es]; exact hs.2.2.2.2
end Go.Proofs.YtodfdfncdoliiadGreat
