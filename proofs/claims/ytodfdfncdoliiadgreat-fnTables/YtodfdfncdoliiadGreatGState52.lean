/-
  The laws' own helpers over states: szState, toState, eqState. The laws' own marks on rows of pieces and of sides, on states, and whether they are held. Written by tools/stmark.gen.py. Own work.
-/
import Derived.Test.YtodfdfncdoliiadGreatGSeg5
namespace Go.Proofs.YtodfdfncdoliiadGreat
open Go.ChangeShapes Go.WideShapes Go.ChangeAt Go.RowKit
set_option maxRecDepth 100000
/-- block b holds these cells -/
def BoxR (w : World) (b t : Nat) (cs : Array Value) : Prop := w.heap[b]? = some (.cells cs t (0, 0))
theorem BoxR.lt {w : World} {b t : Nat} {cs : Array Value} (h : BoxR w b t cs) : b < w.heap.size := (Array.getElem?_eq_some_iff.1 h).1
theorem BoxR.grew {w w' : World} {b t : Nat} {cs : Array Value} (h : BoxR w b t cs) (hb : Below w.heap.size w w') : BoxR w' b t cs := (hb.block b h.lt).trans h
theorem BoxR.alloc {w : World} {b t : Nat} {cs : Array Value} (h : BoxR w b t cs) (o : Obj) : BoxR (w.alloc o) b t cs := (Below.heap_alloc w o b h.lt).trans h
theorem BoxR.cell {w : World} {b t : Nat} {cs : Array Value} (h : BoxR w b t cs) (j : Nat) : w.cell? ⟨b, j, none⟩ = cs[j]? := cell_of_row w b j _ t (0, 0) h
theorem BoxR.froz {w : World} {b t : Nat} {cs : Array Value} (h : BoxR w b t cs) (j : Nat) : w.frozen? ⟨b, j, none⟩ = false := frozen_of_row w b j _ t h
theorem BoxR.put {w : World} {b t : Nat} {cs : Array Value} (h : BoxR w b t cs) (j : Nat) (v : Value) : BoxR (w.setCell ⟨b, j, none⟩ v) b t (cs.setIfInBounds j v) := Go.heap_setCell_same w b j _ t v h
theorem BoxR.other {w : World} {b t : Nat} {cs : Array Value} (h : BoxR w b t cs) {q : Addr} (hq : b ≠ q.block) (v : Value) : BoxR (w.setCell q v) b t cs := (Below.heap_setCell w q v b hq).trans h
theorem boxR_new (w : World) (t : Nat) (cs : Array Value) : BoxR (w.alloc (.cells cs t)) w.heap.size t cs := heap_alloc_new w _
theorem OwnE.setCell {α : Type} {C : α → List Value} {m : Nat} {w : World} {B b : Nat} {a : Option Addr} {n : Nat} {f : Nat → α} (h : OwnE C m w B b a n f) {q : Addr} (hq : b ≠ q.block) (v : Value) : OwnE C m (w.setCell q v) B b a n f :=
  h.same (Below.heap_setCell w q v b hq) (by simp [World.setCell])
theorem OwnE.setRow {α : Type} {C : α → List Value} {m : Nat} {w : World} {B b : Nat} {a : Option Addr} {n : Nat} {f : Nat → α} (h : OwnE C m w B b a n f) {g : Nat} (hg : b ≠ g) (cs : Array Value) : OwnE C m (w.setRow g cs) B b a n f :=
  h.same (by unfold World.setRow; simp only [Array.getElem?_modify]; rw [if_neg (Ne.symm hg)]) (by simp [World.setRow])
/-- what is left of a measure behind a state -/
def szS (pn sn : Nat) (x : Int) : Int := if x - pn - sn < 0 then -1 else x - pn - sn
/-- a state whose rows lie whole in blocks of the call's own -/
def ownSt (s : Stt) (p pc q qc : Nat) : Stt := ⟨some ⟨p, 0, none⟩, s.pn, pc, p, s.ps, some ⟨q, 0, none⟩, s.sn, qc, q, s.ss, s.ac, s.cl⟩
def OwnS (w : World) (B : Nat) (s : Stt) (p q : Nat) : Prop := OwnE pcC 13 w B p (some ⟨p, 0, none⟩) s.pn s.ps ∧ OwnE sdC 3 w B q (some ⟨q, 0, none⟩) s.sn s.ss ∧ p ≠ q
theorem OwnS.grew {w w' : World} {B : Nat} {s : Stt} {p q : Nat} (h : OwnS w B s p q) (hb : Below w.heap.size w w') : OwnS w' B s p q := ⟨h.1.grew hb, h.2.1.grew hb, h.2.2⟩
end Go.Proofs.YtodfdfncdoliiadGreat
namespace Go.Proofs.YtodfdfncdoliiadGreat
open Go.ChangeShapes Go.WideShapes Go.ChangeAt Go.RowKit
set_option maxRecDepth 100000
set_option linter.unusedVariables false
theorem cell_setCells_other (b : Nat) : ∀ (vs : List Value) (o : Nat) (w : World) (q : Addr), (q.block ≠ b ∨ q.off < o ∨ o + vs.length ≤ q.off) → (w.setCells b o vs).cell? q = w.cell? q
  | [], _, _, _, _ => rfl
  | v :: r, o, w, q, h => by
    simp only [List.length_cons] at h
    unfold World.setCells
    rw [cell_setCells_other b r (o + 1) _ q (by omega)]
    exact World.cell?_setCell_other _ _ _ _ (by intro e; subst e; simp at h; omega)
theorem cell_setCells_in (b : Nat) : ∀ (vs : List Value) (o : Nat) (w : World), (∀ j, j < vs.length → (w.cell? ⟨b, o + j, none⟩).isSome = true) → ∀ j v, vs[j]? = some v → (w.setCells b o vs).cell? ⟨b, o + j, none⟩ = some v
  | [], _, _, _, _, _, h => by simp at h
  | u :: r, o, w, hc, j, v, h => by
    unfold World.setCells
    cases j with
    | zero =>
      simp only [List.getElem?_cons_zero, Option.some.injEq] at h
      subst h
      rw [cell_setCells_other b r (o + 1) _ _ (by simp)]
      have h0 := hc 0 (by simp)
      obtain ⟨z, hz⟩ := Option.isSome_iff_exists.1 h0
      exact World.cell?_setCell_same _ _ _ hz
    | succ j =>
      simp only [List.getElem?_cons_succ] at h
      have := cell_setCells_in b r (o + 1) (w.setCell ⟨b, o, none⟩ u) (fun i hi => by
        rw [World.cell?_setCell_other _ _ _ _ (by intro e; simp at e; try omega), show o + 1 + i = o + (i + 1) by omega]
        exact hc (i + 1) (by simp; omega)) j v h
      rwa [show o + 1 + j = o + (j + 1) by omega] at this
theorem frozen_setCells (b : Nat) : ∀ (vs : List Value) (o : Nat) (w : World) (q : Addr), (w.setCells b o vs).frozen? q = w.frozen? q
  | [], _, _, _ => rfl
  | v :: r, o, w, q => by
    unfold World.setCells
    rw [frozen_setCells b r]
    exact World.frozen?_setCell _ _ _ _
theorem Only.setCells {p : Nat} {a : World} : ∀ (vs : List Value) (o : Nat) (w : World), Only p a w → Only p a (w.setCells p o vs)
  | [], _, _, h => h
  | v :: r, o, w, h => by unfold World.setCells; exact Only.setCells r (o + 1) _ (h.setCell (.inl rfl) v)
theorem OwnE.putE {α : Type} {C : α → List Value} {m : Nat} (hm : ∀ x, (C x).length = m) {w : World} {B b off n : Nat} {f : Nat → α} (h : OwnE C m w B b (some ⟨b, off, none⟩) n f) (k : Nat) (hk : k < n) (x : α) :
    OwnE C m (w.setCells b (off + k * m) (C x)) B b (some ⟨b, off, none⟩) n (fun i => if i = k then x else f i) := by
  obtain ⟨h1, h2, h3, h4⟩ := h
  refine ⟨h1, by rw [size_setCells]; exact h2, ?_, fun i => (frozen_setCells _ _ _ _ _).trans (h4 i)⟩
  rcases h3 with h3 | ⟨o, e, hc⟩
  · exact .inl h3
  · simp only [Option.some.injEq, Addr.mk.injEq, and_true, true_and] at e
    subst e
    refine .inr ⟨off, rfl, fun i hi j v hv => ?_⟩
    have hjm : j < m := by rw [← hm (if i = k then x else f i)]; exact (List.getElem?_eq_some_iff.1 hv).1
    by_cases hik : i = k
    · subst hik
      simp only [if_true] at hv
      refine cell_setCells_in b (C x) (off + i * m) w (fun j hj => ?_) j v hv
      rw [hm] at hj
      have hj' : j < (C (f i)).length := by rw [hm]; exact hj
      rw [hc i hi j _ (List.getElem?_eq_getElem hj')]
      rfl
    · simp only [if_neg hik] at hv
      rw [cell_setCells_other b (C x) (off + k * m) w _ ?_]
      · exact hc i hi j v hv
      · rw [hm]
        rcases Nat.lt_or_gt_of_ne hik with h3 | h3
        · have : (i + 1) * m ≤ k * m := Nat.mul_le_mul_right m h3
          rw [Nat.succ_mul] at this
          right; left; show off + i * m + j < off + k * m; omega
        · have : (k + 1) * m ≤ i * m := Nat.mul_le_mul_right m h3
          rw [Nat.succ_mul] at this
          right; right; show off + k * m + m ≤ off + i * m + j; omega
theorem OwnE.congr {α : Type} {C : α → List Value} {m : Nat} {w : World} {B b : Nat} {a : Option Addr} {n : Nat} {f g : Nat → α} (h : OwnE C m w B b a n f) (e : ∀ i, i < n → f i = g i) : OwnE C m w B b a n g := ⟨h.1, h.2.1, h.2.2.1.congr e, h.2.2.2⟩
/-- the piece, the side that is marked from number x on -/
def mkP (x : Int) : Pc := ⟨x, x + 1, x + 1 + 1, x + 1 + 1 + 1, x + 1 + 1 + 1 + 1, x + 1 + 1 + 1 + 1 + 1, x + 1 + 1 + 1 + 1 + 1 + 1, x + 1 + 1 + 1 + 1 + 1 + 1 + 1, x + 1 + 1 + 1 + 1 + 1 + 1 + 1 + 1, x + 1 + 1 + 1 + 1 + 1 + 1 + 1 + 1 + 1, x + 1 + 1 + 1 + 1 + 1 + 1 + 1 + 1 + 1 + 1, (x + 1 + 1 + 1 + 1 + 1 + 1 + 1 + 1 + 1 + 1 + 1) % 3 == 0, (x + 1 + 1 + 1 + 1 + 1 + 1 + 1 + 1 + 1 + 1 + 1 + 1) % 3 == 0⟩
def mkD (x : Int) : Sd := ⟨x, x + 1, (x + 1 + 1) % 3 == 0⟩
end Go.Proofs.YtodfdfncdoliiadGreat
