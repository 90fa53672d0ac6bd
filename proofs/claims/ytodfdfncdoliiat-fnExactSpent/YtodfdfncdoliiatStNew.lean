/-
  Chapter 5: a new state, the specification's and the program's. Own work.
-/
import Derived.Test.YtodfdfncdoliiatStHeld
import Derived.Test.YtodfdfncdoliiatBytes
namespace Go.Proofs.Ytodfdfncdoliiat
open Go.ChangeShapes Go.WideShapes Go.ChangeAt Go.RowKit
set_option maxRecDepth 100000
set_option linter.unusedVariables false
def nwN (n : Int) : Nat := if n = 3 then 3 else 2
def nwD : Nat → Sd := fun _ => ⟨20, 0, false⟩
def zF : Nat → Pc := fun _ => zP
theorem heap_setRow_ne' (w : World) (g k : Nat) (cs : Array Value) (h : k ≠ g) : (w.setRow g cs).heap[k]? = w.heap[k]? := by
  unfold World.setRow
  simp only [Array.getElem?_modify]
  rw [if_neg (Ne.symm h)]
theorem size_setRow' (w : World) (g : Nat) (cs : Array Value) : (w.setRow g cs).heap.size = w.heap.size := by simp [World.setRow]
theorem nw2 : (valsE sdC 2 nwD) = [.int .i64 20, .int .i64 0, .bool false, .int .i64 20, .int .i64 0, .bool false] := rfl
theorem nw3 : (valsE sdC 2 nwD) ++ [.int .i64 20, .int .i64 0, .bool false] = valsE sdC 3 nwD := rfl
theorem below_new2'' (w : World) (o : Obj) : Below w.heap.size w (w.alloc o) := (Below.refl _ _).alloc (Nat.le_refl _) _
theorem row_type {w : World} {B : Nat} {e : TypeId} {m : Nat} {g cap n : Nat} {xs : List Value} (h : w.ownsRow B e m (.slice (some ⟨g, 0, none⟩) n cap) n xs) : ∃ cur, w.heap[g]? = some (.cells cur e (0, 0)) ∧ cap ≤ maxLen := by
  rcases h.2 with ⟨h', _⟩ | ⟨g', cap', cur, h', hb, hg, hnc, hcm, hcs, htake⟩
  · simp at h'
  · simp only [Value.slice.injEq, Option.some.injEq, Addr.mk.injEq, and_true, true_and] at h'
    obtain ⟨rfl, rfl⟩ := h'
    exact ⟨cur, hg, hcm⟩
theorem box_ne {w : World} {b t g e : Nat} {cs cur : Array Value} (h : BoxR w b t cs) (k : w.heap[g]? = some (.cells cur e (0, 0))) (ht : t ≠ e) : g ≠ b := by
  intro he
  subst he
  rw [h] at k
  simp only [Option.some.injEq, Obj.cells.injEq] at k
  exact ht k.2.1
theorem OwnE.putLi {w : World} {B b off n : Nat} {f : Nat → Sd} (h : OwnE sdC 3 w B b (some ⟨b, off, none⟩) n f) (k : Nat) (hk : k < n) (v : Int) :
    OwnE sdC 3 (w.setCell ⟨b, off + k * 3, none⟩ (.int .i64 v)) B b (some ⟨b, off, none⟩) n (fun i => if i = k then ⟨v, (f k).po, (f k).lo⟩ else f i) := by
  have := h.putE sdC_len k hk ⟨v, (f k).po, (f k).lo⟩
  obtain ⟨h1, h2, h3, h4⟩ := h
  refine ⟨h1, by simpa [World.setCell] using h2, ?_, fun i => (World.frozen?_setCell _ _ _ _).trans (h4 i)⟩
  rcases h3 with h3 | ⟨o, e, hc⟩
  · omega
  simp only [Option.some.injEq, Addr.mk.injEq, and_true, true_and] at e
  subst e
  refine .inr ⟨off, rfl, fun i hi j u hu => ?_⟩
  by_cases hik : i = k
  · subst hik
    simp only [if_true] at hu
    by_cases hj : j = 0
    · subst hj
      simp only [sdC, List.getElem?_cons_zero, Option.some.injEq] at hu
      subst hu
      exact World.cell?_setCell_same _ _ _ (hc i hi 0 _ rfl)
    · rw [World.cell?_setCell_other _ _ _ _ (by intro e; simp at e; try omega)]
      refine hc i hi j u ?_
      rw [← hu]
      cases j with
      | zero => exact absurd rfl hj
      | succ j => rfl
  · simp only [if_neg hik] at hu
    have hj3 : j < 3 := (List.getElem?_eq_some_iff.1 hu).1
    rw [World.cell?_setCell_other _ _ _ _ (by intro e; simp at e; try omega)]
    exact hc i hi j u hu
theorem nw_step (k : Nat) : (fun i => if i = k then (⟨20, (tilE k nwD (fun _ => zS) k).po, (tilE k nwD (fun _ => zS) k).lo⟩ : Sd) else tilE k nwD (fun _ => zS) i) = tilE (k + 1) nwD (fun _ => zS) := by
  have e : tilE k nwD (fun _ => zS) k = zS := by unfold tilE; rw [if_neg (by omega)]
  rw [e, ← tilE_step]
  rfl
end Go.Proofs.Ytodfdfncdoliiat
