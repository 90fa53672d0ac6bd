/-
  Rows that grow by append and lie in a box: what stays of them. Own work.
-/
import Derived.Test.YtgaodfjmehofgacDoorStLaw
import Derived.Test.YtgaodfjmehofgacDoorPiece5
namespace Go.Proofs.YtgaodfjmehofgacDoor
open Go.ChangeShapes Go.WideShapes Go.ChangeAt Go.RowKit
set_option maxRecDepth 100000
set_option linter.unusedVariables false
section
variable {w w' : World} {B m n : Nat} {e : TypeId} {v : Value} {xs : List Value}
theorem row_same (h : w.ownsRow B e m v n xs) (hs : ∀ q, v.ownBlock = some q → w'.heap[q]? = w.heap[q]?) : w'.ownsRow B e m v n xs := by
  refine ⟨h.1, ?_⟩
  rcases h.2 with h' | ⟨g, cap, cur, rfl, h1, h2, h3⟩
  · exact .inl h'
  · exact .inr ⟨g, cap, cur, rfl, h1, (hs g rfl).trans h2, h3⟩
theorem row_grewE (h : w.ownsRow B e m v n xs) (hb : Below w.heap.size w w') : w'.ownsRow B e m v n xs := row_same h (fun q hq => hb.block q (h.lt q hq).2)
theorem own_ne {g t : Nat} {cs : Array Value} (h : w.ownsRow B e m v n xs) (hb : BoxR w g t cs) (ht : t ≠ e) : some g ≠ v.ownBlock := by
  intro he
  rcases h.2 with ⟨rfl, _⟩ | ⟨g', cap, cur, rfl, h1, h2, h3⟩
  · simp [Value.ownBlock] at he
  · simp only [Value.ownBlock, Option.some.injEq] at he
    subst he
    rw [hb] at h2
    simp only [Option.some.injEq, Obj.cells.injEq] at h2
    exact ht h2.2.1
theorem row_set {g j : Nat} (h : w.ownsRow B e m v n xs) (hne : some g ≠ v.ownBlock) (u : Value) : (w.setCell ⟨g, j, none⟩ u).ownsRow B e m v n xs :=
  row_same h (fun q hq => Below.heap_setCell w _ u q (fun he => hne (by rw [hq]; exact congrArg some he.symm)))
theorem row_only {p : Nat} (h : w.ownsRow B e m v n xs) (ho : Only p w w') (hne : some p ≠ v.ownBlock) : w'.ownsRow B e m v n xs :=
  row_same h (fun q hq => ho.block q (h.lt q hq).2 (fun he => hne (by rw [hq, he])))
theorem row_setRow' {g : Nat} (h : w.ownsRow B e m v n xs) (hne : some g ≠ v.ownBlock) (cs : Array Value) : (w.setRow g cs).ownsRow B e m v n xs :=
  row_same h (fun q hq => by
    unfold World.setRow
    simp only [Array.getElem?_modify]
    rw [if_neg (fun he => hne (by rw [hq, he]))])
theorem row_form (h : w.ownsRow B e m v n xs) : ∃ a cap, v = .slice a n cap ∧ n ≤ cap ∧ cap ≤ maxLen := by
  rcases h.2 with ⟨rfl, rfl⟩ | ⟨g, cap, cur, rfl, h1, h2, h3, h4, _⟩
  · exact ⟨none, 0, rfl, Nat.le_refl _, Nat.zero_le _⟩
  · exact ⟨_, cap, rfl, h3, h4⟩
theorem row_two {v' : Value} {e' : TypeId} {m' n' B' : Nat} {xs' : List Value} (h : w.ownsRow B e m v n xs) (k : w.ownsRow B' e' m' v' n' xs') (ht : e ≠ e') {q : Nat} (hq : v.ownBlock = some q) : some q ≠ v'.ownBlock := by
  intro he
  rcases h.2 with ⟨rfl, _⟩ | ⟨g, cap, cur, rfl, h1, h2, h3⟩
  · simp [Value.ownBlock] at hq
  rcases k.2 with ⟨rfl, _⟩ | ⟨g', cap', cur', rfl, k1, k2, k3⟩
  · simp [Value.ownBlock] at he
  simp only [Value.ownBlock, Option.some.injEq] at hq he
  subst hq he
  rw [h2] at k2
  simp only [Option.some.injEq, Obj.cells.injEq] at k2
  exact ht k2.2.1
end
/-- a row as a function answers it -/
theorem row_ownZ {α : Type} {C : α → List Value} {w : World} {B m n : Nat} {e : TypeId} {a : Option Addr} {cap : Nat} {f : Nat → α} (hm : ∀ x, (C x).length = m) (h : w.ownsRow B e m (.slice a n cap) n (valsE C n f)) : ∃ q, OwnZ C m w B q a n f ∧ (n ≠ 0 → (Value.slice a n cap).ownBlock = some q) := by
  by_cases hn : n = 0
  · exact ⟨0, .inl hn, fun h => absurd hn h⟩
  · obtain ⟨g, cap', he, _, ho⟩ := own_ofE hm h (fun he => by simp at he; exact hn he.2.1)
    simp only [Value.slice.injEq, true_and] at he
    obtain ⟨rfl, rfl⟩ := he
    exact ⟨g, .inr ho, fun _ => rfl⟩
theorem results_rowC {P : Program} {fn : Func} {p u : Tmp} {ty : TypeId} (h : fn.results = #[.cell p ty, .tmp u]) (tmps : Array Value) (w : World) (g : Nat) (t : TypeId) (cs : Array Value) (fr : Nat × Nat) (d : TypeDesc)
    (hp : tmps.getD p undef = .pointer (some ⟨g, 0, none⟩)) (hg : w.heap[g]? = some (.cells cs t fr))
    (hu : P.underlying ty = some d) (hd : (match d with | .struct _ | .array _ _ => true | _ => false) = true) (hi : (P.info? ty).map (·.size) = some cs.size) :
    (results fn tmps).run P w = .ok (.tuple #[.agg cs, tmps.getD u undef]) w := by
  have hp' : tmps[p]?.getD undef = .pointer (some ⟨g, 0, none⟩) := by simpa using hp
  simp [results, h, hp', asAddr, run_loadVar_row w g t ty cs fr d hg hu hd hi]
end Go.Proofs.YtgaodfjmehofgacDoor
