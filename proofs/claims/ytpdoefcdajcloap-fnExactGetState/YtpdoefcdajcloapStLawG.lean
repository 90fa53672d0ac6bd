/-
  Chapter 5's GetState in its law: what it answers is small; a copied slice of bytes. Own work.
-/
import Derived.Test.YtpdoefcdajcloapStGetI
namespace Go.Proofs.Ytpdoefcdajcloap
open Go.ChangeShapes Go.WideShapes Go.ChangeAt Go.RowKit
set_option maxRecDepth 100000
set_option linter.unusedVariables false
theorem gsS_le (n : Nat) (f : Nat → Int) : (gsS n f).pn ≤ 8 ∧ (gsS n f).sn ≤ 3 := by
  unfold gsS
  split
  · rename_i h
    unfold gsOk gsP at h
    simp only [Bool.and_eq_true] at h
    exact ⟨(gqOk_pos h.1.1.1.1.1).2, (gtOk_pos h.1.1.1.1.2).2⟩
  · exact ⟨Nat.zero_le _, Nat.zero_le _⟩
theorem toByteS_row (a : Option Addr) (b n c : Nat) (f : Nat → Int) (w : World) (hn : n ≤ 1048576) (h : Rd .u8 w b a n f) :
    Calls Try.prog 15 #[.slice a n c] w fun e w' => ∃ g, e = .returned (.slice (some ⟨g, 0, none⟩) n n) ∧ Below w.heap.size w w' ∧ Own .u8 w' w.heap.size g (some ⟨g, 0, none⟩) n f := by
  refine (toByteS_any a b n c f w (by omega) h).mono ?_
  rintro e w' ⟨rfl, hb, ho⟩
  exact ⟨_, rfl, hb, ho⟩
end Go.Proofs.Ytpdoefcdajcloap
