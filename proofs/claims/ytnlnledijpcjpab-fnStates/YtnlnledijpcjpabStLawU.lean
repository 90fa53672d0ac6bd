/-
  Chapter 5: what FnStates needs: a new state is right; who is on the field of one side is on the field. Own work.
-/
import Derived.Test.YtnlnledijpcjpabStLawI
import Derived.Test.YtnlnledijpcjpabDrawT7
import Derived.Test.YtnlnledijpcjpabSetsB
import Derived.Test.YtnlnledijpcjpabDrawL
namespace Go.Proofs.Ytnlnledijpcjpab
open Go.ChangeShapes Go.WideShapes Go.ChangeAt Go.RowKit
set_option maxRecDepth 100000
set_option linter.unusedVariables false
theorem nw_ok {t : Stt} {n : Int} (a : Alike t (nwS n)) : okS t = true := by
  rw [alike_okS a]
  unfold nwS nwN
  split <;> decide
theorem nw_wf {t : Stt} {n : Int} {w : World} {B : Nat} (a : Alike t (nwS n)) (o : OwnT w B t) : t.ok w := by
  have z : (Lit.int .i64 0).wf = true := wf_i64 ⟨by decide, by decide⟩
  have z2 : (Lit.int .i64 20).wf = true := wf_i64 ⟨by decide, by decide⟩
  have h0 : t.pn = 0 := a.pn
  exact ⟨o.pc, o.pm, o.p.rd, o.sc, o.sm, o.s.rd, by rw [a.ac]; exact z, by rw [a.cl]; exact z, fun i hi => by omega, fun i _ => by rw [a.ss]; exact ⟨z2, z⟩⟩
theorem of_in (k : Nat) (f : Nat → Pc) (side : Int) : wn (ofL k f side).length (fun j => (ofL k f side).getD j 0) (ofL k f (-1)).length (fun j => (ofL k f (-1)).getD j 0) = true := by
  unfold wn
  rw [List.all_eq_true]
  intro x hx
  rw [hs_iff]
  have e1 : lst (ofL k f side).length (fun j => (ofL k f side).getD j 0) = ofL k f side := lst_el _
  have e2 : lst (ofL k f (-1)).length (fun j => (ofL k f (-1)).getD j 0) = ofL k f (-1) := lst_el _
  rw [e1] at hx
  rw [e2]
  unfold ofL at hx ⊢
  rw [List.mem_map] at hx ⊢
  obtain ⟨i, hi, rfl⟩ := hx
  refine ⟨i, ?_, rfl⟩
  rw [List.mem_filter] at hi ⊢
  refine ⟨hi.1, ?_⟩
  have := hi.2
  unfold ofP at this ⊢
  rw [Bool.and_eq_true] at this ⊢
  exact ⟨this.1, by simp⟩
theorem of_len (k : Nat) (f : Nat → Pc) (side : Int) : (ofL k f side).length ≤ k := by
  unfold ofL
  rw [List.length_map]
  exact Nat.le_trans (List.length_filter_le _ _) (by simp)
theorem smS_self (s : Stt) : smS s s = true := by
  unfold smS eqD eqR
  simp only [decide_true, Bool.true_and, Bool.and_eq_true, List.all_eq_true, List.mem_range]
  exact ⟨fun i _ => smD_self _, fun i _ => smP_self _⟩
/-- the first side of a new state -/
theorem nw_side {t : Stt} {n : Int} {w : World} {B : Nat} (a : Alike t (nwS n)) (o : OwnT w B t) : ∃ off, t.sa = some ⟨t.sb, off, none⟩ ∧ w.cell? ⟨t.sb, off, none⟩ = some (.int .i64 20) ∧ 2 ≤ t.sn ∧ (n = 3 → t.sn = 3) := by
  have h2 : t.sn = nwN n := a.sn
  have h2' : 2 ≤ nwN n := by unfold nwN; split <;> omega
  have h3 : n = 3 → nwN n = 3 := fun h => by unfold nwN; rw [if_pos h]
  rcases o.s.rd with h | ⟨off, he, hc⟩
  · omega
  · refine ⟨off, he, ?_, by omega, fun h => by rw [h2]; exact h3 h⟩
    have := hc 0 (by omega) 0 (.int .i64 20) (by rw [a.ss]; rfl)
    simpa using this
end Go.Proofs.Ytnlnledijpcjpab
