/-
  Chapter 5: what FnSetPieces needs: a piece that was set is there, in its place; set back, all is as it was. Own work.
-/
import Derived.Test.YtnlnledijpcjpabStSetI
import Derived.Test.YtnlnledijpcjpabDrawT6
import Derived.Test.YtnlnledijpcjpabStSameI
import Derived.Deep.RegionHeldLaw
namespace Go.Proofs.Ytnlnledijpcjpab
open Go.ChangeShapes Go.WideShapes Go.ChangeAt Go.RowKit
set_option maxRecDepth 100000
set_option linter.unusedVariables false
theorem paI_is {n : Nat} {f : Nat → Pc} {id : Int} {k : Nat} (h : paI n f id = (k : Int)) : k < n ∧ (f k).id = id ∧ ∀ j, j < k → (f j).id ≠ id := by
  unfold paI at h
  cases hf : (List.range n).find? (fun i => decide ((f i).id = id)) with
  | none => rw [hf] at h; simp at h
  | some i =>
    rw [hf] at h
    have hik : i = k := by have h' : (i : Int) = (k : Int) := by simpa using h
                           omega
    subst hik
    rw [List.find?_range_eq_some] at hf
    refine ⟨List.mem_range.1 hf.2.1, by simpa using hf.1, fun j hj => ?_⟩
    have := hf.2.2 j hj
    simpa using this
theorem paI_not {n : Nat} {f : Nat → Pc} {id : Int} (h : paI n f id = -1) : ∀ j, j < n → (f j).id ≠ id := by
  unfold paI at h
  cases hf : (List.range n).find? (fun i => decide ((f i).id = id)) with
  | none =>
    rw [List.find?_eq_none] at hf
    intro j hj
    have := hf j (List.mem_range.2 hj)
    simpa using this
  | some i => rw [hf] at h; simp at h
/-- where the piece that was set stands -/
theorem set_at (s : Stt) (p : Pc) : ∃ k : Nat, paI (spN s p) (spF s p) p.id = (k : Int) ∧ k < spN s p ∧ spF s p k = p ∧ ((paI s.pn s.ps p.id = -1 ∧ spN s p = s.pn + 1) ∨ (paI s.pn s.ps p.id = (k : Int) ∧ spN s p = s.pn)) := by
  rcases paI_cases s.pn s.ps p.id with h | ⟨k, hk, h⟩
  · have e1 : spN s p = s.pn + 1 := by unfold spN; rw [h, if_pos (by omega)]
    have e2 : spF s p = ins (pnN s.pn s.ps p.id) p s.ps := by unfold spF; rw [h, if_pos (by omega)]
    have hl := pnN_le s.pn s.ps p.id
    have hn := paI_not h
    have hat : ins (pnN s.pn s.ps p.id) p s.ps (pnN s.pn s.ps p.id) = p := by unfold ins; rw [if_neg (by omega), if_pos rfl]
    refine ⟨pnN s.pn s.ps p.id, ?_, by omega, by rw [e2]; exact hat, .inl ⟨h, e1⟩⟩
    rw [e1, e2]
    refine paI_at (by omega) (by rw [hat]) (fun j hj => ?_)
    unfold ins
    rw [if_pos hj]
    exact hn j (by omega)
  · have e1 : spN s p = s.pn := by unfold spN; rw [h, if_neg (by omega)]
    have e2 : spF s p = put1 k p s.ps := by unfold spF; rw [h, if_neg (by omega)]; simp
    have hi := paI_is h
    have hat : put1 k p s.ps k = p := by unfold put1; rw [if_pos rfl]
    refine ⟨k, ?_, by omega, by rw [e2]; exact hat, .inr ⟨h, e1⟩⟩
    rw [e1, e2]
    refine paI_at hk (by rw [hat]) (fun j hj => ?_)
    unfold put1
    rw [if_neg (by omega)]
    exact hi.2.2 j hj
/-- set back, all is as it was -/
theorem set_back {s x : Stt} {p : Pc} {k : Nat} (a : Alike x (spS s p)) (h : paI s.pn s.ps p.id = (k : Int)) : smS (spS x (s.ps k)) s = true := by
  have hi := paI_is h
  have e1 : spN s p = s.pn := by unfold spN; rw [h, if_neg (by omega)]
  have e2 : spF s p = put1 k p s.ps := by unfold spF; rw [h, if_neg (by omega)]; simp
  have x1 : x.pn = s.pn := a.pn.trans e1
  have x2 : x.ps = put1 k p s.ps := a.ps.trans e2
  have hx : paI x.pn x.ps (s.ps k).id = (k : Int) := by
    rw [x1, x2]
    refine paI_at hi.1 (by unfold put1; rw [if_pos rfl]; exact hi.2.1.symm) (fun j hj => ?_)
    unfold put1
    rw [if_neg (by omega), hi.2.1]
    exact hi.2.2 j hj
  have y1 : (spS x (s.ps k)).pn = s.pn := by show spN x (s.ps k) = _; unfold spN; rw [hx, if_neg (by omega), x1]
  have y2 : ∀ i, (spS x (s.ps k)).ps i = s.ps i := fun i => by
    show spF x (s.ps k) i = _
    unfold spF
    rw [hx, if_neg (by omega), x2]
    unfold put1
    simp only [Int.toNat_natCast]
    split
    · rename_i h; rw [h]
    · rename_i h; first | rfl | rw [if_neg h]
  have y3 : (spS x (s.ps k)).sn = s.sn := a.sn
  have y4 : (spS x (s.ps k)).ss = s.ss := a.ss
  have y5 : (spS x (s.ps k)).ac = s.ac := a.ac
  have y6 : (spS x (s.ps k)).cl = s.cl := a.cl
  unfold smS eqD eqR
  rw [y1, y3, y4, y5, y6]
  simp only [decide_true, Bool.true_and, Bool.and_eq_true, List.all_eq_true, List.mem_range]
  exact ⟨fun i _ => smD_self _, fun i _ => by rw [y2 i]; exact smP_self _⟩
theorem smS_alike {t u s : Stt} (a : Alike t s) (b : Alike u s) : smS t u = true := by
  rw [alike_smS a b]
  unfold smS eqD eqR
  simp only [decide_true, Bool.true_and, Bool.and_eq_true, List.all_eq_true, List.mem_range]
  exact ⟨fun i _ => smD_self _, fun i _ => smP_self _⟩
/-- whose numbers are all within an int -/
structure wfS (s : Stt) : Prop where
  ac : (Lit.int .i64 s.ac).wf = true
  cl : (Lit.int .i64 s.cl).wf = true
  ps : ∀ j, j < s.pn → (s.ps j).wf
  ss : ∀ j, j < s.sn → (s.ss j).wf
theorem anS.wfs {s : Stt} (h : anS s) : wfS s := ⟨wf_i64 h.ac, wf_i64 h.cl, h.ps, h.ss⟩
theorem wfS.ok {s : Stt} {w : World} {B : Nat} (h : wfS s) (o : OwnT w B s) : s.ok w := ⟨o.pc, o.pm, o.p.rd, o.sc, o.sm, o.s.rd, h.ac, h.cl, h.ps, h.ss⟩
theorem wfS.set {s : Stt} {p : Pc} (h : wfS s) (hp : p.wf) : wfS (spS s p) := by
  refine ⟨h.ac, h.cl, fun j hj => ?_, h.ss⟩
  have hj' : j < spN s p := hj
  show (spF s p j).wf
  rcases paI_cases s.pn s.ps p.id with e | ⟨k, hk, e⟩
  · unfold spN at hj'
    rw [e, if_pos (by omega)] at hj'
    unfold spF
    rw [e, if_pos (by omega)]
    unfold ins
    split
    · exact h.ps j (by have := pnN_le s.pn s.ps p.id; omega)
    · split
      · exact hp
      · exact h.ps _ (by omega)
  · unfold spN at hj'
    rw [e, if_neg (by omega)] at hj'
    unfold spF
    rw [e, if_neg (by omega)]
    unfold put1
    split
    · exact hp
    · exact h.ps j hj'
theorem wfS.like {t s : Stt} (h : wfS s) (a : Alike t s) : wfS t := ⟨by rw [a.ac]; exact h.ac, by rw [a.cl]; exact h.cl, by rw [a.pn, a.ps]; exact h.ps, by rw [a.sn, a.ss]; exact h.ss⟩
theorem implSameState_as' {s t : Stt} {w : World} {b : Bool} (hs : s.ok w) (ht : t.ok w) (hn : s.pn ≤ 1048577) (hn2 : s.sn ≤ 1048577) (hm : t.pn ≤ 1048577) (hm2 : t.sn ≤ 1048577) (hb : smS s t = b) : Calls Try.prog 52 #[(.agg #[.slice s.pa s.pn s.pcap, .slice s.sa s.sn s.scap, .int .i64 s.ac, .int .i64 s.cl]), (.agg #[.slice t.pa t.pn t.pcap, .slice t.sa t.sn t.scap, .int .i64 t.ac, .int .i64 t.cl])] w fun e w' => e = .returned (.bool b) ∧ Below w.heap.size w w' := by
  rw [← hb]; exact implSameState_any s t w hs ht hn hn2 hm hm2
end Go.Proofs.Ytnlnledijpcjpab
