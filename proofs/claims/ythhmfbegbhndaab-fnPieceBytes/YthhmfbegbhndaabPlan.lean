/-
  A region that draws its order, walked by a plan: parts in which each operation is alone or a move (0), an operation that yields in every world and is taken first (1), two operations that may come in either order, of which the second only reads (2). Own work.
-/
import Derived.Test.YthhmfbegbhndaabSeg
namespace Go.Proofs.Ythhmfbegbhndaab
def apB (ops : Array Oper) (i j : Nat) : Bool := match ops[i]?, ops[j]? with | some oi, some oj => oi.apart ops oj | _, _ => false
def planB (ops : Array Oper) : List (Nat × List Nat) → Array Bool → Bool
  | [], L => (Region.ready .any ops L).isEmpty
  | (0, o) :: r, L => segB .any ops o L && planB ops r (segL o L)
  | (1, [x]) :: r, L => (Region.ready .any ops L).contains x && Region.free .any ops L x && planB ops r (L.setIfInBounds x true)
  | (2, [i, j]) :: r, L => decide (Region.ready .any ops L = [i, j]) && decide (Region.ready .any ops (L.setIfInBounds i true) = [j]) && decide (Region.ready .any ops (L.setIfInBounds j true) = [i]) && decide (i ≠ j) && apB ops i j && planB ops r ((L.setIfInBounds i true).setIfInBounds j true)
  | _, _ => false
def planLen : List (Nat × List Nat) → Nat
  | [] => 0
  | (_, o) :: r => o.length + planLen r
def opsAt (ops : Array Oper) (o : List Nat) : List Oper := o.filterMap (fun i => ops[i]?)
/-- the second of two operations: it only reads, and yields the same ahead of the first and behind it; or neither is wanted -/
def PairP (P : Program) (ops : Array Oper) (oi oj : Oper) (a : Act) (w : World) (N : Act → World → Prop) : Prop :=
  (∃ vi vj wi, Region.wanted oi (yielded ops a.tmps) = true ∧ Region.wanted oj (yielded ops a.tmps) = true ∧ (execOp a.eval oi).run P w = .ok (.value vi) wi ∧ (execOp a.eval oj).run P w = .ok (.value vj) w ∧ (execOp a.eval oj).run P wi = .ok (.value vj) wi ∧ N ((a.put oi.dst vi).put oj.dst vj) wi) ∨
  (Region.wanted oi (yielded ops a.tmps) = false ∧ Region.wanted oj (yielded ops a.tmps) = false ∧ N ((a.put oi.dst undef).put oj.dst undef) w)
def TakeP (P : Program) (ops : Array Oper) (ox : Oper) (a : Act) (w : World) (N : Act → World → Prop) : Prop := ∃ v, Yields P ops ox v a ∧ N (a.put ox.dst v) w
def planN (P : Program) (ops : Array Oper) (Q : Exit → Act → World → Prop) : List (Nat × List Nat) → Act → World → Prop
  | [] => Q .normal
  | (0, o) :: r => wpList P ops (Exit.then (planN P ops Q r) Q) (opsAt ops o)
  | (1, [x]) :: r => fun a w => ∀ ox, ops[x]? = some ox → TakeP P ops ox a w (planN P ops Q r)
  | (2, [i, j]) :: r => fun a w => ∀ oi oj, ops[i]? = some oi → ops[j]? = some oj → PairP P ops oi oj a w (planN P ops Q r)
  | _ :: _ => fun _ _ => False
section
variable {P : Program} {ops : Array Oper} {Q : Exit → Act → World → Prop}
theorem opsAt_map : ∀ (o : List Nat), (∀ i ∈ o, i < ops.size) → o.map (fun i => ops[i]?) = (opsAt ops o).map some
  | [], _ => rfl
  | i :: o, h => by
    have hi := h i (List.mem_cons_self ..)
    have ih := opsAt_map o (fun j hj => h j (List.mem_cons_of_mem _ hj))
    unfold opsAt at *
    rw [List.map_cons, List.filterMap_cons, Array.getElem?_eq_getElem hi, ih]
    rfl
theorem ready_lt {md : Region.Mode} {L : Array Bool} {i : Nat} (h : i ∈ Region.ready md ops L) : i < ops.size := by
  obtain ⟨_, o, ho, _⟩ := mem_ready.1 h
  exact (Array.getElem?_eq_some_iff.1 ho).1
theorem segB_lt {md : Region.Mode} : ∀ (o : List Nat) (L : Array Bool), segB md ops o L = true → ∀ i ∈ o, i < ops.size
  | [], _, _, _, h => by cases h
  | k :: o, L, hB, i, hi => by
    simp only [segB, Bool.and_eq_true, Bool.or_eq_true, decide_eq_true_eq] at hB
    obtain ⟨h1, h2⟩ := hB
    rcases List.mem_cons.1 hi with rfl | hi
    · rcases h1 with h1 | h1
      · exact ready_lt (md := md) (L := L) (by rw [h1]; exact List.mem_singleton.2 rfl)
      · exact ready_lt (md := md) (L := L) (by simpa using h1.1.1)
    · exact segB_lt o _ h2 i hi
theorem wpAny_pair {i j g : Nat} {oi oj : Oper} {L : Array Bool} {a : Act} {w : World} {N : Act → World → Prop} (hs : Region.noSelect ops = true) (hoi : ops[i]? = some oi) (hoj : ops[j]? = some oj) (h0 : Region.ready .any ops L = [i, j]) (h1 : Region.ready .any ops (L.setIfInBounds i true) = [j]) (h2 : Region.ready .any ops (L.setIfInBounds j true) = [i]) (hij : i ≠ j) (hap : oi.apart ops oj = true)
    (hN : ∀ a w, N a w → wpAny P .any ops Q g ((L.setIfInBounds i true).setIfInBounds j true) a w) (h : PairP P ops oi oj a w N) : wpAny P .any ops Q (g + 2) L a w := by
  have hsel := Region.noSelect_spec hs
  obtain ⟨a1, a2, a3⟩ := Oper.apart_spec hap
  have hcm : (L.setIfInBounds j true).setIfInBounds i true = (L.setIfInBounds i true).setIfInBounds j true := Array.setIfInBounds_comm _ _ (Ne.symm hij)
  refine ⟨fun e => (by rw [h0] at e; cases e), fun k hk => ?_⟩
  rw [h0] at hk
  rcases h with ⟨vi, vj, wi, wi1, wj1, ri, rj, rj', hn⟩ | ⟨wi0, wj0, hn⟩
  · rcases List.mem_cons.1 hk with rfl | hk
    · unfold wpOp
      simp only [hoi, wi1, if_true]
      refine .inl ?_
      unfold Oper.wp
      rw [ri]
      refine ⟨fun e => (by rw [h1] at e; cases e), fun m hm => ?_⟩
      rw [h1] at hm
      obtain rfl : m = j := by simpa using hm
      unfold wpOp
      have hw := wanted_put oj a oi.dst vi a1
      simp only [hoj, hw, wj1, if_true]
      refine .inl ?_
      unfold Oper.wp
      rw [execOp_put oj (fun cs b => hsel _ oj cs b hoj) a oi.dst vi a1, rj']
      exact hN _ _ hn
    · obtain rfl : k = j := by simpa using hk
      unfold wpOp
      simp only [hoj, wj1, if_true]
      refine .inl ?_
      unfold Oper.wp
      rw [rj]
      refine ⟨fun e => (by rw [h2] at e; cases e), fun m hm => ?_⟩
      rw [h2] at hm
      obtain rfl : m = i := by simpa using hm
      unfold wpOp
      have hw := wanted_put oi a oj.dst vj a3
      simp only [hoi, hw, wi1, if_true]
      refine .inl ?_
      unfold Oper.wp
      rw [execOp_put oi (fun cs b => hsel _ oi cs b hoi) a oj.dst vj a3, ri]
      rw [Act.put_comm a vi vj a2] at hn
      show wpAny P .any ops Q g ((L.setIfInBounds k true).setIfInBounds m true) _ _
      rw [hcm]
      exact hN _ _ hn
  · rcases List.mem_cons.1 hk with rfl | hk
    · unfold wpOp
      simp only [hoi, wi0, Bool.false_eq_true, if_false]
      refine ⟨fun e => (by rw [h1] at e; cases e), fun m hm => ?_⟩
      rw [h1] at hm
      obtain rfl : m = j := by simpa using hm
      unfold wpOp
      have hw := wanted_put oj a oi.dst undef a1
      simp only [hoj, hw, wj0, Bool.false_eq_true, if_false]
      exact hN _ _ hn
    · obtain rfl : k = j := by simpa using hk
      unfold wpOp
      simp only [hoj, wj0, Bool.false_eq_true, if_false]
      refine ⟨fun e => (by rw [h2] at e; cases e), fun m hm => ?_⟩
      rw [h2] at hm
      obtain rfl : m = i := by simpa using hm
      unfold wpOp
      have hw := wanted_put oi a oj.dst undef a3
      simp only [hoi, hw, wi0, Bool.false_eq_true, if_false]
      rw [Act.put_comm a undef undef a2] at hn
      rw [hcm]
      exact hN _ _ hn
theorem wpAny_plan (hs : Region.noSelect ops = true) (hQ : ∀ c (d : Option Tmp) v a w, Q (.panic c) (a.put d v) w → Q (.panic c) a w) :
    ∀ (plan : List (Nat × List Nat)) (L : Array Bool) (a : Act) (w : World), planB ops plan L = true → planN P ops Q plan a w → wpAny P .any ops Q (planLen plan) L a w
  | [], L, a, w, hB, h => ⟨by simpa [planB] using hB, h⟩
  | (0, o) :: r, L, a, w, hB, h => by
    simp only [planB, Bool.and_eq_true] at hB
    exact wpAny_seg (g := planLen r) (N := planN P ops Q r) hs hQ o (opsAt ops o) L a w (opsAt_map o (segB_lt o L hB.1)) hB.1 (fun a' w' h' => wpAny_plan hs hQ r _ a' w' hB.2 h') h
  | (1, [x]) :: r, L, a, w, hB, h => by
    simp only [planB, Bool.and_eq_true] at hB
    have hx : x < ops.size := ready_lt (md := .any) (L := L) (by simpa using hB.1.1)
    obtain ⟨v, hy, hn⟩ := h ops[x] (Array.getElem?_eq_getElem hx)
    show wpAny P .any ops Q (1 + planLen r) L a w
    rw [Nat.add_comm]
    exact wpAny_take (Array.getElem?_eq_getElem hx) hs hB.1.2 hB.1.1 (fun c a' w' hq => hQ c _ _ _ _ hq) hy (wpAny_plan hs hQ r _ _ _ hB.2 hn)
  | (2, [i, j]) :: r, L, a, w, hB, h => by
    simp only [planB, Bool.and_eq_true, decide_eq_true_eq] at hB
    obtain ⟨⟨⟨⟨⟨h0, h1⟩, h2⟩, hij⟩, hap⟩, hB⟩ := hB
    unfold apB at hap
    cases hoi : ops[i]? with
    | none => rw [hoi] at hap; cases hap
    | some oi =>
      cases hoj : ops[j]? with
      | none => rw [hoi, hoj] at hap; cases hap
      | some oj =>
        rw [hoi, hoj] at hap
        show wpAny P .any ops Q (2 + planLen r) L a w
        rw [Nat.add_comm]
        exact wpAny_pair hs hoi hoj h0 h1 h2 hij hap (fun a' w' h' => wpAny_plan hs hQ r _ a' w' hB h') (h oi oj hoi hoj)
  | (0 + 1, []) :: r, L, a, w, hB, h => by simp [planB] at hB
  | (0 + 1, _ :: _ :: _) :: r, L, a, w, hB, h => by simp [planB] at hB
  | (0 + 2, []) :: r, L, a, w, hB, h => by simp [planB] at hB
  | (0 + 2, [_]) :: r, L, a, w, hB, h => by simp [planB] at hB
  | (0 + 2, _ :: _ :: _ :: _) :: r, L, a, w, hB, h => by simp [planB] at hB
  | (_ + 3, _) :: r, L, a, w, hB, h => by simp [planB] at hB
theorem wp_region_plan {id : Nat} {a : Act} {w : World} (plan : List (Nat × List Nat)) (hm : P.follows .mixedOrders = true) (hs : Region.noSelect ops = true) (hB : planB ops plan (Array.replicate ops.size false) = true) (hn : planLen plan = ops.size) (hQ : ∀ c (d : Option Tmp) v a w, Q (.panic c) (a.put d v) w → Q (.panic c) a w)
    (h : planN P ops Q plan a w.drew) : (Code.region id ops true).wp P Q a w := by
  refine wp_region_any hm ?_
  have key := wpAny_plan hs hQ plan (Array.replicate ops.size false) a w.drew hB h
  rw [hn] at key
  exact key
theorem wp_thenMono {N N' : Act → World → Prop} {o : Oper} {a : Act} {w : World} {K : Act → World → Prop} (h : o.wp P a w K (Exit.then N Q)) : o.wp P a w K (Exit.then N' Q) := by
  unfold Oper.wp at *
  generalize (execOp a.eval o).run P w = r at *
  cases r with
  | ok n w' =>
    cases n
    case enter f args => exact Calls.mono h (fun e w'' he => by cases e <;> exact he)
    all_goals exact h
  | halt x w' => cases x <;> exact h
theorem wpList_thenMono {N N' : Act → World → Prop} (hN : ∀ a w, N a w → N' a w) : ∀ {l : List Oper} {a : Act} {w : World}, wpList P ops (Exit.then N Q) l a w → wpList P ops (Exit.then N' Q) l a w
  | [], a, w, h => hN a w h
  | o :: l, a, w, h => by
    unfold wpList at h ⊢
    by_cases hw : Region.wanted o (yielded ops a.tmps) = true
    · simp only [hw, if_true] at h ⊢
      rcases h with h | ⟨h1, a', w', h2⟩
      · exact .inl (wp_thenMono (Oper.wp_mono (fun a w hk => wpList_thenMono hN hk) h))
      · exact .inr ⟨h1, a', w', h2⟩
    · simp only [hw] at h ⊢
      exact wpList_thenMono hN h
end
end Go.Proofs.Ythhmfbegbhndaab
