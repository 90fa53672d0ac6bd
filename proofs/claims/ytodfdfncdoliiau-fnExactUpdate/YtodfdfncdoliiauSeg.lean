/-
  A region that draws its order, walked in one order: where at each step the operation is the only one that may come up, or hands a slot on (a move), whatever order the tape picks comes to the same end. One operation more may be let in that yields its value in every world. Own work.
-/
import Derived.Test.YtodfdfncdoliiauRows
import Derived.WalkKit
import Derived.BigRegion
namespace Go.Proofs.Ytodfdfncdoliiau

def mvB (ops : Array Oper) (i : Nat) : Bool :=
  match ops[i]? with
  | some o => (match o.op with | .move _ => true | _ => false)
  | none => false
def segB (md : Region.Mode) (ops : Array Oper) : List Nat → Array Bool → Bool
  | [], _ => true
  | i :: r, listed => (decide (Region.ready md ops listed = [i]) || ((Region.ready md ops listed).contains i && Region.free md ops listed i && mvB ops i)) && segB md ops r (listed.setIfInBounds i true)
def segL : List Nat → Array Bool → Array Bool
  | [], listed => listed
  | i :: r, listed => segL r (listed.setIfInBounds i true)
section
variable {P : Program} {ops : Array Oper} {md : Region.Mode} {Q : Exit → Act → World → Prop} {N : Act → World → Prop}
theorem wp_then {o : Oper} {a : Act} {w : World} {K : Act → World → Prop} (h : o.wp P a w K (Exit.then N Q)) : o.wp P a w K Q := by
  unfold Oper.wp at *
  generalize (execOp a.eval o).run P w = r at *
  cases r with
  | ok n w' =>
    cases n
    case enter f args => exact Calls.mono h (fun e w'' he => by cases e <;> exact he)
    all_goals exact h
  | halt x w' => cases x <;> exact h
theorem wpOp_then {i : Nat} {a : Act} {w : World} {K : Act → World → Prop} (h : wpOp P ops (Exit.then N Q) i K a w) : wpOp P ops Q i K a w := by
  unfold wpOp at *
  cases ho : ops[i]? with
  | none => simp only [ho] at h ⊢; exact h
  | some o =>
    simp only [ho] at h ⊢
    by_cases hw : Region.wanted o (yielded ops a.tmps) = true
    · simp only [hw, if_true] at h ⊢
      exact h.imp wp_then (fun ⟨x, y⟩ => ⟨x, y⟩)
    · simp only [hw] at h ⊢
      exact h
theorem mvB_spec {i : Nat} {o : Oper} (ho : ops[i]? = some o) (h : mvB ops i = true) : ∃ x, o.op = .move x := by
  unfold mvB at h
  simp only [ho] at h
  split at h
  · exact ⟨_, by assumption⟩
  · cases h
theorem asks_move {o : Oper} {a : Act} {w : World} {x : Operand} (h : o.op = .move x) : ¬ o.asks P a w := by
  rintro ⟨h1, _⟩
  unfold execOp at h1
  rw [h] at h1
  have e0 : ((pure (Next.value (a.eval x)) : Sem Next).runT P w #[]).2 = #[] := rfl
  rw [e0] at h1
  simp at h1
theorem wpAny_seg {g : Nat} (hs : Region.noSelect ops = true) (hQ : ∀ c (d : Option Tmp) v a w, Q (.panic c) (a.put d v) w → Q (.panic c) a w) :
    ∀ (order : List Nat) (l : List Oper) (listed : Array Bool) (a : Act) (w : World), order.map (fun i => ops[i]?) = l.map some → segB md ops order listed = true →
      (∀ a w, N a w → wpAny P md ops Q g (segL order listed) a w) → wpList P ops (Exit.then N Q) l a w → wpAny P md ops Q (order.length + g) listed a w
  | [], [], listed, a, w, _, _, hN, h => by
    rw [List.length_nil, Nat.zero_add]
    exact hN a w h
  | [], _ :: _, _, _, _, hl, _, _, _ => by simp at hl
  | _ :: _, [], _, _, _, hl, _, _, _ => by simp at hl
  | i :: r, o :: l, listed, a, w, hl, hB, hN, h => by
    simp only [List.map_cons, List.cons.injEq] at hl
    obtain ⟨h0, hl⟩ := hl
    simp only [segB, Bool.and_eq_true] at hB
    obtain ⟨hB, hB'⟩ := hB
    have ih := fun a w => wpAny_seg (g := g) hs hQ r l (listed.setIfInBounds i true) a w hl hB' hN
    rw [List.length_cons, show r.length + 1 + g = (r.length + g) + 1 by omega]
    by_cases h1 : Region.ready md ops listed = [i]
    · have hw : wpOp P ops (Exit.then N Q) i (wpList P ops (Exit.then N Q) l) a w := by unfold wpOp; simp only [h0]; exact h
      refine ⟨fun e => (by rw [h1] at e; cases e), fun j hj => ?_⟩
      rw [h1] at hj
      obtain rfl : j = i := by simpa using hj
      exact wpOp_mono ih (wpOp_then hw)
    · simp only [h1, decide_false, Bool.false_or, Bool.and_eq_true] at hB
      obtain ⟨⟨hr, hf⟩, hm⟩ := hB
      obtain ⟨x, hx⟩ := mvB_spec h0 hm
      have hrun := fun w => BigFrame.run_move (P := P) (ρ := a.eval) x hx w
      by_cases hw : Region.wanted o (yielded ops a.tmps) = true
      · refine wpAny_take (v := a.eval x) h0 hs hf hr (fun c a' w' hq => hQ c _ _ _ _ hq) (.inl ⟨hw, hrun⟩) (ih _ _ ?_)
        have h2 : o.wp P a w (wpList P ops (Exit.then N Q) l) (Exit.then N Q) ∨ (o.asks P a w ∧ LetsOut (Exit.then N Q)) := by
          simp only [wpList, hw, if_true] at h; exact h
        rcases h2 with h2 | h2
        · unfold Oper.wp at h2
          rw [hrun w] at h2
          exact h2
        · exact absurd h2.1 (asks_move hx)
      · refine wpAny_take (v := undef) h0 hs hf hr (fun c a' w' hq => hQ c _ _ _ _ hq) (.inr ⟨by simpa using hw, rfl⟩) (ih _ _ ?_)
        simp only [wpList, hw] at h; exact h
/-- what is left behind the first part: the operation x, which yields in every world, and the second part -/
def SegN (P : Program) (ops : Array Oper) (ox : Oper) (l2 : List Oper) (Q : Exit → Act → World → Prop) (a : Act) (w : World) : Prop := ∃ v, Yields P ops ox v a ∧ wpList P ops Q l2 (a.put ox.dst v) w
theorem then_self : Exit.then (Q .normal) Q = Q := by funext e a w; cases e <;> rfl
def segsB (ops : Array Oper) (o1 : List Nat) (x : Nat) (o2 : List Nat) : Bool :=
  Region.noSelect ops && segB .any ops o1 (Array.replicate ops.size false) && (Region.ready .any ops (segL o1 (Array.replicate ops.size false))).contains x && Region.free .any ops (segL o1 (Array.replicate ops.size false)) x
    && segB .any ops o2 ((segL o1 (Array.replicate ops.size false)).setIfInBounds x true) && (Region.ready .any ops (segL o2 ((segL o1 (Array.replicate ops.size false)).setIfInBounds x true))).isEmpty && decide (o1.length + ((o2.length + 0) + 1) = ops.size)
theorem wp_region_segs {id : Nat} {a : Act} {w : World} (hm : P.follows .mixedOrders = true) (o1 : List Nat) (x : Nat) (o2 : List Nat) (hB : segsB ops o1 x o2 = true) (l1 l2 : List Oper) (ox : Oper)
    (h1 : o1.map (fun i => ops[i]?) = l1.map some) (hx : ops[x]? = some ox) (h2 : o2.map (fun i => ops[i]?) = l2.map some) (hQ : ∀ c (d : Option Tmp) v a w, Q (.panic c) (a.put d v) w → Q (.panic c) a w)
    (h : wpList P ops (Exit.then (SegN P ops ox l2 Q) Q) l1 a w.drew) : (Code.region id ops true).wp P Q a w := by
  simp only [segsB, Bool.and_eq_true, decide_eq_true_eq] at hB
  obtain ⟨⟨⟨⟨⟨⟨hs, hb1⟩, hr⟩, hf⟩, hb2⟩, he⟩, hn⟩ := hB
  refine wp_region_any hm ?_
  have key := wpAny_seg (P := P) (Q := Q) (md := .any) (g := (o2.length + 0) + 1) (N := SegN P ops ox l2 Q) hs hQ o1 l1 (Array.replicate ops.size false) a w.drew h1 hb1 ?_ h
  · rw [hn] at key; exact key
  · rintro a' w' ⟨v, hy, h3⟩
    refine wpAny_take hx hs hf hr (fun c a' w' hq => hQ c _ _ _ _ hq) hy ?_
    refine wpAny_seg (g := 0) (N := Q .normal) hs hQ o2 l2 _ _ _ h2 hb2 (fun a w hq => ⟨by simpa using he, hq⟩) ?_
    rw [then_self]
    exact h3
end
end Go.Proofs.Ytodfdfncdoliiau
