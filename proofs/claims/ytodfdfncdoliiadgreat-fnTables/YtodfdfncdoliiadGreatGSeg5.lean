/-
  A region that draws its order, walked in one order: where at each step the operation is the only one that may come up, or hands a slot on (a move), whatever order the tape picks comes to the same end. One operation more may be let in that yields its value in every world. A region that draws its order, whose first k operations leave the world in a class C and yield one value each whatever the order, and whose others come one by one behind all of those: one walk serves every order. Own work (the first part after the kit's own law for quiet regions). A region that draws its order, whose operations read elder memory or call functions that make new memory alone and answer one value: one walk serves every order (RegTail's law, the worlds being all those in which what was there lies as it lay). Chapter 4: the specification's SamePiece, HasTrait, PowerOf, ToughOf, Moved. The laws' own helpers over states: eqSide, eqPieceS, eqSideS, szState, toState, eqState. Written by tools/state4.gen.py. Own work.
-/
import Derived.Test.YtodfdfncdoliiadGreatRows
import Derived.WalkKit
import Derived.BigRegion
import Derived.Deep.Quiet
import Derived.Test.YtodfdfncdoliiadGreatGCur5
import Derived.BigQuiet
import Derived.Test.YtodfdfncdoliiadGreatGEvA3
import Derived.Test.YtodfdfncdoliiadGreatGState13
namespace Go.Proofs.YtodfdfncdoliiadGreat

def mvB (ops : Array Oper) (i : Nat) : Bool :=
  match ops[i]? with
  | some o => (match o.op with | .move _ => true | _ => false)
  | none => false
def segB (md : Region.Mode) (ops : Array Oper) : List Nat → Array Bool → Bool
  | [], _ => true
  | i :: r, listed => (decide (Region.ready md ops listed = [i]) || ((Region.ready md ops listed).contains i && Region.free md ops listed i && mvB ops i)) && segB md ops r (listed.setIfInBounds i true)
def segL : List Nat → Array Bool → Array Bool
  | [], listed => listed
  | i :: r, listed => segL r (listed.setIfInBounds i true)
section
variable {P : Program} {ops : Array Oper} {md : Region.Mode} {Q : Exit → Act → World → Prop} {N : Act → World → Prop}
theorem wp_then {o : Oper} {a : Act} {w : World} {K : Act → World → Prop} (h : o.wp P a w K (Exit.then N Q)) : o.wp P a w K Q := by
  unfold Oper.wp at *
  generalize (execOp a.eval o).run P w = r at *
  cases r with
  | ok n w' =>
    cases n
    case enter f args => exact Calls.mono h (fun e w'' he => by cases e <;> exact he)
    all_goals exact h
  | halt x w' => cases x <;> exact h
theorem wpOp_then {i : Nat} {a : Act} {w : World} {K : Act → World → Prop} (h : wpOp P ops (Exit.then N Q) i K a w) : wpOp P ops Q i K a w := by
  unfold wpOp at *
  cases ho : ops[i]? with
  | none => simp only [ho] at h ⊢; exact h
  | some o =>
    simp only [ho] at h ⊢
    by_cases hw : Region.wanted o (yielded ops a.tmps) = true
    · simp only [hw, if_true] at h ⊢
      exact h.imp wp_then (fun ⟨x, y⟩ => ⟨x, y⟩)
    · simp only [hw] at h ⊢
      exact h
theorem mvB_spec {i : Nat} {o : Oper} (ho : ops[i]? = some o) (h : mvB ops i = true) : ∃ x, o.op = .move x := by
  unfold mvB at h
  simp only [ho] at h
  split at h
  · exact ⟨_, by assumption⟩
  · cases h
theorem asks_move {o : Oper} {a : Act} {w : World} {x : Operand} (h : o.op = .move x) : ¬ o.asks P a w := by
  rintro ⟨h1, _⟩
  unfold execOp at h1
  rw [h] at h1
  have e0 : ((pure (Next.value (a.eval x)) : Sem Next).runT P w #[]).2 = #[] := rfl
  rw [e0] at h1
  simp at h1
theorem wpAny_seg {g : Nat} (hs : Region.noSelect ops = true) (hQ : ∀ c (d : Option Tmp) v a w, Q (.panic c) (a.put d v) w → Q (.panic c) a w) :
    ∀ (order : List Nat) (l : List Oper) (listed : Array Bool) (a : Act) (w : World), order.map (fun i => ops[i]?) = l.map some → segB md ops order listed = true →
      (∀ a w, N a w → wpAny P md ops Q g (segL order listed) a w) → wpList P ops (Exit.then N Q) l a w → wpAny P md ops Q (order.length + g) listed a w
  | [], [], listed, a, w, _, _, hN, h => by
    rw [List.length_nil, Nat.zero_add]
    exact hN a w h
  | [], _ :: _, _, _, _, hl, _, _, _ => by simp at hl
  | _ :: _, [], _, _, _, hl, _, _, _ => by simp at hl
  | i :: r, o :: l, listed, a, w, hl, hB, hN, h => by
    simp only [List.map_cons, List.cons.injEq] at hl
    obtain ⟨h0, hl⟩ := hl
    simp only [segB, Bool.and_eq_true] at hB
    obtain ⟨hB, hB'⟩ := hB
    have ih := fun a w => wpAny_seg (g := g) hs hQ r l (listed.setIfInBounds i true) a w hl hB' hN
    rw [List.length_cons, show r.length + 1 + g = (r.length + g) + 1 by omega]
    by_cases h1 : Region.ready md ops listed = [i]
    · have hw : wpOp P ops (Exit.then N Q) i (wpList P ops (Exit.then N Q) l) a w := by unfold wpOp; simp only [h0]; exact h
      refine ⟨fun e => (by rw [h1] at e; cases e), fun j hj => ?_⟩
      rw [h1] at hj
      obtain rfl : j = i := by simpa using hj
      exact wpOp_mono ih (wpOp_then hw)
    · simp only [h1, decide_false, Bool.false_or, Bool.and_eq_true] at hB
      obtain ⟨⟨hr, hf⟩, hm⟩ := hB
      obtain ⟨x, hx⟩ := mvB_spec h0 hm
      have hrun := fun w => BigFrame.run_move (P := P) (ρ := a.eval) x hx w
      by_cases hw : Region.wanted o (yielded ops a.tmps) = true
      · refine wpAny_take (v := a.eval x) h0 hs hf hr (fun c a' w' hq => hQ c _ _ _ _ hq) (.inl ⟨hw, hrun⟩) (ih _ _ ?_)
        have h2 : o.wp P a w (wpList P ops (Exit.then N Q) l) (Exit.then N Q) ∨ (o.asks P a w ∧ LetsOut (Exit.then N Q)) := by
          simp only [wpList, hw, if_true] at h; exact h
        rcases h2 with h2 | h2
        · unfold Oper.wp at h2
          rw [hrun w] at h2
          exact h2
        · exact absurd h2.1 (asks_move hx)
      · refine wpAny_take (v := undef) h0 hs hf hr (fun c a' w' hq => hQ c _ _ _ _ hq) (.inr ⟨by simpa using hw, rfl⟩) (ih _ _ ?_)
        simp only [wpList, hw] at h; exact h
/-- what is left behind the first part: the operation x, which yields in every world, and the second part -/
def SegN (P : Program) (ops : Array Oper) (ox : Oper) (l2 : List Oper) (Q : Exit → Act → World → Prop) (a : Act) (w : World) : Prop := ∃ v, Yields P ops ox v a ∧ wpList P ops Q l2 (a.put ox.dst v) w
theorem then_self : Exit.then (Q .normal) Q = Q := by funext e a w; cases e <;> rfl
def segsB (ops : Array Oper) (o1 : List Nat) (x : Nat) (o2 : List Nat) : Bool :=
  Region.noSelect ops && segB .any ops o1 (Array.replicate ops.size false) && (Region.ready .any ops (segL o1 (Array.replicate ops.size false))).contains x && Region.free .any ops (segL o1 (Array.replicate ops.size false)) x
    && segB .any ops o2 ((segL o1 (Array.replicate ops.size false)).setIfInBounds x true) && (Region.ready .any ops (segL o2 ((segL o1 (Array.replicate ops.size false)).setIfInBounds x true))).isEmpty && decide (o1.length + ((o2.length + 0) + 1) = ops.size)
theorem wp_region_segs {id : Nat} {a : Act} {w : World} (hm : P.follows .mixedOrders = true) (o1 : List Nat) (x : Nat) (o2 : List Nat) (hB : segsB ops o1 x o2 = true) (l1 l2 : List Oper) (ox : Oper)
    (h1 : o1.map (fun i => ops[i]?) = l1.map some) (hx : ops[x]? = some ox) (h2 : o2.map (fun i => ops[i]?) = l2.map some) (hQ : ∀ c (d : Option Tmp) v a w, Q (.panic c) (a.put d v) w → Q (.panic c) a w)
    (h : wpList P ops (Exit.then (SegN P ops ox l2 Q) Q) l1 a w.drew) : (Code.region id ops true).wp P Q a w := by
  simp only [segsB, Bool.and_eq_true, decide_eq_true_eq] at hB
  obtain ⟨⟨⟨⟨⟨⟨hs, hb1⟩, hr⟩, hf⟩, hb2⟩, he⟩, hn⟩ := hB
  refine wp_region_any hm ?_
  have key := wpAny_seg (P := P) (Q := Q) (md := .any) (g := (o2.length + 0) + 1) (N := SegN P ops ox l2 Q) hs hQ o1 l1 (Array.replicate ops.size false) a w.drew h1 hb1 ?_ h
  · rw [hn] at key; exact key
  · rintro a' w' ⟨v, hy, h3⟩
    refine wpAny_take hx hs hf hr (fun c a' w' hq => hQ c _ _ _ _ hq) hy ?_
    refine wpAny_seg (g := 0) (N := Q .normal) hs hQ o2 l2 _ _ _ h2 hb2 (fun a w hq => ⟨by simpa using he, hq⟩) ?_
    rw [then_self]
    exact h3
end
end Go.Proofs.YtodfdfncdoliiadGreat
namespace Go.Proofs.YtodfdfncdoliiadGreat
section
variable {P : Program} {ops : Array Oper} {md : Region.Mode} {C : World → Prop} {Q : Exit → Act → World → Prop}

/-- what has come has all that it waits for -/
def DC (md : Region.Mode) (ops : Array Oper) (listed : Array Bool) : Prop := ∀ (j : Nat) (o : Oper), ops[j]? = some o → listed.getD j false = true → ∀ e ∈ o.after, Region.binds md e = true → listed.getD e.on false = true
theorem dc_add {listed : Array Bool} {i : Nat} (h : DC md ops listed) (hi : i ∈ Region.ready md ops listed) : DC md ops (listed.setIfInBounds i true) := by
  intro j o ho hj e he hb
  by_cases hij : i = j
  · subst hij
    obtain ⟨_, o', ho', hall⟩ := mem_ready.1 hi
    rw [ho] at ho'
    cases ho'
    exact getD_set_true (hall e he hb)
  · rw [getD_set_ne false hij] at hj
    exact getD_set_true (h j o ho hj e he hb)
/-- each of the first j waits to be used by a later one, up to j -/
def feedB (md : Region.Mode) (ops : Array Oper) (j : Nat) : Bool :=
  (List.range j).all fun i => (List.range (j + 1)).any fun m => decide (i < m) && (match ops[m]? with | some o => o.after.any (fun e => Region.binds md e && e.on == i) | none => false)
theorem all_before {listed : Array Bool} {j : Nat} (hB : feedB md ops j = true) (h : DC md ops listed) (hj : j ∈ Region.ready md ops listed) : ∀ n i, i < j → j - i ≤ n → listed.getD i false = true := by
  intro n
  induction n with
  | zero => intro i hi hn; omega
  | succ n ih =>
    intro i hi hn
    have h1 := List.all_eq_true.1 hB i (List.mem_range.2 hi)
    obtain ⟨m, hm, h2⟩ := List.any_eq_true.1 h1
    have hm' := List.mem_range.1 hm
    rw [Bool.and_eq_true] at h2
    have him : i < m := of_decide_eq_true h2.1
    cases ho : ops[m]? with
    | none => rw [ho] at h2; exact absurd h2.2 (by simp)
    | some o =>
      rw [ho] at h2
      obtain ⟨e, he, hb⟩ := Array.any_eq_true'.1 h2.2
      rw [Bool.and_eq_true, beq_iff_eq] at hb
      by_cases hmj : m = j
      · subst hmj
        obtain ⟨_, o', ho', hall⟩ := mem_ready.1 hj
        rw [ho] at ho'
        cases ho'
        have := hall e he hb.1
        rwa [hb.2] at this
      · have := h m o ho (ih m (by omega) (by omega)) e he hb.1
        rwa [hb.2] at this

/-- whatever order is picked among the first k; T: what is to hold when they have all come -/
def wpM (P : Program) (md : Region.Mode) (ops : Array Oper) (C : World → Prop) (k : Nat) (T : Act → Prop) : Nat → Array Bool → Act → Prop
  | 0, listed, a => (∀ j, j < k → listed.getD j true = true) ∧ T a
  | fuel + 1, listed, a => Region.ready md ops listed ≠ [] ∧ ∀ i ∈ Region.ready md ops listed, i < k ∧ qOp P ops C i (wpM P md ops C k T fuel (listed.setIfInBounds i true)) a
theorem wpM_first {i k : Nat} {oi : Oper} {v : Value} {T : Act → Prop} (hi : ops[i]? = some oi) (hik : i < k) (hfeed : ∀ j, k ≤ j → j < ops.size → feedB md ops j = true) (hsel : ∀ (j : Nat) (o : Oper) cs b, ops[j]? = some o → o.op ≠ .select cs b) :
    ∀ (fuel : Nat) (listed : Array Bool) (a : Act), DC md ops listed →
      (∀ j oj, ops[j]? = some oj → j ≠ i → listed.getD j true = false → (∀ e ∈ oj.after, Region.binds md e = true → e.on ≠ i) → oi.apart ops oj = true) →
      i ∈ Region.ready md ops listed → YieldsIn P ops C oi v a →
      wpM P md ops C k T fuel (listed.setIfInBounds i true) (a.put oi.dst v) → wpM P md ops C k T (fuel + 1) listed a := by
  intro fuel
  induction fuel with
  | zero =>
    intro listed a hdc _ hr hy H
    refine ⟨fun h => (by rw [h] at hr; cases hr), fun j hj => ?_⟩
    by_cases hji : j = i
    · subst hji; exact ⟨hik, hy.qOp hi H⟩
    · exfalso
      have hjf := (mem_ready.1 hj).1
      by_cases hjk : j < k
      · have := H.1 j hjk
        rw [getD_set_ne true (Ne.symm hji), hjf] at this
        cases this
      · obtain ⟨_, oj, hoj, _⟩ := mem_ready.1 hj
        have h1 := all_before (hfeed j (by omega) (Array.getElem?_eq_some_iff.1 hoj).1) hdc hj j i (by omega) (by omega)
        have h2 := (mem_ready.1 hr).1
        rcases Nat.lt_or_ge i listed.size with h' | h'
        · simp [h'] at h1 h2; rw [h2] at h1; cases h1
        · simp [Array.getElem?_eq_none h'] at h1
  | succ fuel ih =>
    intro listed a hdc hfree hr hy H
    refine ⟨fun h => (by rw [h] at hr; cases hr), fun j hj => ?_⟩
    by_cases hji : j = i
    · subst hji; exact ⟨hik, hy.qOp hi H⟩
    · obtain ⟨hjk, h1⟩ := H.2 j (ready_mono hj hji)
      obtain ⟨hjun, oj, hoj, hall⟩ := mem_ready.1 hj
      have hnot : ∀ e ∈ oj.after, Region.binds md e = true → e.on ≠ i := fun e he hb heq => by
        have h1 := hall e he hb
        have h0 := (mem_ready.1 hr).1
        rw [heq] at h1
        rcases Nat.lt_or_ge i listed.size with h' | h'
        · simp [h'] at h0 h1; rw [h0] at h1; cases h1
        · simp [Array.getElem?_eq_none h'] at h1
      have h2 := qOp_put hoj (hfree j oj hoj hji hjun hnot) (fun cs b => hsel i oi cs b hi) (fun cs b => hsel j oj cs b hoj) hy h1
      have hfree' : ∀ k ok, ops[k]? = some ok → k ≠ i → (listed.setIfInBounds j true).getD k true = false →
          (∀ e ∈ ok.after, Region.binds md e = true → e.on ≠ i) → oi.apart ops ok = true := fun k ok hk hki hun hno => by
        refine hfree k ok hk hki ?_ hno
        by_cases hjk : j = k
        · subst hjk; exact hjun
        · rw [getD_set_ne true hjk] at hun; exact hun
      refine ⟨hjk, qOp_mono (fun a' h3 => ih (listed.setIfInBounds j true) a' (dc_add hdc hj) hfree' (ready_mono hr (Ne.symm hji)) h3.1 ?_) h2⟩
      rw [Array.setIfInBounds_comm _ _ hji]
      exact h3.2
def lk (n k : Nat) : Array Bool := Array.replicate k true ++ Array.replicate (n - k) false
theorem wpAny_of_M {k g : Nat} {T : Act → Prop} (hk : k ≤ ops.size) (hT : ∀ a w, C w → T a → wpAny P md ops Q g (lk ops.size k) a w) :
    ∀ (fuel : Nat) (listed : Array Bool) (a : Act) (w : World), listed.size = ops.size → (∀ j, k ≤ j → j < ops.size → listed.getD j true = false) → C w → wpM P md ops C k T fuel listed a → wpAny P md ops Q (fuel + g) listed a w
  | 0, listed, a, w, hsz, hf, hw, h => by
    have e : listed = lk ops.size k := by
      apply Array.ext
      · rw [hsz]; simp [lk]; omega
      · intro j h1 h2
        by_cases hj : j < k
        · have := h.1 j hj
          rw [Array.getD_eq_getD_getElem?, Array.getElem?_eq_getElem h1] at this
          simp only [lk, Array.getElem_append, Array.size_replicate, hj, dif_pos, Array.getElem_replicate]
          exact this
        · have := hf j (by omega) (by omega)
          rw [Array.getD_eq_getD_getElem?, Array.getElem?_eq_getElem h1] at this
          simp only [lk, Array.getElem_append, Array.size_replicate, hj, dif_neg, Array.getElem_replicate, not_false_iff]
          exact this
    rw [e, Nat.zero_add]
    exact hT a w hw h.2
  | fuel + 1, listed, a, w, hsz, hf, hw, h => by
    rw [show fuel + 1 + g = (fuel + g) + 1 by omega]
    refine ⟨fun h0 => absurd h0 h.1, fun i hi => ?_⟩
    obtain ⟨hik, hq⟩ := h.2 i hi
    refine wpOp_of_qOp hw (fun a' w' hw' hM => wpAny_of_M hk hT fuel _ a' w' (by simpa using hsz) (fun j hj hj2 => ?_) hw' hM) hq
    rw [getD_set_ne true (by omega)]
    exact hf j hj hj2
def tkB (md : Region.Mode) (ops : Array Oper) : Nat → Nat → Array Bool → Bool
  | 0, _, _ => true
  | f + 1, n, listed => (Region.ready md ops listed).contains n && Region.free md ops listed n && tkB md ops f (n + 1) (listed.setIfInBounds n true)
theorem wpM_lex {k : Nat} {T : Act → Prop} (hs : Region.noSelect ops = true) (hfeed : ∀ j, k ≤ j → j < ops.size → feedB md ops j = true) :
    ∀ (l : List Oper) (n : Nat) (listed : Array Bool) (a : Act), n + l.length = k → (∀ m o, l[m]? = some o → ops[n + m]? = some o) → DC md ops listed → (∀ j, j < n → listed.getD j true = true) → tkB md ops l.length n listed = true →
      wpQuiet P ops C T l a → wpM P md ops C k T l.length listed a
  | [], n, listed, a, hk, _, _, hn, _, h => ⟨fun j hj => hn j (by simp at hk; omega), h⟩
  | o :: l, n, listed, a, hk, hl, hdc, hn, hB, h => by
    have ho : ops[n]? = some o := by simpa using hl 0 o rfl
    simp only [List.length_cons, tkB, Bool.and_eq_true] at hB
    obtain ⟨⟨hr, hf⟩, hB⟩ := hB
    have hr' : n ∈ Region.ready md ops listed := by simpa using hr
    have hq : qOp P ops C n (wpQuiet P ops C T l) a := by
      unfold qOp
      simp only [ho]
      exact h
    obtain ⟨v, hy, h2⟩ := yieldsIn_of_qOp ho hq
    have ih := wpM_lex hs hfeed l (n + 1) (listed.setIfInBounds n true) (a.put o.dst v) (by simp at hk; omega) (fun m o' hm => by have := hl (m + 1) o' (by simpa using hm); rwa [show n + (m + 1) = n + 1 + m by omega] at this) (dc_add hdc hr') (fun j hj => by
      by_cases e : j = n
      · subst e
        have h0 := (mem_ready.1 hr').1
        rcases Nat.lt_or_ge j listed.size with h' | h'
        · simp [h']
        · simp [Array.getElem?_eq_none h'] at h0
      · rw [getD_set_ne true (by omega)]; exact hn j (by omega)) hB h2
    exact wpM_first ho (by simp at hk; omega) hfeed (Region.noSelect_spec hs) l.length listed a hdc (Region.free_spec ho hf) hr' hy ih
def tailB (ops : Array Oper) (k : Nat) : Bool :=
  Region.noSelect ops && decide (k ≤ ops.size) && tkB .any ops k 0 (Array.replicate ops.size false) && (List.range (ops.size - k)).all (fun d => feedB .any ops (k + d)) && segB .any ops ((List.range (ops.size - k)).map (k + ·)) (lk ops.size k)
    && (Region.ready .any ops (segL ((List.range (ops.size - k)).map (k + ·)) (lk ops.size k))).isEmpty
theorem wp_region_tail {id : Nat} {a : Act} {w : World} (hm : P.follows .mixedOrders = true) (l1 l2 : List Oper) (hl : ops.toList = l1 ++ l2) (hB : tailB ops l1.length = true) (hC : C { w with drawn := w.drawn + 1 })
    (hQ : ∀ c (d : Option Tmp) v a w, Q (.panic c) (a.put d v) w → Q (.panic c) a w)
    (h : wpQuiet P ops C (fun a' => ∀ w', C w' → wpList P ops Q l2 a' w') l1 a) : (Code.region id ops true).wp P Q a w := by
  simp only [tailB, Bool.and_eq_true, decide_eq_true_eq] at hB
  obtain ⟨⟨⟨⟨⟨hs, hk⟩, ht⟩, hfd⟩, hb2⟩, he⟩ := hB
  have hsz : ops.size = l1.length + l2.length := by rw [← Array.length_toList, hl, List.length_append]
  have hfeed : ∀ j, l1.length ≤ j → j < ops.size → feedB .any ops j = true := fun j h1 h2 => by
    have := List.all_eq_true.1 hfd (j - l1.length) (List.mem_range.2 (by omega))
    rwa [show l1.length + (j - l1.length) = j by omega] at this
  have hM := wpM_lex (md := .any) (P := P) (C := C) hs hfeed l1 0 (Array.replicate ops.size false) a (by omega) (fun m o hm' => by
    rw [Nat.zero_add, ← Array.getElem?_toList, hl, List.getElem?_append_left (List.getElem?_eq_some_iff.1 hm').1]; exact hm') (fun j o ho hj => by
      rcases Nat.lt_or_ge j ops.size with h' | h'
      · simp [h'] at hj
      · simp [h'] at hj) (fun j hj => by omega) ht h
  refine wp_region_any hm ?_
  have key := wpAny_of_M (md := .any) (Q := Q) (g := l2.length + 0) hk (fun a' w' hw' hT => ?_) l1.length (Array.replicate ops.size false) a _ (by simp) (fun j h1 h2 => by simp [h2]) hC hM
  · rw [show l1.length + (l2.length + 0) = ops.size by omega] at key; exact key
  · have hlen : ((List.range (ops.size - l1.length)).map (l1.length + ·)).length = l2.length := by simp; omega
    have := wpAny_seg (P := P) (Q := Q) (md := .any) (g := 0) (N := Q .normal) hs hQ ((List.range (ops.size - l1.length)).map (l1.length + ·)) l2 (lk ops.size l1.length) a' w' ?_ hb2 (fun a w hq => ⟨by simpa using he, hq⟩) (by rw [then_self]; exact hT w' hw')
    · rw [hlen] at this; exact this
    · apply List.ext_getElem?
      intro j
      simp only [List.getElem?_map]
      rcases Nat.lt_or_ge j l2.length with h' | h'
      · rw [List.getElem?_range (by omega), Option.map_some, Option.map_some, ← Array.getElem?_toList, hl, List.getElem?_append_right (by omega), show l1.length + j - l1.length = j by omega, List.getElem?_eq_getElem h']; rfl
      · rw [List.getElem?_eq_none (by simp; omega), List.getElem?_eq_none h']; rfl
theorem wp_region_tail_lit (k : Nat) {id : Nat} {a : Act} {w : World} {l : List Oper} (hm : P.follows .mixedOrders = true) (hB : tailB l.toArray k = true) (hk : k ≤ l.length)
    (hQ : ∀ c (d : Option Tmp) v a w, Q (.panic c) (a.put d v) w → Q (.panic c) a w)
    (h : wpQuiet P l.toArray (fun w' => ∃ n, w' = w.drewN n) (fun a' => ∀ w', (∃ n, w' = w.drewN n) → wpList P l.toArray Q (l.drop k) a' w') (l.take k) a) : (Code.region id l.toArray true).wp P Q a w :=
  wp_region_tail (C := fun w' => ∃ n, w' = w.drewN n) hm (l.take k) (l.drop k) (by simp) (by rw [List.length_take, Nat.min_eq_left hk]; exact hB) ⟨1, rfl⟩ hQ h
end
end Go.Proofs.YtodfdfncdoliiadGreat
namespace Go.Proofs.YtodfdfncdoliiadGreat
open Go.ChangeShapes Go.WideShapes Go.ChangeAt Go.RowKit
set_option maxRecDepth 100000
/-- a world in which all that W holds lies as it lay -/
structure BW (W : World) where
  u : World
  h : Below W.heap.size W u
theorem bw_ne (W : World) : Nonempty (BW W) := ⟨⟨W, Below.refl _ _⟩⟩
theorem quiet_below {P : Program} {f : FuncId} {args : Array Value} {W : World} {x : BW W} {v : Value} (h : Calls P f args x.u fun e w' => e = .returned v ∧ Below x.u.heap.size x.u w') :
    Calls P f args x.u fun e w'' => e = .returned v ∧ ∃ y : BW W, w'' = y.u :=
  h.mono fun _ w' ⟨he, hb⟩ => ⟨he, ⟨w', x.h.trans (hb.mono x.h.size)⟩, rfl⟩
theorem quiet_below_same {P : Program} {f : FuncId} {args : Array Value} {W : World} {x : BW W} {v : Value} (h : Calls P f args x.u fun e w' => e = .returned v ∧ w' = x.u) :
    Calls P f args x.u fun e w'' => e = .returned v ∧ ∃ y : BW W, w'' = y.u :=
  h.mono fun _ _ ⟨he, hb⟩ => ⟨he, x, hb⟩
theorem BW.cell {W : World} {p : Addr} {v : Value} (x : BW W) (h : W.cell? p = some v) : x.u.cell? p = some v := (x.h.cell (World.block_lt_of_cell? W p h)).trans h
theorem wp_region_below_lit (k : Nat) {P : Program} {id : Nat} {a : Act} {w W : World} {l : List Oper} {Q : Exit → Act → World → Prop} (hm : P.follows .mixedOrders = true) (hB : tailB l.toArray k = true) (hk : k ≤ l.length)
    (hW : Below W.heap.size W w) (hQ : ∀ c (d : Option Tmp) v a w, Q (.panic c) (a.put d v) w → Q (.panic c) a w)
    (h : wpQuiet P l.toArray (fun w' => ∃ x : BW W, w' = x.u) (fun a' => ∀ w', (∃ x : BW W, w' = x.u) → wpList P l.toArray Q (l.drop k) a' w') (l.take k) a) : (Code.region id l.toArray true).wp P Q a w :=
  wp_region_tail (C := fun w' => ∃ x : BW W, w' = x.u) hm (l.take k) (l.drop k) (by simp) (by rw [List.length_take, Nat.min_eq_left hk]; exact hB) ⟨⟨_, below_drewN hW 1⟩, rfl⟩ hQ h
end Go.Proofs.YtodfdfncdoliiadGreat
namespace Go.Proofs.YtodfdfncdoliiadGreat
open Go.ChangeShapes Go.WideShapes Go.ChangeAt Go.RowKit
set_option maxRecDepth 100000

/-- whether two pieces are the same in all their parts -/
def smP (p q : Pc) : Bool := decide (p.id = q.id) && decide (p.ow = q.ow) && decide (p.si = q.si) && decide (p.zo = q.zo) && decide (p.st = q.st) && decide (p.po = q.po) && decide (p.to = q.to) && decide (p.tr = q.tr) && decide (p.pl = q.pl) && decide (p.mi = q.mi) && decide (p.ma = q.ma) && (p.de == q.de) && (p.be == q.be)
/-- how strong it is, how tough -/
def pwP (p : Pc) : Int := ls (pl p.po p.pl) p.mi
def tgP (p : Pc) : Int := ls (pl p.to p.pl) p.mi
/-- it, elsewhere -/
def mvP (p : Pc) (z s : Int) : Pc := ⟨p.id, p.ow, p.ow, z, s, p.po, p.to, p.tr, 0, 0, 0, false, false⟩
/-- whether t is one of the traits -/
def isT (t : Int) : Bool := decide (t = 1) || decide (t = 2) || decide (t = 4) || decide (t = 8) || decide (t = 16) || decide (t = 32)
/-- whether t is among its traits -/
def htP (p : Pc) (t : Int) : Bool := isT t && (bits .and .i64 p.tr t != 0)
theorem htP_is {p : Pc} {t : Int} (h : isT t = true) : htP p t = (bits .and .i64 p.tr t != 0) := by unfold htP; rw [h]; rfl
theorem smP_self (p : Pc) : smP p p = true := by unfold smP; simp
end Go.Proofs.YtodfdfncdoliiadGreat
namespace Go.Proofs.YtodfdfncdoliiadGreat
open Go.ChangeShapes Go.WideShapes Go.ChangeAt Go.RowKit
set_option maxRecDepth 100000
/-- how much is left: the laws' own measure -/
def szN (n : Nat) (x : Int) : Int := if x - n < 0 then -1 else x - n
end Go.Proofs.YtodfdfncdoliiadGreat
