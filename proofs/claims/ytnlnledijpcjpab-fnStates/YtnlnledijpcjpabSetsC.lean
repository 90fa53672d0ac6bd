/-
  Chapter 3, the program's side: what is left of an ascending list when each number that is as the one before it is struck; the library's Grow and Concat at slices of ints. Chapter 3, the program's side: the iterator over a set's members, and what the program makes of it. Own work.
-/
import Derived.Test.YtnlnledijpcjpabSetsB
import Derived.Lib.AppendZeros
import Derived.Lib.SlicesCompact
import Derived.RangeFuncNested
import Derived.RangeFuncBox
import Derived.RangeFuncBound
import Derived.RangeFuncCalls
import Derived.RangeFuncLeaves
import Derived.Shelf.Abstract
import Derived.Shelf.RegionOpen
import Derived.WalkKit
import Derived.OwnWalkIn
import Derived.TacticsInMore
import Derived.LoopNIn
import Derived.LoopIn
import Derived.Maps.AppendAt
namespace Go.Proofs.Ytnlnledijpcjpab
open Go.ChangeShapes Go.WideShapes Go.ChangeAt Go.RowKit
set_option maxRecDepth 100000

theorem comp_inv {d : Array Int} (hs : ∀ i j, i ≤ j → j < d.size → d[i]! ≤ d[j]!) : ∀ m, m ≤ d.size → Asc (Lib.compactUpTo d m) ∧ ∀ x, x ∈ Lib.compactUpTo d m ↔ ∃ j, j < m ∧ d[j]! = x := by
  intro m
  induction m with
  | zero => intro _; exact ⟨List.Pairwise.nil, fun x => ⟨fun h => (by cases h), fun ⟨j, hj, _⟩ => (by omega)⟩⟩
  | succ m ih =>
    intro hm
    obtain ⟨ia, im⟩ := ih (by omega)
    rw [Lib.compactUpTo_succ]
    by_cases hk : m = 0 ∨ d[m]! ≠ d[m - 1]!
    · rw [if_pos (show Lib.keeps d m = true from decide_eq_true hk)]
      refine ⟨List.pairwise_append.2 ⟨ia, List.pairwise_singleton _ _, fun a ha b hb => ?_⟩, fun x => ?_⟩
      · rw [List.mem_singleton] at hb
        subst hb
        obtain ⟨j, hj, rfl⟩ := (im a).1 ha
        have h1 := hs j (m - 1) (by omega) (by omega)
        have h2 := hs (m - 1) m (by omega) (by omega)
        rcases hk with h | h
        · omega
        · omega
      · rw [List.mem_append, List.mem_singleton, im]
        constructor
        · rintro (⟨j, hj, e⟩ | rfl)
          · exact ⟨j, by omega, e⟩
          · exact ⟨m, by omega, rfl⟩
        · rintro ⟨j, hj, e⟩
          by_cases h : j = m
          · subst h; exact .inr e.symm
          · exact .inl ⟨j, by omega, e⟩
    · rw [if_neg (show ¬ Lib.keeps d m = true from fun h => hk (of_decide_eq_true h)), List.append_nil]
      refine ⟨ia, fun x => ?_⟩
      rw [im]
      have hk1 : m ≠ 0 := fun h => hk (.inl h)
      have hk2 : d[m]! = d[m - 1]! := Decidable.byContradiction fun h => hk (.inr h)
      constructor
      · rintro ⟨j, hj, e⟩; exact ⟨j, by omega, e⟩
      · rintro ⟨j, hj, e⟩
        by_cases h : j = m
        · subst h; exact ⟨j - 1, by omega, by rw [← hk2]; exact e⟩
        · exact ⟨j, by omega, e⟩
/-- sorted, and struck: the set -/
theorem setL_comp (L : List Int) : Lib.compact (L.mergeSort fun x y => decide (x ≤ y)) = setL L := by
  have hp : (L.mergeSort fun x y => decide (x ≤ y)).Pairwise (fun x y => decide (x ≤ y) = true) := List.pairwise_mergeSort (by simp; omega) (by simp; omega) L
  generalize hM : (L.mergeSort fun x y => decide (x ≤ y)) = M at hp
  have hmem : ∀ x, x ∈ M ↔ x ∈ L := fun x => by rw [← hM]; exact List.mem_mergeSort
  have hs : ∀ i j, i ≤ j → j < M.toArray.size → M.toArray[i]! ≤ M.toArray[j]! := by
    intro i j hij hj
    have hj' : j < M.length := by simpa using hj
    by_cases e : i = j
    · subst e; exact Int.le_refl _
    · have := List.pairwise_iff_getElem.1 hp i j (by omega) hj' (by omega)
      simpa [getElem!_pos, hj', show i < M.length by omega] using this
  obtain ⟨h1, h2⟩ := comp_inv hs M.length (by simp)
  refine setL_eq h1 fun x => ?_
  rw [show Lib.compact M = Lib.compactUpTo M.toArray M.length from rfl, h2 x, ← hmem x]
  constructor
  · rintro ⟨j, hj, rfl⟩
    simp [hj]
  · intro hx
    obtain ⟨j, hj, rfl⟩ := List.mem_iff_getElem.1 hx
    exact ⟨j, hj, by simp [hj]⟩

/-- the numbers of several lists, one behind the other -/
def tot (N : Nat → Nat) : Nat → Nat
  | 0 => 0
  | k + 1 => tot N k + N k
def catL (N : Nat → Nat) (G : Nat → Nat → Int) : Nat → List Int
  | 0 => []
  | k + 1 => catL N G k ++ lst (N k) (G k)
theorem catL_len (N : Nat → Nat) (G : Nat → Nat → Int) : ∀ k, (catL N G k).length = tot N k
  | 0 => rfl
  | k + 1 => by rw [catL, List.length_append, catL_len N G k, lst_len]; rfl
theorem tot_mono (N : Nat → Nat) {k m : Nat} (h : k ≤ m) : tot N k ≤ tot N m := by
  induction m with
  | zero => obtain rfl : k = 0 := by omega
            exact Nat.le_refl _
  | succ m ih =>
    by_cases e : k = m + 1
    · subst e; exact Nat.le_refl _
    · have := ih (by omega)
      show _ ≤ tot N m + N m
      omega
theorem vals_catL (N : Nat → Nat) (G : Nat → Nat → Int) (k : Nat) : vals .i64 (tot N k) (el (catL N G k)) ++ vals .i64 (N k) (G k) = vals .i64 (tot N (k + 1)) (el (catL N G (k + 1))) := by
  rw [vals_cat]
  show _ = vals .i64 (tot N k + N k) _
  refine vals_congr fun i hi => ?_
  unfold cat
  by_cases h : i < tot N k
  · rw [if_pos h, catL, el_left (by rw [catL_len]; exact h)]
  · rw [if_neg h, catL, el_right (by rw [catL_len]; omega), catL_len, el_lst (by omega)]

set_option maxHeartbeats 1000000 in
theorem grow_nil (n : Nat) (w : World) (hn : n ≤ 100000000) :
    Calls Try.prog 139 #[.slice none 0 0, .int .i64 n] w fun e w' => ∃ v, e = .returned v ∧ w'.ownsRow w.heap.size 3 1 v 0 [] ∧ Below w.heap.size w w' := by
  obtain ⟨i0, hi, hz0, hz1, hz2⟩ := info_parts Try.infoInt
  by_cases h0 : n = 0
  · subst h0
    go_enter Try.func139, Try.ntmps139
    go_wp2
    go_ret
    exact ⟨_, rfl, World.ownsRow_nil _ _ _ _, Below.refl _ _⟩
  · have hr := fun ty => Lib.run_append_nil_zeros w 24 3 ty 3 i0 (.int .i64 0) .i64 .i64 Try.underlying24 Try.underlying3 hi hz0 n (by omega) (by rw [hz1]; decide) (by omega) (by rw [hz2]; omega)
    have hG := grownCap_ge w n 0 3
    have hM := grownCap_le_maxLen w n 0 3 (by unfold maxLen; omega)
    obtain ⟨G, eG⟩ : ∃ G, G = grownCap w n 0 3 := ⟨_, rfl⟩
    rw [← eG] at hr hG hM
    have hM2 : G ≤ 9223372036854775807 := by unfold maxLen at hM; exact hM
    have hpos : ¬ ((n : Int) ≤ 0) := by omega
    clear eG
    go_enter Try.func139, Try.ntmps139
    go_wp2_with (at_builtin; refine Lib.wpList_append_run _ rfl _ _ _ _ rfl _ _ rfl rfl _ _ (hr _) ?_)
    go_ret
    refine ⟨_, rfl, ⟨rfl, .inr ⟨w.heap.size, G, _, rfl, Nat.le_refl _, heap_alloc_new _ _, Nat.zero_le _, hM, ?_, rfl⟩⟩, ?_⟩
    · rw [Array.size_append, size_zeroCells, size_zeroCells]
      show n * 1 + (G - n) * 1 = G * 1
      omega
    · exact ((Below.refl _ _).alloc (Nat.le_refl _) _).drew
set_option maxHeartbeats 1000000 in
theorem concat_any (q m c : Nat) (A : Nat → Addr) (N C B : Nat → Nat) (G : Nat → Nat → Int) (w : World) (hm : m ≤ 100) (ht : tot N m ≤ 100000000)
    (hc : ∀ j, j < m → w.cell? ⟨q, j, none⟩ = some (.slice (some (A j)) (N j) (C j))) (hr : ∀ j, j < m → Rd .i64 w (B j) (some (A j)) (N j) (G j)) :
    Calls Try.prog 119 #[.slice (some ⟨q, 0, none⟩) m c] w fun e w' => ∃ v, e = .returned v ∧ w'.ownsRow w.heap.size 3 1 v (tot N m) (vals .i64 (tot N m) (el (catL N G m))) ∧ Below w.heap.size w w' := by
  obtain ⟨i0, hi, hz0, hz1, hz2⟩ := info_parts Try.infoInt
  go_enter Try.func119, Try.ntmps119
  go_wp2
  go_loop [3, 11] (fun s i => ∃ k : Nat, k ≤ m ∧ s = .int .i64 (tot N k : Nat) ∧ i = .int .i64 k) (fun _ i => m - (intOf i).toNat)
  case atStart => exact ⟨0, Nat.zero_le _, rfl, rfl⟩
  case round =>
    obtain ⟨k, hk, rfl, rfl⟩ := hrel
    by_cases hlt : k < m
    · have e1 := hc k hlt
      have HT : Hid (tot N (k + 1) ≤ 100000000) := Nat.le_trans (tot_mono N (by omega)) ht
      obtain ⟨x, hx⟩ : ∃ x, tot N k = x := ⟨_, rfl⟩
      obtain ⟨y, hy⟩ : ∃ y, N k = y := ⟨_, rfl⟩
      have HE : Hid (tot N (k + 1) = x + y) := show tot N k + N k = x + y by rw [hx, hy]
      have hxy : x + y ≤ 100000000 := by rw [← HE.out]; exact HT.out
      rw [hy] at e1
      rw [hx]
      clear hx hy HT hr hc ht
      go_wp2
      go_round
      case rel => exact ⟨k + 1, by omega, by rw [HE.out]; go_num, by go_num⟩
      case measure => simp [intOf]; omega
    · obtain rfl : k = m := by omega
      obtain ⟨x, hx⟩ : ∃ x, tot N k = x := ⟨_, rfl⟩
      rw [hx] at ht ⊢
      go_wp2_with fail
      refine (grow_nil x w (by omega)).mono ?_
      rintro e w1 ⟨v1, rfl, hown1, hb1⟩
      subst hx
      go_wp2
      go_loopw [6, 27] (fun v i wr => ∃ j : Nat, j ≤ k ∧ i = .int .i64 j ∧ wr.ownsRow w.heap.size 3 1 v (tot N j) (vals .i64 (tot N j) (el (catL N G j))) ∧ Below w.heap.size w wr) (fun _ i _ => k - (intOf i).toNat)
      case atStart => exact ⟨0, Nat.zero_le _, rfl, hown1, hb1⟩
      case round =>
        obtain ⟨j, hj, rfl, hown, hb⟩ := hrel
        by_cases hlt : j < k
        · have e1 : wr.cell? ⟨q, j, none⟩ = some (.slice (some (A j)) (N j) (C j)) := (hb.cell (p := ⟨q, j, none⟩) (World.block_lt_of_cell? w _ (hc j hlt))).trans (hc j hlt)
          have hnews := ((hr j hlt).grew hb).news'
          have HT : Hid (tot N (j + 1) ≤ 100000000) := Nat.le_trans (tot_mono N (by omega)) ht
          obtain ⟨x, hx⟩ : ∃ x, tot N j = x := ⟨_, rfl⟩
          obtain ⟨y, hy⟩ : ∃ y, N j = y := ⟨_, rfl⟩
          have HE : Hid (tot N (j + 1) = x + y) := show tot N j + N j = x + y by rw [hx, hy]
          have hxy : x + y ≤ 100000000 := by rw [← HE.out]; exact HT.out
          have HV : Hid (vals .i64 x (el (catL N G j)) ++ vals .i64 y (G j) = vals .i64 (x + y) (el (catL N G (j + 1)))) := show _ = _ by rw [← HE.out, ← hx, ← hy]; exact vals_catL N G j
          have HR : Hid (∀ (v' : Value) (w' : World), w'.ownsRow w.heap.size 3 1 v' (x + y) (vals .i64 (x + y) (el (catL N G (j + 1)))) → w'.ownsRow w.heap.size 3 1 v' (tot N (j + 1)) (vals .i64 (tot N (j + 1)) (el (catL N G (j + 1))))) := fun v' w' h => by rw [HE.out]; exact h
          rw [hy] at e1 hnews
          rw [hx] at hown
          clear hx hy HT hown1 hb1 HE
          go_wp2_with (at_builtin; refine wpList_append_own _ rfl (.tmp 31) (.tmp 32) 24 rfl w.heap.size 3 i0 (.int .i64 0) 1 8 Try.underlying24 hi hz0 hz1 hz2 rfl (by decide) _ _ _ rfl hown (A j) y (C j) (vals .i64 y (G j)) rfl (by rw [vals_len, Nat.mul_one]) hnews (vals_one _ _ _) (by unfold maxLen; omega) (by omega) hb.size ?_)
          intro v4 w4 hown4 hgr4 _
          have hb4 : Below w.heap.size w w4 := hb.grown hgr4 hb.size (fun k hk => (hown.lt k hk).1)
          have hown5 := HR.out _ _ (by rw [← HV.out]; exact hown4)
          clear hown4 hgr4 hown hb e1 HV HR hnews
          go_wp2
          go_roundw
          case rel => first | exact ⟨j + 1, by omega, by go_num, hown5, hb4⟩ | ((repeat apply Exists.intro); exact ⟨⟨j + 1, by omega, by go_num, hown5, hb4⟩, rfl⟩)
          case measure => simp [intOf]; omega
        · obtain rfl : j = k := by omega
          clear hown1 hb1 hr hc
          go_wp2
          go_ret
          exact ⟨_, rfl, hown, hb⟩
end Go.Proofs.Ytnlnledijpcjpab
namespace Go.Proofs.Ytnlnledijpcjpab
open Go.ChangeShapes Go.WideShapes Go.ChangeAt Go.RowKit Go.Shelf
set_option maxRecDepth 100000
attribute [local go_sem] Oper.semAt_some

/-- block b lies as it lay -/
def Keep (b : Nat) (A B : World) : Prop := B.heap[b]? = A.heap[b]?
theorem keep_t {b : Nat} {A B C : World} (h : Keep b A B) (k : Keep b B C) : Keep b A C := Eq.trans k h
theorem keep_b {b : Nat} {w : World} (hb : b < w.heap.size) (W : World) (l : Nat) (o o' : Obj) (hl : w.heap.size ≤ l) (_ : W.heap[l]? = some o) (_ : o.isCells = false) (_ : o.isWalk = false) : Keep b W (W.putObj l o') := World.putObj_heap_other (by omega)

set_option maxRecDepth 100000 in
set_option maxHeartbeats 2000000 in
/-- the function that tells a set's members, in order, to whoever ranges over it -/
theorem tells_in (F : Fence) (n : Nat) (h7 : F.fn 123) (hro : F.round = none) (hn : 1 ≤ n) (l Bs b M cap : Nat) (a : Option Addr) (f : Nat → Int) (hM : M ≤ 9223372036854775807) (J Jx : List Int → World → Prop)
    (hY : ∀ pre x W, J pre W → pre.length < M → YieldAt F (n - 1) Try.prog l #[.int .i64 x] W fun e W' =>
      (e = .returned (.bool true) ∧ J (pre ++ [x]) W' ∧ Keep b W W') ∨ (e = .returned (.bool false) ∧ Jx (pre ++ [x]) W'))
    (W : World) (hBs : W.cell? ⟨Bs, 0, none⟩ = some (.slice a M cap)) (hr : Rd .i64 W b a M f) (h0 : J [] W) :
    CallsIn F n Try.prog 123 #[.func (.yield l) #[] #[], .pointer (some ⟨Bs, 0, none⟩)] W fun e W' => (∃ v, e = .returned v) ∧
      ((∃ ys, ys = lst M f ∧ J ys W') ∨ (∃ pre, (∃ k, k ≤ M ∧ pre = lst k f) ∧ Jx pre W')) := by
  refine callsIn_of_wp Try.func123 rfl h7 ?_ hro
  simp only [Try.ntmps123, List.size_toArray, List.length_cons, List.length_nil, Nat.reduceAdd, Nat.reduceSub, Array.replicate_succ, Array.replicate_zero, List.push_toArray, List.append_toArray, List.nil_append, List.cons_append]
  gi_wp2
  gi_loopw [8] (fun i wr => ∃ k : Nat, k ≤ M ∧ i = .int .i64 k ∧ J (lst k f) wr ∧ Keep b W wr)
    (fun i _ => M - (intOf i).toNat)
  case atStart => exact ⟨0, Nat.zero_le _, rfl, h0, rfl⟩
  case round =>
    obtain ⟨k, hk, rfl, hJs, hnx⟩ := hrel
    by_cases hlt : k < M
    · rcases hr with h3 | ⟨off, rfl, hc⟩
      · omega
      have hcx : wr.cell? ⟨b, off + k, none⟩ = some (.int .i64 (f k)) := (World.cell?_of_block (w := W) (a := ⟨b, off + k, none⟩) hnx).trans (hc k hlt)
      obtain ⟨fn, tmps, assign, body, hy, hR⟩ := hY _ (f k) wr hJs (by rw [lst_len]; exact hlt)
      gi_wp2
      refine hR.mono ?_
      rintro e W3 (⟨rfl, hJ3, hk3⟩ | ⟨rfl, hJx3⟩)
      · gi_wp2
        go_roundw
        case rel => exact ⟨k + 1, by omega, by simp, by rw [lst_succ]; exact hJ3, keep_t hnx hk3⟩
        case measure => simp [intOf]; omega
      · gi_wp2
        refine bodyPost_ret (results_none rfl _ _ _) rfl ?_
        exact ⟨⟨_, rfl⟩, .inr ⟨_, ⟨k + 1, by omega, (lst_succ _ _).symm⟩, hJx3⟩⟩
    · obtain rfl : k = M := by omega
      gi_wp2
      go_end0
      exact ⟨⟨_, rfl⟩, .inl ⟨_, rfl, hJs⟩⟩
/-- .. as the loops that range over it take it -/
theorem tells_stops (F : Fence) (n : Nat) (h7 : F.fn 123) (hro : F.round = none) (hn : 1 ≤ n) (Bs b M cap : Nat) (a : Option Addr) (f : Nat → Int) (hM : M ≤ 9223372036854775807) (w : World)
    (hc : w.cell? ⟨Bs, 0, none⟩ = some (.slice a M cap)) (hr : Rd .i64 w b a M f) :
    SeqStopsK F n Try.prog 123 #[.pointer (some ⟨Bs, 0, none⟩)] (fun x : Int => #[Value.int .i64 x]) (Keep b) (fun ys => ys = lst M f) (fun pre => ∃ k, k ≤ M ∧ pre = lst k f) M w := fun l J Jx W hW _ _ hY h0 =>
  tells_in F n h7 hro hn l Bs b M cap a f hM J Jx hY W ((hW.cell (p := ⟨Bs, 0, none⟩) (World.block_lt_of_cell? w _ hc)).trans hc) (hr.grew hW) h0

set_option maxHeartbeats 1000000 in
/-- s.all(): the set is boxed; the function value holds the box -/
theorem all_in (F : Fence) (n : Nat) (h5 : F.fn 75) (hro : F.round = none) (a : Option Addr) (M cap : Nat) (w : World) :
    CallsIn F n Try.prog 75 #[.agg #[.slice a M cap]] w fun e w' => e = .returned (.func (.func 123) #[] #[.pointer (some ⟨w.heap.size, 0, none⟩)]) ∧ w' = w.alloc (.cells #[.slice a M cap] 81) := by
  refine callsIn_of_wp Try.func75 rfl h5 ?_ hro
  simp only [Try.ntmps75, List.size_toArray, List.length_cons, List.length_nil, Nat.reduceAdd, Nat.reduceSub, Array.replicate_succ, Array.replicate_zero, List.push_toArray, List.append_toArray, List.nil_append, List.cons_append]
  gi_wp2
  go_ret
  exact ⟨rfl, rfl⟩

set_option maxRecDepth 100000 in
set_option maxHeartbeats 2000000 in
/-- slices.AppendSeq at a slice of nothing and a set's members -/
theorem appendSeq_in (F : Fence) (n : Nat) (h52 : F.fn 122) (h7 : F.fn 123) (hro : F.round = none) (hn : 3 ≤ n) (n₀ Bs b M cap g0 c0 : Nat) (a : Option Addr) (f : Nat → Int) (w : World) (hM : M ≤ 100000000) (hn₀ : n₀ ≤ w.heap.size)
    (hc : w.cell? ⟨Bs, 0, none⟩ = some (.slice a M cap)) (hr : Rd .i64 w b a M f) (hb : b < n₀) (hown : w.ownsRow n₀ 3 1 (.slice (some ⟨g0, 0, none⟩) 0 c0) 0 []) :
    CallsIn F n Try.prog 122 #[.slice (some ⟨g0, 0, none⟩) 0 c0, .func (.func 123) #[] #[.pointer (some ⟨Bs, 0, none⟩)]] w fun e W' =>
      ∃ v, e = .returned v ∧ W'.ownsRow n₀ 3 1 v M (vals .i64 M f) ∧ v ≠ .slice none 0 0 ∧ Below n₀ w W' := by
  have h1 : 1 ≤ n := by omega
  obtain ⟨i0, hi, hz0, hz1, hz2⟩ := info_parts Try.infoInt
  refine callsIn_of_wp_marks Try.func122 rfl h52 ?_ hro
  simp only [Try.ntmps122, List.size_toArray, List.length_cons, List.length_nil, Nat.reduceAdd, Nat.reduceSub, Array.replicate_succ, Array.replicate_zero, List.push_toArray, List.append_toArray, List.nil_append, List.cons_append]
  gi_wp2
  have bO := Boxed.new w 24 (.slice (some ⟨g0, 0, none⟩) 0 c0)
  have hB0 : Below w.heap.size w (w.alloc (.cells #[.slice (some ⟨g0, 0, none⟩) 0 c0] 24)) := (Below.refl _ w).alloc (Nat.le_refl _) _
  have hc1 := (hB0.cell (p := ⟨Bs, 0, none⟩) (World.block_lt_of_cell? w _ hc)).trans hc
  refine wpIn_rangeFunc_ownG hro h1 (gf := 123) (lb := #[.pointer (some ⟨Bs, 0, none⟩)]) rfl h7 (enters_of Try.func123 (by kernel_rfl) rfl)
    (tells_stops F (n - 1) h7 hro (by omega) Bs b M cap a f (by omega) _ hc1 (hr.grew hB0)) keep_t (keep_b (by simp; omega)) (Below.refl _ _) (fun _ => rfl)
    (fun pre W => (∃ v, Boxed W w.heap.size 24 v ∧ W.ownsRow n₀ 3 1 v pre.length (pre.map (Value.int .i64)) ∧ v ≠ .slice none 0 0) ∧ Below n₀ w W)
    (fun _ _ _ => False)
    (OwnFrom.and (Own.from (holdsRow_own n₀ w.heap.size 24 3 1 (fun pre : List Int => pre.length) (fun pre : List Int => pre.map (Value.int .i64)) (fun (_ : List Int) v => v ≠ .slice none 0 0)) _) (ownFrom_below hn₀ (by simp; omega)))
    (fun _ _ _ _ _ hs _ _ => hs)
    ⟨⟨_, bO, hown.alloc _, by simp⟩, hB0.mono hn₀⟩
    (fun x => { tmps := #[.slice (some ⟨g0, 0, none⟩) 0 c0, .func (.func 123) #[] #[.pointer (some ⟨Bs, 0, none⟩)], .pointer (some ⟨w.heap.size, 0, none⟩), undef, .slice none 0 0, .int .i64 x, .func (.func 123) #[] #[.pointer (some ⟨Bs, 0, none⟩)], .int .i64 x, undef, undef, undef, undef, undef], defers := [] }) ?assign ?body ?done ?stop
  case assign =>
    intro l x W K hK
    gi_wp2
    exact hK
  case body =>
    rintro l pre x W ⟨⟨v, hv, hrow, hnil⟩, hB⟩ hlt
    have hc := hv.cell
    have hnW := hB.size
    gi_wp2_with (gi_at_builtin; refine wpListIn_append_own _ rfl _ _ 24 rfl n₀ 3 i0 (.int .i64 0) 1 8 Try.underlying24 hi hz0 hz1 hz2 rfl (by decide) _ _ _ rfl (hrow.alloc _) ⟨W.heap.size, 0, none⟩ 1 1 [.int .i64 x] rfl rfl (cell_one_new _ _ _) (by simp [Value.oneCell']) (by unfold maxLen; omega) (by omega) (by simp; omega) ?_; intro v' w1 hown' hgrow _; obtain ⟨g', cap', rfl⟩ := ownsRow_succ hown'; obtain ⟨hv1, hv2, hr2, hk2, hb2⟩ := hv.appended (by decide) hrow (by omega) hn₀ hown' hgrow; have hc1 := hv1.cell; have hf1 := hv1.frozen)
    exact ⟨hk2.from _, hb2.block b hb, ⟨_, hv2, by rw [List.length_append, List.map_append]; exact hr2, by simp⟩, hB.trans hb2⟩
  case done =>
    rintro D ys W hD rfl ⟨⟨v, hv, hrow, hnil⟩, hB⟩ hK
    have hc := hv.cell
    gi_wp2
    refine ⟨by simp, .inl ⟨_, _, rfl, run_takeDeferred hK, ?_⟩⟩
    rw [lst_len] at hrow
    have hm : (lst M f).map (Value.int .i64) = vals .i64 M f := by simp [lst, vals]
    rw [hm] at hrow
    exact ⟨_, results_tmp rfl _ _ _, v, rfl, ownsRow_putObj hrow _ hK rfl, hnil, hB.trans (belowK_b (w := w) hn₀ W D _ _ (by simp at hD; omega) hK rfl rfl)⟩
  case stop =>
    rintro D c pre W _ _ h _
    exact h.elim
end Go.Proofs.Ytnlnledijpcjpab
