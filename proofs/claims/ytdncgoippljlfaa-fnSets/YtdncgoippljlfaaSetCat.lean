/-
  Chapter 3, the program's side: what is left of an ascending list when each number that is as the one before it is struck; the library's Grow and Concat at slices of ints. Own work.
-/
import Derived.Test.YtdncgoippljlfaaSetLaw
import Derived.Lib.AppendZeros
import Derived.Lib.SlicesCompact
namespace Go.Proofs.Ytdncgoippljlfaa
open Go.ChangeShapes Go.WideShapes Go.ChangeAt Go.RowKit
set_option maxRecDepth 100000

theorem comp_inv {d : Array Int} (hs : ∀ i j, i ≤ j → j < d.size → d[i]! ≤ d[j]!) : ∀ m, m ≤ d.size → Asc (Lib.compactUpTo d m) ∧ ∀ x, x ∈ Lib.compactUpTo d m ↔ ∃ j, j < m ∧ d[j]! = x := by
  intro m
  induction m with
  | zero => intro _; exact ⟨List.Pairwise.nil, fun x => ⟨fun h => (by cases h), fun ⟨j, hj, _⟩ => (by omega)⟩⟩
  | succ m ih =>
    intro hm
    obtain ⟨ia, im⟩ := ih (by omega)
    rw [Lib.compactUpTo_succ]
    by_cases hk : m = 0 ∨ d[m]! ≠ d[m - 1]!
    · rw [if_pos (show Lib.keeps d m = true from decide_eq_true hk)]
      refine ⟨List.pairwise_append.2 ⟨ia, List.pairwise_singleton _ _, fun a ha b hb => ?_⟩, fun x => ?_⟩
      · rw [List.mem_singleton] at hb
        subst hb
        obtain ⟨j, hj, rfl⟩ := (im a).1 ha
        have h1 := hs j (m - 1) (by omega) (by omega)
        have h2 := hs (m - 1) m (by omega) (by omega)
        rcases hk with h | h
        · omega
        · omega
      · rw [List.mem_append, List.mem_singleton, im]
        constructor
        · rintro (⟨j, hj, e⟩ | rfl)
          · exact ⟨j, by omega, e⟩
          · exact ⟨m, by omega, rfl⟩
        · rintro ⟨j, hj, e⟩
          by_cases h : j = m
          · subst h; exact .inr e.symm
          · exact .inl ⟨j, by omega, e⟩
    · rw [if_neg (show ¬ Lib.keeps d m = true from fun h => hk (of_decide_eq_true h)), List.append_nil]
      refine ⟨ia, fun x => ?_⟩
      rw [im]
      have hk1 : m ≠ 0 := fun h => hk (.inl h)
      have hk2 : d[m]! = d[m - 1]! := Decidable.byContradiction fun h => hk (.inr h)
      constructor
      · rintro ⟨j, hj, e⟩; exact ⟨j, by omega, e⟩
      · rintro ⟨j, hj, e⟩
        by_cases h : j = m
        · subst h; exact ⟨j - 1, by omega, by rw [← hk2]; exact e⟩
        · exact ⟨j, by omega, e⟩
/-- sorted, and struck: the set -/
theorem setL_comp (L : List Int) : Lib.compact (L.mergeSort fun x y => decide (x ≤ y)) = setL L := by
  have hp : (L.mergeSort fun x y => decide (x ≤ y)).Pairwise (fun x y => decide (x ≤ y) = true) := List.pairwise_mergeSort (by simp; omega) (by simp; omega) L
  generalize hM : (L.mergeSort fun x y => decide (x ≤ y)) = M at hp
  have hmem : ∀ x, x ∈ M ↔ x ∈ L := fun x => by rw [← hM]; exact List.mem_mergeSort
  have hs : ∀ i j, i ≤ j → j < M.toArray.size → M.toArray[i]! ≤ M.toArray[j]! := by
    intro i j hij hj
    have hj' : j < M.length := by simpa using hj
    by_cases e : i = j
    · subst e; exact Int.le_refl _
    · have := List.pairwise_iff_getElem.1 hp i j (by omega) hj' (by omega)
      simpa [getElem!_pos, hj', show i < M.length by omega] using this
  obtain ⟨h1, h2⟩ := comp_inv hs M.length (by simp)
  refine setL_eq h1 fun x => ?_
  rw [show Lib.compact M = Lib.compactUpTo M.toArray M.length from rfl, h2 x, ← hmem x]
  constructor
  · rintro ⟨j, hj, rfl⟩
    simp [hj]
  · intro hx
    obtain ⟨j, hj, rfl⟩ := List.mem_iff_getElem.1 hx
    exact ⟨j, hj, by simp [hj]⟩

/-- the numbers of several lists, one behind the other -/
def tot (N : Nat → Nat) : Nat → Nat
  | 0 => 0
  | k + 1 => tot N k + N k
def catL (N : Nat → Nat) (G : Nat → Nat → Int) : Nat → List Int
  | 0 => []
  | k + 1 => catL N G k ++ lst (N k) (G k)
theorem catL_len (N : Nat → Nat) (G : Nat → Nat → Int) : ∀ k, (catL N G k).length = tot N k
  | 0 => rfl
  | k + 1 => by rw [catL, List.length_append, catL_len N G k, lst_len]; rfl
theorem tot_mono (N : Nat → Nat) {k m : Nat} (h : k ≤ m) : tot N k ≤ tot N m := by
  induction m with
  | zero => obtain rfl : k = 0 := by omega
            exact Nat.le_refl _
  | succ m ih =>
    by_cases e : k = m + 1
    · subst e; exact Nat.le_refl _
    · have := ih (by omega)
      show _ ≤ tot N m + N m
      omega
theorem vals_catL (N : Nat → Nat) (G : Nat → Nat → Int) (k : Nat) : vals .i64 (tot N k) (el (catL N G k)) ++ vals .i64 (N k) (G k) = vals .i64 (tot N (k + 1)) (el (catL N G (k + 1))) := by
  rw [vals_cat]
  show _ = vals .i64 (tot N k + N k) _
  refine vals_congr fun i hi => ?_
  unfold cat
  by_cases h : i < tot N k
  · rw [if_pos h, catL, el_left (by rw [catL_len]; exact h)]
  · rw [if_neg h, catL, el_right (by rw [catL_len]; omega), catL_len, el_lst (by omega)]

set_option maxHeartbeats 1000000 in
theorem grow_nil (n : Nat) (w : World) (hn : n ≤ 100000000) :
    Calls Try.prog 82 #[.slice none 0 0, .int .i64 n] w fun e w' => ∃ v, e = .returned v ∧ w'.ownsRow w.heap.size 3 1 v 0 [] ∧ Below w.heap.size w w' := by
  obtain ⟨i0, hi, hz0, hz1, hz2⟩ := info_parts Try.infoInt
  by_cases h0 : n = 0
  · subst h0
    go_enter Try.func82, Try.ntmps82
    go_wp2
    go_ret
    exact ⟨_, rfl, World.ownsRow_nil _ _ _ _, Below.refl _ _⟩
  · have hr := fun ty => Lib.run_append_nil_zeros w 35 3 ty 3 i0 (.int .i64 0) .i64 .i64 Try.underlying35 Try.underlying3 hi hz0 n (by omega) (by rw [hz1]; decide) (by omega) (by rw [hz2]; omega)
    have hG := grownCap_ge w n 0 3
    have hM := grownCap_le_maxLen w n 0 3 (by unfold maxLen; omega)
    obtain ⟨G, eG⟩ : ∃ G, G = grownCap w n 0 3 := ⟨_, rfl⟩
    rw [← eG] at hr hG hM
    have hM2 : G ≤ 9223372036854775807 := by unfold maxLen at hM; exact hM
    have hpos : ¬ ((n : Int) ≤ 0) := by omega
    clear eG
    go_enter Try.func82, Try.ntmps82
    go_wp2_with (at_builtin; refine Lib.wpList_append_run _ rfl _ _ _ _ rfl _ _ rfl rfl _ _ (hr _) ?_)
    go_ret
    refine ⟨_, rfl, ⟨rfl, .inr ⟨w.heap.size, G, _, rfl, Nat.le_refl _, heap_alloc_new _ _, Nat.zero_le _, hM, ?_, rfl⟩⟩, ?_⟩
    · rw [Array.size_append, size_zeroCells, size_zeroCells]
      show n * 1 + (G - n) * 1 = G * 1
      omega
    · exact ((Below.refl _ _).alloc (Nat.le_refl _) _).drew
set_option maxHeartbeats 1000000 in
theorem concat_any (q m c : Nat) (A : Nat → Addr) (N C B : Nat → Nat) (G : Nat → Nat → Int) (w : World) (hm : m ≤ 100) (ht : tot N m ≤ 100000000)
    (hc : ∀ j, j < m → w.cell? ⟨q, j, none⟩ = some (.slice (some (A j)) (N j) (C j))) (hr : ∀ j, j < m → Rd .i64 w (B j) (some (A j)) (N j) (G j)) :
    Calls Try.prog 74 #[.slice (some ⟨q, 0, none⟩) m c] w fun e w' => ∃ v, e = .returned v ∧ w'.ownsRow w.heap.size 3 1 v (tot N m) (vals .i64 (tot N m) (el (catL N G m))) ∧ Below w.heap.size w w' := by
  obtain ⟨i0, hi, hz0, hz1, hz2⟩ := info_parts Try.infoInt
  go_enter Try.func74, Try.ntmps74
  go_wp2
  go_loop [3, 11] (fun s i => ∃ k : Nat, k ≤ m ∧ s = .int .i64 (tot N k : Nat) ∧ i = .int .i64 k) (fun _ i => m - (intOf i).toNat)
  case atStart => exact ⟨0, Nat.zero_le _, rfl, rfl⟩
  case round =>
    obtain ⟨k, hk, rfl, rfl⟩ := hrel
    by_cases hlt : k < m
    · have e1 := hc k hlt
      have HT : Hid (tot N (k + 1) ≤ 100000000) := Nat.le_trans (tot_mono N (by omega)) ht
      obtain ⟨x, hx⟩ : ∃ x, tot N k = x := ⟨_, rfl⟩
      obtain ⟨y, hy⟩ : ∃ y, N k = y := ⟨_, rfl⟩
      have HE : Hid (tot N (k + 1) = x + y) := show tot N k + N k = x + y by rw [hx, hy]
      have hxy : x + y ≤ 100000000 := by rw [← HE.out]; exact HT.out
      rw [hy] at e1
      rw [hx]
      clear hx hy HT hr hc ht
      go_wp2
      go_round
      case rel => exact ⟨k + 1, by omega, by rw [HE.out]; go_num, by go_num⟩
      case measure => simp [intOf]; omega
    · obtain rfl : k = m := by omega
      obtain ⟨x, hx⟩ : ∃ x, tot N k = x := ⟨_, rfl⟩
      rw [hx] at ht ⊢
      go_wp2_with fail
      refine (grow_nil x w (by omega)).mono ?_
      rintro e w1 ⟨v1, rfl, hown1, hb1⟩
      subst hx
      go_wp2
      go_loopw [6, 27] (fun v i wr => ∃ j : Nat, j ≤ k ∧ i = .int .i64 j ∧ wr.ownsRow w.heap.size 3 1 v (tot N j) (vals .i64 (tot N j) (el (catL N G j))) ∧ Below w.heap.size w wr) (fun _ i _ => k - (intOf i).toNat)
      case atStart => exact ⟨0, Nat.zero_le _, rfl, hown1, hb1⟩
      case round =>
        obtain ⟨j, hj, rfl, hown, hb⟩ := hrel
        by_cases hlt : j < k
        · have e1 : wr.cell? ⟨q, j, none⟩ = some (.slice (some (A j)) (N j) (C j)) := (hb.cell (p := ⟨q, j, none⟩) (World.block_lt_of_cell? w _ (hc j hlt))).trans (hc j hlt)
          have hnews := ((hr j hlt).grew hb).news'
          have HT : Hid (tot N (j + 1) ≤ 100000000) := Nat.le_trans (tot_mono N (by omega)) ht
          obtain ⟨x, hx⟩ : ∃ x, tot N j = x := ⟨_, rfl⟩
          obtain ⟨y, hy⟩ : ∃ y, N j = y := ⟨_, rfl⟩
          have HE : Hid (tot N (j + 1) = x + y) := show tot N j + N j = x + y by rw [hx, hy]
          have hxy : x + y ≤ 100000000 := by rw [← HE.out]; exact HT.out
          have HV : Hid (vals .i64 x (el (catL N G j)) ++ vals .i64 y (G j) = vals .i64 (x + y) (el (catL N G (j + 1)))) := show _ = _ by rw [← HE.out, ← hx, ← hy]; exact vals_catL N G j
          have HR : Hid (∀ (v' : Value) (w' : World), w'.ownsRow w.heap.size 3 1 v' (x + y) (vals .i64 (x + y) (el (catL N G (j + 1)))) → w'.ownsRow w.heap.size 3 1 v' (tot N (j + 1)) (vals .i64 (tot N (j + 1)) (el (catL N G (j + 1))))) := fun v' w' h => by rw [HE.out]; exact h
          rw [hy] at e1 hnews
          rw [hx] at hown
          clear hx hy HT hown1 hb1 HE
          go_wp2_with (at_builtin; refine wpList_append_own _ rfl (.tmp 31) (.tmp 32) 35 rfl w.heap.size 3 i0 (.int .i64 0) 1 8 Try.underlying35 hi hz0 hz1 hz2 rfl (by decide) _ _ _ rfl hown (A j) y (C j) (vals .i64 y (G j)) rfl (by rw [vals_len, Nat.mul_one]) hnews (vals_one _ _ _) (by unfold maxLen; omega) (by omega) hb.size ?_)
          intro v4 w4 hown4 hgr4 _
          have hb4 : Below w.heap.size w w4 := hb.grown hgr4 hb.size (fun k hk => (hown.lt k hk).1)
          have hown5 := HR.out _ _ (by rw [← HV.out]; exact hown4)
          clear hown4 hgr4 hown hb e1 HV HR hnews
          go_wp2
          go_roundw
          case rel => first | exact ⟨j + 1, by omega, by go_num, hown5, hb4⟩ | ((repeat apply Exists.intro); exact ⟨⟨j + 1, by omega, by go_num, hown5, hb4⟩, rfl⟩)
          case measure => simp [intOf]; omega
        · obtain rfl : j = k := by omega
          clear hown1 hb1 hr hc
          go_wp2
          go_ret
          exact ⟨_, rfl, hown, hb⟩
end Go.Proofs.Ytdncgoippljlfaa
