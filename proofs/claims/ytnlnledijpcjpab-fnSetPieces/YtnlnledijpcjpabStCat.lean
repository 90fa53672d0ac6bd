/-
  Chapter 5: the library's Grow and Concat at pieces, Clone at sides. Own work.
-/
import Derived.Test.YtnlnledijpcjpabStSetT
import Derived.Lib.AppendZeros
import Derived.Laws.Cover3
namespace Go.Proofs.Ytnlnledijpcjpab
open Go.ChangeShapes Go.WideShapes Go.ChangeAt Go.RowKit
set_option maxRecDepth 100000
set_option linter.unusedVariables false
def totE (N : Nat → Nat) : Nat → Nat
  | 0 => 0
  | k + 1 => totE N k + N k
def catE (N : Nat → Nat) (G : Nat → Nat → Pc) : Nat → List Value
  | 0 => []
  | k + 1 => catE N G k ++ valsE pcC (N k) (G k)
theorem totE_mono (N : Nat → Nat) {k m : Nat} (h : k ≤ m) : totE N k ≤ totE N m := by
  induction m with
  | zero => obtain rfl : k = 0 := by omega
            exact Nat.le_refl _
  | succ m ih =>
    by_cases e : k = m + 1
    · subst e; exact Nat.le_refl _
    · have := ih (by omega)
      show _ ≤ totE N m + N m
      omega
set_option maxHeartbeats 1000000 in
theorem growPc_nil (n : Nat) (w : World) (hn : n ≤ 100000000) :
    Calls Try.prog 138 #[.slice none 0 0, .int .i64 n] w fun e w' => ∃ v, e = .returned v ∧ w'.ownsRow w.heap.size 31 13 v 0 [] ∧ Below w.heap.size w w' := by
  obtain ⟨i0, hi, hz0, hz1, hz2⟩ := info_parts Try.infoPc
  by_cases h0 : n = 0
  · subst h0
    go_enter Try.func138, Try.ntmps138
    go_wp2
    go_ret
    exact ⟨_, rfl, World.ownsRow_nil _ _ _ _, Below.refl _ _⟩
  · have hr := fun ty => Lib.run_append_nil_zeros w 53 3 ty 31 i0 _ .i64 .i64 Try.underlying53 Try.underlying3 hi hz0 n (by omega) (by rw [hz1]; decide) (by omega) (by rw [hz2]; omega)
    have hG := grownCap_ge w n 0 31
    have hM := grownCap_le_maxLen w n 0 31 (by unfold maxLen; omega)
    obtain ⟨G, eG⟩ : ∃ G, G = grownCap w n 0 31 := ⟨_, rfl⟩
    rw [← eG] at hr hG hM
    have hM2 : G ≤ 9223372036854775807 := by unfold maxLen at hM; exact hM
    have hpos : ¬ ((n : Int) ≤ 0) := by omega
    clear eG
    go_enter Try.func138, Try.ntmps138
    go_wp2_with (at_builtin; refine Lib.wpList_append_run _ rfl _ _ _ _ rfl _ _ rfl rfl _ _ (hr _) ?_)
    go_ret
    refine ⟨_, rfl, ⟨rfl, .inr ⟨w.heap.size, G, _, rfl, Nat.le_refl _, heap_alloc_new _ _, Nat.zero_le _, hM, ?_, rfl⟩⟩, ?_⟩
    · rw [Array.size_append, size_zeroCells, size_zeroCells]
      show n * 13 + (G - n) * 13 = G * 13
      omega
    · exact ((Below.refl _ _).alloc (Nat.le_refl _) _).drew
set_option maxHeartbeats 1000000 in
theorem concatPc_any (q m c : Nat) (A : Nat → Addr) (N C B : Nat → Nat) (G : Nat → Nat → Pc) (w : World) (hm : m ≤ 100) (ht : totE N m ≤ 100000000)
    (hc : ∀ j, j < m → w.cell? ⟨q, j, none⟩ = some (.slice (some (A j)) (N j) (C j))) (hr : ∀ j, j < m → RdE pcC 13 w (B j) (some (A j)) (N j) (G j)) :
    Calls Try.prog 115 #[.slice (some ⟨q, 0, none⟩) m c] w fun e w' => ∃ v, e = .returned v ∧ w'.ownsRow w.heap.size 31 13 v (totE N m) (catE N G m) ∧ Below w.heap.size w w' := by
  obtain ⟨i0, hi, hz0, hz1, hz2⟩ := info_parts Try.infoPc
  go_enter Try.func115, Try.ntmps115
  go_wp2
  go_loop [3, 11] (fun s i => ∃ k : Nat, k ≤ m ∧ s = .int .i64 (totE N k : Nat) ∧ i = .int .i64 k) (fun _ i => m - (intOf i).toNat)
  case atStart => exact ⟨0, Nat.zero_le _, rfl, rfl⟩
  case round =>
    obtain ⟨k, hk, rfl, rfl⟩ := hrel
    by_cases hlt : k < m
    · have e1 := hc k hlt
      have HT : Hid (totE N (k + 1) ≤ 100000000) := Nat.le_trans (totE_mono N (by omega)) ht
      obtain ⟨x, hx⟩ : ∃ x, totE N k = x := ⟨_, rfl⟩
      obtain ⟨y, hy⟩ : ∃ y, N k = y := ⟨_, rfl⟩
      have HE : Hid (totE N (k + 1) = x + y) := show totE N k + N k = x + y by rw [hx, hy]
      have hxy : x + y ≤ 100000000 := by rw [← HE.out]; exact HT.out
      rw [hy] at e1
      rw [hx]
      clear hx hy HT hr hc ht
      go_wp2
      go_round
      case rel => exact ⟨k + 1, by omega, by rw [HE.out]; go_num, by go_num⟩
      case measure => simp [intOf]; omega
    · obtain rfl : k = m := by omega
      obtain ⟨x, hx⟩ : ∃ x, totE N k = x := ⟨_, rfl⟩
      rw [hx] at ht ⊢
      go_wp2_with fail
      refine (growPc_nil x w (by omega)).mono ?_
      rintro e w1 ⟨v1, rfl, hown1, hb1⟩
      subst hx
      go_wp2
      go_loopw [6, 27] (fun v i wr => ∃ j : Nat, j ≤ k ∧ i = .int .i64 j ∧ wr.ownsRow w.heap.size 31 13 v (totE N j) (catE N G j) ∧ Below w.heap.size w wr) (fun _ i _ => k - (intOf i).toNat)
      case atStart => exact ⟨0, Nat.zero_le _, rfl, hown1, hb1⟩
      case round =>
        obtain ⟨j, hj, rfl, hown, hb⟩ := hrel
        by_cases hlt : j < k
        · have e1 : wr.cell? ⟨q, j, none⟩ = some (.slice (some (A j)) (N j) (C j)) := (hb.cell (p := ⟨q, j, none⟩) (World.block_lt_of_cell? w _ (hc j hlt))).trans (hc j hlt)
          have hnews := ((hr j hlt).grew pcC_ne hb).newsE pcC_len
          have HT : Hid (totE N (j + 1) ≤ 100000000) := Nat.le_trans (totE_mono N (by omega)) ht
          obtain ⟨x, hx⟩ : ∃ x, totE N j = x := ⟨_, rfl⟩
          obtain ⟨y, hy⟩ : ∃ y, N j = y := ⟨_, rfl⟩
          have HE : Hid (totE N (j + 1) = x + y) := show totE N j + N j = x + y by rw [hx, hy]
          have hxy : x + y ≤ 100000000 := by rw [← HE.out]; exact HT.out
          have HR : Hid (∀ (v' : Value) (w' : World), w'.ownsRow w.heap.size 31 13 v' (x + y) (catE N G j ++ valsE pcC y (G j)) → w'.ownsRow w.heap.size 31 13 v' (totE N (j + 1)) (catE N G (j + 1))) := fun v' w' h => by rw [HE.out]; show w'.ownsRow w.heap.size 31 13 v' (x + y) (catE N G j ++ valsE pcC (N j) (G j)); rw [hy]; exact h
          rw [hy] at e1 hnews
          rw [hx] at hown
          clear hx hy HT hown1 hb1 HE
          go_wp2_with (at_builtin; refine wpList_append_own _ rfl (.tmp 31) (.tmp 32) 53 rfl w.heap.size 31 i0 _ 13 96 Try.underlying53 hi hz0 hz1 hz2 rfl (by decide) _ _ _ rfl hown (A j) y (C j) (valsE pcC y (G j)) rfl (by rw [valsE_len pcC_len]) hnews (pcC_one _ _) (by unfold maxLen; omega) (by omega) hb.size ?_)
          intro v4 w4 hown4 hgr4 _
          have hb4 : Below w.heap.size w w4 := hb.grown hgr4 hb.size (fun k hk => (hown.lt k hk).1)
          have hown5 := HR.out _ _ hown4
          clear hown4 hgr4 hown hb e1 HR hnews
          go_wp2
          go_roundw
          case rel => first | exact ⟨j + 1, by omega, by go_num, hown5, hb4⟩ | ((repeat apply Exists.intro); exact ⟨⟨j + 1, by omega, by go_num, hown5, hb4⟩, rfl⟩)
          case measure => simp [intOf]; omega
        · obtain rfl : j = k := by omega
          clear hown1 hb1 hr hc
          go_wp2
          go_ret
          exact ⟨_, rfl, hown, hb⟩
set_option maxHeartbeats 1000000 in
theorem cloneSd_any (ad : Addr) (b n c : Nat) (f : Nat → Sd) (w : World) (hn : n ≤ 1048577) (h : RdE sdC 3 w b (some ad) n f) :
    Calls Try.prog 116 #[.slice (some ad) n c] w fun e w' => ∃ q cap, e = .returned (.slice (some ⟨q, 0, none⟩) n cap) ∧ n ≤ cap ∧ cap ≤ maxLen ∧ Below w.heap.size w w' ∧ OwnE sdC 3 w' w.heap.size q (some ⟨q, 0, none⟩) n f := by
  obtain ⟨i0, hi, hz0, hz1, hz2⟩ := info_parts Try.infoSd
  have hown0 : (w.alloc (.cells #[] 68)).ownsRow w.heap.size 68 3 (.slice (some ⟨w.heap.size, 0, none⟩) 0 0) 0 [] := World.ownsRow_lit w #[] 0 (Nat.le_refl _) (by decide) rfl
  have hbA := below_new2'' w (.cells #[] 68)
  have hnews := (h.grew sdC_ne hbA).newsE sdC_len
  have hne : (binOp .eql 54 (.slice (some ad) n c) (.slice none 0 0)).run Try.prog w = .ok (.bool false) w := by
    simp only [binOp]
    simp [run_equal_slice_nil (P := Try.prog) w 54 68 (some ad) n c Try.underlying54]
  go_enter Try.func116, Try.ntmps116
  go_wp2_with (at_builtin; generalize hA : w.alloc (.cells #[] 68) = WA at hown0 hbA hnews ⊢; refine wpList_append_own _ rfl (.tmp 5) (.tmp 6) 54 rfl w.heap.size 68 i0 _ 3 24 Try.underlying54 hi hz0 hz1 hz2 rfl (by decide) _ _ _ rfl hown0 ad n c (valsE sdC n f) rfl (by rw [valsE_len sdC_len]) hnews (sdC_one _ _) (by unfold maxLen; omega) (by omega) hbA.size ?_)
  intro v4 w4 hown4 hgr4 hnil4
  have hb4 : Below w.heap.size w w4 := hbA.grown hgr4 hbA.size (fun k hk => (hown0.lt k hk).1)
  have hv4 : v4 ≠ .slice none 0 0 := fun e => by first | exact hnil4 e | (have h9 := (hnil4.1 e).1; simp at h9)
  (try simp only [Nat.zero_add, List.nil_append] at hown4)
  obtain ⟨q4, cap4, rfl, hc4, o4⟩ := own_ofE sdC_len hown4 hv4
  obtain ⟨cur4, hcur4, hm4⟩ := row_type hown4
  clear hown4 hgr4 hnil4 hown0 hnews
  go_wp2
  go_ret
  exact ⟨q4, cap4, rfl, hc4, hm4, hb4, o4⟩
end Go.Proofs.Ytnlnledijpcjpab
