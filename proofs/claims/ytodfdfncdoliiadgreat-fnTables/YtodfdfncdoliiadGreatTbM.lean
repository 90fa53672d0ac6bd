/-
  Chapter 11, the program: slices.BinarySearchFunc at marks by their Ids. Written by tools/tai.gen.py. Own work.
-/
import Derived.Test.YtodfdfncdoliiadGreatGEfC3
import Derived.Test.YtodfdfncdoliiadGreatGTaB7
import Derived.Deep.DeepCutAuto
import Derived.Deep.CutBlock
import Derived.Deep.RegionHeld
import Derived.Deep.RegionHeldLaw
import Derived.Deep.MidRow
import Derived.Laws.OwnMore
namespace Go.Proofs.YtodfdfncdoliiadGreat
open Go.ChangeShapes Go.WideShapes Go.ChangeAt Go.RowKit
set_option maxRecDepth 100000
set_option linter.unusedVariables false
set_option linter.unusedSimpArgs false

theorem World.cellM {w w' : World} {a : Addr} {v : Value} (h : w.cell? a = some v) (hb : Below w.heap.size w w') : w'.cell? a = some v := (World.cell?_of_block (w := w) (a := a) (hb.block a.block (World.block_lt_of_cell? w _ h))).trans h
theorem BoxR.rangeM {w : World} {g t : Nat} {cs : Array Value} (h : BoxR w g t cs) : w.rangeAt g 0 cs.toList := fun j v hv => by
  have hc := cell_of_row w g (0 + j) cs t (0, 0) h
  rw [hc]
  simpa using hv
/-- what the search answers: a place, and whether it is there -/
def Srch (e : Ending) (K : Nat) : Prop := ∃ fd : Bool, e = .returned (.tuple #[.int .i64 (K : Int), .bool fd])
def cmpI (a b : Int) : Int := if a < b then -1 else if b < a then 1 else 0
theorem isNaN_any (a : Int) (w : World) : Calls Tryz.prog 158 #[.int .i64 a] w fun e w' => e = .returned (.bool false) ∧ w' = w := by
  go_enter Tryz.func158, Tryz.ntmps158
  go_wp2
  go_ret
  exact ⟨ret_bool' (by simp), rfl⟩
theorem compare_any (a b : Int) (w : World) : Calls Tryz.prog 133 #[.int .i64 a, .int .i64 b] w fun e w' => e = .returned (.int .i64 (cmpI a b)) ∧ w' = w := by
  go_enter Tryz.func133, Tryz.ntmps133
  go_wp2_with fail
  refine (isNaN_any a _).mono ?_
  rintro e w1 ⟨rfl, rfl⟩
  go_wp2_with fail
  refine (isNaN_any b _).mono ?_
  rintro e w2 ⟨rfl, rfl⟩
  by_cases h1 : a < b
  · have h3 : cmpI a b = -1 := by unfold cmpI; rw [if_pos h1]
    go_wp2
    all_goals first | omega | (go_ret; rw [h3]; first | exact ⟨rfl, rfl⟩ | exact ⟨trivial, rfl⟩)
  · by_cases h2 : b < a
    · have h3 : cmpI a b = 1 := by unfold cmpI; rw [if_neg h1, if_pos h2]
      go_wp2
      all_goals first | omega | (go_ret; rw [h3]; first | exact ⟨rfl, rfl⟩ | exact ⟨trivial, rfl⟩)
    · have h3 : cmpI a b = 0 := by unfold cmpI; rw [if_neg h1, if_neg h2]
      go_wp2
      all_goals first | omega | (go_ret; rw [h3]; first | exact ⟨rfl, rfl⟩ | exact ⟨trivial, rfl⟩)
theorem byId_any (p q : Int × Int) (w : World) : Calls Tryz.prog 91 #[.agg #[.int .i64 p.1, .int .i64 p.2], .agg #[.int .i64 q.1, .int .i64 q.2]] w fun e w' => e = .returned (.int .i64 (cmpI p.1 q.1)) ∧ Below w.heap.size w w' := by
  have z1 : BoxR ((w.alloc (.cells #[.int .i64 p.1, .int .i64 p.2] 117)).alloc (.cells #[.int .i64 q.1, .int .i64 q.2] 117)) w.heap.size 117 #[.int .i64 p.1, .int .i64 p.2] := (boxR_new w 117 #[.int .i64 p.1, .int .i64 p.2]).alloc _
  have z2 : BoxR ((w.alloc (.cells #[.int .i64 p.1, .int .i64 p.2] 117)).alloc (.cells #[.int .i64 q.1, .int .i64 q.2] 117)) (w.heap.size + 1) 117 #[.int .i64 q.1, .int .i64 q.2] := heap_alloc2_new _ _ _
  have c1 : ((w.alloc (.cells #[.int .i64 p.1, .int .i64 p.2] 117)).alloc (.cells #[.int .i64 q.1, .int .i64 q.2] 117)).cell? ⟨w.heap.size, 0, none⟩ = some (.int .i64 p.1) := (z1.cell 0).trans rfl
  have c2 : ((w.alloc (.cells #[.int .i64 p.1, .int .i64 p.2] 117)).alloc (.cells #[.int .i64 q.1, .int .i64 q.2] 117)).cell? ⟨w.heap.size + 1, 0, none⟩ = some (.int .i64 q.1) := (z2.cell 0).trans rfl
  have hb := ((Below.refl _ w).alloc (Nat.le_refl _) (.cells #[.int .i64 p.1, .int .i64 p.2] 117)).alloc (by simp) (.cells #[.int .i64 q.1, .int .i64 q.2] 117)
  go_enter Tryz.func91, Tryz.ntmps91
  go_upto_region 1 with fail
  generalize (w.alloc (.cells #[.int .i64 p.1, .int .i64 p.2] 117)).alloc (.cells #[.int .i64 q.1, .int .i64 q.2] 117) = W at c1 c2 hb ⊢
  clear z1 z2
  go_wp2_with fail
  refine (compare_any p.1 q.1 _).mono ?_
  rintro e w1 ⟨rfl, rfl⟩
  clear c1 c2
  go_wp2
  go_ret
  first | exact ⟨rfl, hb⟩ | exact ⟨trivial, hb⟩
set_option maxHeartbeats 4000000 in
theorem search_any (ob : Nat) (p : Option Addr) (n cap : Nat) (g : Nat → Int × Int) (t : Int × Int) (w : World) (ho : RdE mkC 2 w ob p n g) (hn : n ≤ 5) (hasc : ∀ j, j < n → ∀ i, i < j → (g i).1 < (g j).1) :
    Calls Tryz.prog 90 #[.slice p n cap, .agg #[.int .i64 t.1, .int .i64 t.2], .func (.func 91) #[] #[]] w fun e w' => ∃ K : Nat, Srch e K ∧ (K ≤ n ∧ (∀ j, j < K → (g j).1 < t.1) ∧ (∀ j, K ≤ j → j < n → ¬ (g j).1 < t.1)) ∧ Below w.heap.size w w' := by
  have m_ : Tryz.prog.follows Departure.mixedOrders = true := by kernel_rfl
  have z := boxR_new w 117 #[.int .i64 t.1, .int .i64 t.2]
  have hb := ((Below.refl _ w).alloc (Nat.le_refl _) (.cells #[.int .i64 t.1, .int .i64 t.2] 117))
  have h0 := ho.grew mkC_ne hb
  go_enter Tryz.func90, Tryz.ntmps90
  go_upto_region 1 with fail
  generalize w.alloc (.cells #[.int .i64 t.1, .int .i64 t.2] 117) = W at z hb h0 ⊢
  clear ho
  go_wp2
  go_loopw [9, 10] (fun i j wr => ∃ a b : Nat, i = .int .i64 (a : Int) ∧ j = .int .i64 (b : Int) ∧ a ≤ b ∧ b ≤ n ∧ Below W.heap.size W wr ∧ (∀ k, k < a → (g k).1 < t.1) ∧ (∀ k, b ≤ k → k < n → ¬ (g k).1 < t.1)) (fun i j _ => (intOf j).toNat - (intOf i).toNat)
  case atStart => exact ⟨0, n, rfl, rfl, Nat.zero_le _, Nat.le_refl _, Below.refl _ _, fun k hk => by omega, fun k h1 h2 => by omega⟩
  case round =>
    obtain ⟨a, b, rfl, rfl, hab, hbn, hB, hl, hr⟩ := hrel
    have zr := z.grew hB
    have hr0 := h0.grew mkC_ne hB
    by_cases hlt : a < b
    · have y1 : (a : Int) < (b : Int) := by omega
      rcases hr0 with q0 | ⟨o1, rfl, q0⟩
      · omega
      obtain ⟨m, hm, hm1, hm2⟩ : ∃ m : Nat, ((a : Int) + (b : Int)) / 2 = (m : Int) ∧ a ≤ m ∧ m < b := ⟨(a + b) / 2, by omega, by omega, by omega⟩
      go_upto_region 5 with fail
      try simp only [hm]
      clear hm
      have ra : wr.rangeAt ob (o1 + m * 2) [.int .i64 (g m).1, .int .i64 (g m).2] := fun j v hv => q0 m (by omega) j v hv
      have rz : wr.rangeAt w.heap.size 0 [.int .i64 t.1, .int .i64 t.2] := BoxR.rangeM zr
      have y2 : (0 : Int) ≤ (m : Int) := by omega
      have y3 : (m : Int) < (n : Int) := by omega
      have hA : (g m).1 < t.1 → ∀ k, k < m + 1 → (g k).1 < t.1 := fun h k hk => by
        by_cases e : k = m
        · rw [e]; exact h
        · have := hasc m (by omega) k (by omega); omega
      have hB2 : ¬ (g m).1 < t.1 → ∀ k, m ≤ k → k < n → ¬ (g k).1 < t.1 := fun h k hk hkn => by
        by_cases e : m = k
        · rw [← e]; exact h
        · have := hasc k hkn m (by omega); omega
      generalize hgm : g m = u at ra hA hB2
      clear q0 zr z h0 hgm
      by_cases hc : u.1 < t.1
      · have hv : cmpI u.1 t.1 = -1 := by unfold cmpI; rw [if_pos hc]
        have hv2 : cmpI u.1 t.1 < 0 := by rw [hv]; omega
        clear hv
        generalize hcv : cmpI u.1 t.1 = cv at hv2
        have hq : Below wr.heap.size wr wr.drew := (Below.refl _ wr).drew
        refine wp_region_held_drew (S := fun u : World => Below wr.heap.size wr u) (by kernel_rfl) hq (fun hHeld => ?_)
        refine wpAnyH_take (i := 0) (oi := ⟨some 24, _, _, _, _, _⟩) (v := .func (.func 91) #[] #[]) rfl (by kernel_rfl) (by kernel_rfl) (by kernel_rfl) (fun _ _ _ h => h) (Or.inl ⟨by kernel_rfl, fun u hSu => by clear hSu; go_simp⟩) hHeld ?_
        try simp only [Act.put, List.setIfInBounds_toArray, List.set_cons_zero, List.set_cons_succ]
        refine wpAnyH_take (i := 1) (oi := ⟨some 25, _, _, _, _, _⟩) (v := .slice (some ⟨ob, o1, none⟩) n cap) rfl (by kernel_rfl) (by kernel_rfl) (by kernel_rfl) (fun _ _ _ h => h) (Or.inl ⟨by kernel_rfl, fun u hSu => by clear hSu; go_simp⟩) hHeld ?_
        try simp only [Act.put, List.setIfInBounds_toArray, List.set_cons_zero, List.set_cons_succ]
        refine wpAnyH_take (i := 2) (oi := ⟨some 26, _, _, _, _, _⟩) (v := .int .i64 m) rfl (by kernel_rfl) (by kernel_rfl) (by kernel_rfl) (fun _ _ _ h => h) (Or.inl ⟨by kernel_rfl, fun u hSu => by clear hSu; go_simp⟩) hHeld ?_
        try simp only [Act.put, List.setIfInBounds_toArray, List.set_cons_zero, List.set_cons_succ]
        refine wpAnyH_take (i := 3) (oi := ⟨some 27, _, _, _, _, _⟩) (v := .pointer (some ⟨ob, o1 + m * 2, none⟩)) rfl (by kernel_rfl) (by kernel_rfl) (by kernel_rfl) (fun _ _ _ h => h) (Or.inl ⟨by kernel_rfl, fun u hSu => by clear hSu; go_simp⟩) hHeld ?_
        try simp only [Act.put, List.setIfInBounds_toArray, List.set_cons_zero, List.set_cons_succ]
        refine wpAnyH_take (i := 4) (oi := ⟨some 28, _, _, _, _, _⟩) (v := .agg #[.int .i64 u.1, .int .i64 u.2]) rfl (by kernel_rfl) (by kernel_rfl) (by kernel_rfl) (fun _ _ _ h => h) (yieldsIf_load_mid (by kernel_rfl) 117 (.tmp 27) rfl (ob) (o1 + m * 2) (by rfl) [.int .i64 u.1, .int .i64 u.2] _ (fun u hu => rangeAt_below ra hu) Tryz.underlying117 rfl (by kernel_rfl)) hHeld ?_
        try simp only [Act.put, List.setIfInBounds_toArray, List.set_cons_zero, List.set_cons_succ]
        refine wpAnyH_take (i := 5) (oi := ⟨some 29, _, _, _, _, _⟩) (v := .agg #[.int .i64 t.1, .int .i64 t.2]) rfl (by kernel_rfl) (by kernel_rfl) (by kernel_rfl) (fun _ _ _ h => h) (yieldsIf_load_mid (by kernel_rfl) 117 (.tmp 4) rfl (w.heap.size) (0) (by rfl) [.int .i64 t.1, .int .i64 t.2] _ (fun u hu => rangeAt_below rz hu) Tryz.underlying117 rfl (by kernel_rfl)) hHeld ?_
        try simp only [Act.put, List.setIfInBounds_toArray, List.set_cons_zero, List.set_cons_succ]
        refine wpAnyH_ready (rs := [6]) (by kernel_rfl) (by simp) ?_
        refine AllReadyH.cons rfl (fun K' hK => ?_) AllReadyH.nil
        go_simp
        go_at_call 91
        refine (byId_any u t _).mono ?_
        rintro e v6 ⟨rfl, hb⟩
        have hq' := below_app hq hb hq.size
        clear hq hb
        have hq := hq'
        clear hq'
        refine hK.out _ _ hq (fun hHeld => ?_)
        clear hK
        try simp only [Act.put, List.setIfInBounds_toArray, List.set_cons_zero, List.set_cons_succ]
        rw [hcv]
        refine wpAnyH_take (i := 7) (oi := ⟨some 31, _, _, _, _, _⟩) (v := .bool true) rfl (by kernel_rfl) (by kernel_rfl) (by kernel_rfl) (fun _ _ _ h => h) (Or.inl ⟨by kernel_rfl, fun u hSu => by clear hSu; go_simp; first | done | simpa using hv2 | (simp; omega) | omega⟩) hHeld ?_
        try simp only [Act.put, List.setIfInBounds_toArray, List.set_cons_zero, List.set_cons_succ]
        refine wpAnyH_done (by kernel_rfl) ?_ _
        clear hHeld
        have hB3 := below_app hB hq hB.size
        clear hq hB ra rz hcv hv2
        have hN := hA hc
        clear hA hB2
        go_wp2
        go_roundw
        case rel => first | exact ⟨m + 1, b, by go_num, rfl, by omega, hbn, hB3, hN, hr⟩ | ((repeat apply Exists.intro); exact ⟨⟨m + 1, b, by go_num, rfl, by omega, hbn, hB3, hN, hr⟩, rfl⟩)
        case measure => simp [intOf]; omega
      · have hv : cmpI u.1 t.1 = (if t.1 < u.1 then 1 else 0) := by unfold cmpI; rw [if_neg hc]
        have hv2 : ¬ cmpI u.1 t.1 < 0 := by rw [hv]; split <;> omega
        clear hv
        generalize hcv : cmpI u.1 t.1 = cv at hv2
        have hq : Below wr.heap.size wr wr.drew := (Below.refl _ wr).drew
        refine wp_region_held_drew (S := fun u : World => Below wr.heap.size wr u) (by kernel_rfl) hq (fun hHeld => ?_)
        refine wpAnyH_take (i := 0) (oi := ⟨some 24, _, _, _, _, _⟩) (v := .func (.func 91) #[] #[]) rfl (by kernel_rfl) (by kernel_rfl) (by kernel_rfl) (fun _ _ _ h => h) (Or.inl ⟨by kernel_rfl, fun u hSu => by clear hSu; go_simp⟩) hHeld ?_
        try simp only [Act.put, List.setIfInBounds_toArray, List.set_cons_zero, List.set_cons_succ]
        refine wpAnyH_take (i := 1) (oi := ⟨some 25, _, _, _, _, _⟩) (v := .slice (some ⟨ob, o1, none⟩) n cap) rfl (by kernel_rfl) (by kernel_rfl) (by kernel_rfl) (fun _ _ _ h => h) (Or.inl ⟨by kernel_rfl, fun u hSu => by clear hSu; go_simp⟩) hHeld ?_
        try simp only [Act.put, List.setIfInBounds_toArray, List.set_cons_zero, List.set_cons_succ]
        refine wpAnyH_take (i := 2) (oi := ⟨some 26, _, _, _, _, _⟩) (v := .int .i64 m) rfl (by kernel_rfl) (by kernel_rfl) (by kernel_rfl) (fun _ _ _ h => h) (Or.inl ⟨by kernel_rfl, fun u hSu => by clear hSu; go_simp⟩) hHeld ?_
        try simp only [Act.put, List.setIfInBounds_toArray, List.set_cons_zero, List.set_cons_succ]
        refine wpAnyH_take (i := 3) (oi := ⟨some 27, _, _, _, _, _⟩) (v := .pointer (some ⟨ob, o1 + m * 2, none⟩)) rfl (by kernel_rfl) (by kernel_rfl) (by kernel_rfl) (fun _ _ _ h => h) (Or.inl ⟨by kernel_rfl, fun u hSu => by clear hSu; go_simp⟩) hHeld ?_
        try simp only [Act.put, List.setIfInBounds_toArray, List.set_cons_zero, List.set_cons_succ]
        refine wpAnyH_take (i := 4) (oi := ⟨some 28, _, _, _, _, _⟩) (v := .agg #[.int .i64 u.1, .int .i64 u.2]) rfl (by kernel_rfl) (by kernel_rfl) (by kernel_rfl) (fun _ _ _ h => h) (yieldsIf_load_mid (by kernel_rfl) 117 (.tmp 27) rfl (ob) (o1 + m * 2) (by rfl) [.int .i64 u.1, .int .i64 u.2] _ (fun u hu => rangeAt_below ra hu) Tryz.underlying117 rfl (by kernel_rfl)) hHeld ?_
        try simp only [Act.put, List.setIfInBounds_toArray, List.set_cons_zero, List.set_cons_succ]
        refine wpAnyH_take (i := 5) (oi := ⟨some 29, _, _, _, _, _⟩) (v := .agg #[.int .i64 t.1, .int .i64 t.2]) rfl (by kernel_rfl) (by kernel_rfl) (by kernel_rfl) (fun _ _ _ h => h) (yieldsIf_load_mid (by kernel_rfl) 117 (.tmp 4) rfl (w.heap.size) (0) (by rfl) [.int .i64 t.1, .int .i64 t.2] _ (fun u hu => rangeAt_below rz hu) Tryz.underlying117 rfl (by kernel_rfl)) hHeld ?_
        try simp only [Act.put, List.setIfInBounds_toArray, List.set_cons_zero, List.set_cons_succ]
        refine wpAnyH_ready (rs := [6]) (by kernel_rfl) (by simp) ?_
        refine AllReadyH.cons rfl (fun K' hK => ?_) AllReadyH.nil
        go_simp
        go_at_call 91
        refine (byId_any u t _).mono ?_
        rintro e v6 ⟨rfl, hb⟩
        have hq' := below_app hq hb hq.size
        clear hq hb
        have hq := hq'
        clear hq'
        refine hK.out _ _ hq (fun hHeld => ?_)
        clear hK
        try simp only [Act.put, List.setIfInBounds_toArray, List.set_cons_zero, List.set_cons_succ]
        rw [hcv]
        refine wpAnyH_take (i := 7) (oi := ⟨some 31, _, _, _, _, _⟩) (v := .bool false) rfl (by kernel_rfl) (by kernel_rfl) (by kernel_rfl) (fun _ _ _ h => h) (Or.inl ⟨by kernel_rfl, fun u hSu => by clear hSu; go_simp; first | done | simpa using hv2 | (simp; omega) | omega⟩) hHeld ?_
        try simp only [Act.put, List.setIfInBounds_toArray, List.set_cons_zero, List.set_cons_succ]
        refine wpAnyH_done (by kernel_rfl) ?_ _
        clear hHeld
        have hB3 := below_app hB hq hB.size
        clear hq hB ra rz hcv hv2
        have hN := hB2 hc
        clear hA hB2
        go_wp2
        go_roundw
        case rel => first | exact ⟨a, m, rfl, rfl, hm1, by omega, hB3, hl, hN⟩ | ((repeat apply Exists.intro); exact ⟨⟨a, m, rfl, rfl, hm1, by omega, hB3, hl, hN⟩, rfl⟩)
        case measure => simp [intOf]; omega
    · obtain rfl : a = b := by omega
      have hfin : a ≤ n ∧ (∀ j, j < a → (g j).1 < t.1) ∧ (∀ j, a ≤ j → j < n → ¬ (g j).1 < t.1) := ⟨hbn, hl, hr⟩
      replace hfin : Hid (a ≤ n ∧ (∀ j, j < a → (g j).1 < t.1) ∧ (∀ j, a ≤ j → j < n → ¬ (g j).1 < t.1)) := hfin
      clear hl hr hasc
      go_upto_region 8 with fail
      by_cases hn2 : a < n
      · rcases hr0 with q0 | ⟨o1, rfl, q0⟩
        · omega
        have ra : wr.rangeAt ob (o1 + a * 2) [.int .i64 (g a).1, .int .i64 (g a).2] := fun j v hv => q0 a hn2 j v hv
        have rz : wr.rangeAt w.heap.size 0 [.int .i64 t.1, .int .i64 t.2] := BoxR.rangeM zr
        have y2 : (0 : Int) ≤ (a : Int) := by omega
        have y3 : (a : Int) < (n : Int) := by omega
        generalize hga : g a = u at ra
        clear q0 zr z h0 hga
        obtain ⟨cv, hcv⟩ : ∃ cv, cmpI u.1 t.1 = cv := ⟨_, rfl⟩
        have hq : Below wr.heap.size wr wr.drew := (Below.refl _ wr).drew
        refine wp_region_held_drew (S := fun u : World => Below wr.heap.size wr u) (by kernel_rfl) hq (fun hHeld => ?_)
        refine wpAnyH_take (i := 0) (oi := ⟨some 35, _, _, _, _, _⟩) (v := .int .i64 a) rfl (by kernel_rfl) (by kernel_rfl) (by kernel_rfl) (fun _ _ _ h => h) (Or.inl ⟨by kernel_rfl, fun u hSu => by clear hSu; go_simp⟩) hHeld ?_
        try simp only [Act.put, List.setIfInBounds_toArray, List.set_cons_zero, List.set_cons_succ]
        refine wpAnyH_take (i := 1) (oi := ⟨some 36, _, _, _, _, _⟩) (v := .int .i64 a) rfl (by kernel_rfl) (by kernel_rfl) (by kernel_rfl) (fun _ _ _ h => h) (Or.inl ⟨by kernel_rfl, fun u hSu => by clear hSu; go_simp⟩) hHeld ?_
        try simp only [Act.put, List.setIfInBounds_toArray, List.set_cons_zero, List.set_cons_succ]
        refine wpAnyH_take (i := 2) (oi := ⟨some 37, _, _, _, _, _⟩) (v := .int .i64 n) rfl (by kernel_rfl) (by kernel_rfl) (by kernel_rfl) (fun _ _ _ h => h) (Or.inl ⟨by kernel_rfl, fun u hSu => by clear hSu; go_simp⟩) hHeld ?_
        try simp only [Act.put, List.setIfInBounds_toArray, List.set_cons_zero, List.set_cons_succ]
        refine wpAnyH_take (i := 3) (oi := ⟨some 38, _, _, _, _, _⟩) (v := .bool true) rfl (by kernel_rfl) (by kernel_rfl) (by kernel_rfl) (fun _ _ _ h => h) (Or.inl ⟨by kernel_rfl, fun u hSu => by clear hSu; go_simp; first | done | omega⟩) hHeld ?_
        try simp only [Act.put, List.setIfInBounds_toArray, List.set_cons_zero, List.set_cons_succ]
        refine wpAnyH_take (i := 4) (oi := ⟨some 39, _, _, _, _, _⟩) (v := .bool true) rfl (by kernel_rfl) (by kernel_rfl) (by kernel_rfl) (fun _ _ _ h => h) (Or.inl ⟨by kernel_rfl, fun u hSu => by clear hSu; go_simp⟩) hHeld ?_
        try simp only [Act.put, List.setIfInBounds_toArray, List.set_cons_zero, List.set_cons_succ]
        refine wpAnyH_take (i := 5) (oi := ⟨some 40, _, _, _, _, _⟩) (v := .func (.func 91) #[] #[]) rfl (by kernel_rfl) (by kernel_rfl) (by kernel_rfl) (fun _ _ _ h => h) (Or.inl ⟨by kernel_rfl, fun u hSu => by clear hSu; go_simp⟩) hHeld ?_
        try simp only [Act.put, List.setIfInBounds_toArray, List.set_cons_zero, List.set_cons_succ]
        refine wpAnyH_take (i := 6) (oi := ⟨some 41, _, _, _, _, _⟩) (v := .slice (some ⟨ob, o1, none⟩) n cap) rfl (by kernel_rfl) (by kernel_rfl) (by kernel_rfl) (fun _ _ _ h => h) (Or.inl ⟨by kernel_rfl, fun u hSu => by clear hSu; go_simp⟩) hHeld ?_
        try simp only [Act.put, List.setIfInBounds_toArray, List.set_cons_zero, List.set_cons_succ]
        refine wpAnyH_take (i := 7) (oi := ⟨some 42, _, _, _, _, _⟩) (v := .int .i64 a) rfl (by kernel_rfl) (by kernel_rfl) (by kernel_rfl) (fun _ _ _ h => h) (Or.inl ⟨by kernel_rfl, fun u hSu => by clear hSu; go_simp⟩) hHeld ?_
        try simp only [Act.put, List.setIfInBounds_toArray, List.set_cons_zero, List.set_cons_succ]
        refine wpAnyH_take (i := 8) (oi := ⟨some 43, _, _, _, _, _⟩) (v := .pointer (some ⟨ob, o1 + a * 2, none⟩)) rfl (by kernel_rfl) (by kernel_rfl) (by kernel_rfl) (fun _ _ _ h => h) (Or.inl ⟨by kernel_rfl, fun u hSu => by clear hSu; go_simp⟩) hHeld ?_
        try simp only [Act.put, List.setIfInBounds_toArray, List.set_cons_zero, List.set_cons_succ]
        refine wpAnyH_take (i := 9) (oi := ⟨some 44, _, _, _, _, _⟩) (v := .agg #[.int .i64 u.1, .int .i64 u.2]) rfl (by kernel_rfl) (by kernel_rfl) (by kernel_rfl) (fun _ _ _ h => h) (yieldsIf_load_mid (by kernel_rfl) 117 (.tmp 43) rfl (ob) (o1 + a * 2) (by rfl) [.int .i64 u.1, .int .i64 u.2] _ (fun u hu => rangeAt_below ra hu) Tryz.underlying117 rfl (by kernel_rfl)) hHeld ?_
        try simp only [Act.put, List.setIfInBounds_toArray, List.set_cons_zero, List.set_cons_succ]
        refine wpAnyH_take (i := 10) (oi := ⟨some 45, _, _, _, _, _⟩) (v := .agg #[.int .i64 t.1, .int .i64 t.2]) rfl (by kernel_rfl) (by kernel_rfl) (by kernel_rfl) (fun _ _ _ h => h) (yieldsIf_load_mid (by kernel_rfl) 117 (.tmp 4) rfl (w.heap.size) (0) (by rfl) [.int .i64 t.1, .int .i64 t.2] _ (fun u hu => rangeAt_below rz hu) Tryz.underlying117 rfl (by kernel_rfl)) hHeld ?_
        try simp only [Act.put, List.setIfInBounds_toArray, List.set_cons_zero, List.set_cons_succ]
        refine wpAnyH_ready (rs := [11]) (by kernel_rfl) (by simp) ?_
        refine AllReadyH.cons rfl (fun K' hK => ?_) AllReadyH.nil
        go_simp
        go_at_call 91
        refine (byId_any u t _).mono ?_
        rintro e v11 ⟨rfl, hb⟩
        have hq' := below_app hq hb hq.size
        clear hq hb
        have hq := hq'
        clear hq'
        refine hK.out _ _ hq (fun hHeld => ?_)
        clear hK
        try simp only [Act.put, List.setIfInBounds_toArray, List.set_cons_zero, List.set_cons_succ]
        rw [hcv]
        refine wpAnyH_take (i := 12) (oi := ⟨some 47, _, _, _, _, _⟩) (v := .bool (cv == 0)) rfl (by kernel_rfl) (by kernel_rfl) (by kernel_rfl) (fun _ _ _ h => h) (Or.inl ⟨by kernel_rfl, fun u hSu => by clear hSu; go_simp⟩) hHeld ?_
        try simp only [Act.put, List.setIfInBounds_toArray, List.set_cons_zero, List.set_cons_succ]
        refine wpAnyH_take (i := 13) (oi := ⟨some 48, _, _, _, _, _⟩) (v := .bool (cv == 0)) rfl (by kernel_rfl) (by kernel_rfl) (by kernel_rfl) (fun _ _ _ h => h) (Or.inl ⟨by kernel_rfl, fun u hSu => by clear hSu; go_simp⟩) hHeld ?_
        try simp only [Act.put, List.setIfInBounds_toArray, List.set_cons_zero, List.set_cons_succ]
        refine wpAnyH_take (i := 14) (oi := ⟨some 6, _, _, _, _, _⟩) (v := .int .i64 a) rfl (by kernel_rfl) (by kernel_rfl) (by kernel_rfl) (fun _ _ _ h => h) (Or.inl ⟨by kernel_rfl, fun u hSu => by clear hSu; go_simp⟩) hHeld ?_
        try simp only [Act.put, List.setIfInBounds_toArray, List.set_cons_zero, List.set_cons_succ]
        refine wpAnyH_take (i := 15) (oi := ⟨some 7, _, _, _, _, _⟩) (v := .bool (cv == 0)) rfl (by kernel_rfl) (by kernel_rfl) (by kernel_rfl) (fun _ _ _ h => h) (Or.inl ⟨by kernel_rfl, fun u hSu => by clear hSu; go_simp⟩) hHeld ?_
        try simp only [Act.put, List.setIfInBounds_toArray, List.set_cons_zero, List.set_cons_succ]
        refine wpAnyH_done (by kernel_rfl) ?_ _
        clear hHeld
        have hB3 := below_app hb (below_app hB hq hB.size) hb.size
        clear hq hB ra rz hcv
        go_wp2
        go_ret2
        exact ⟨a, ⟨_, rfl⟩, hfin.out, hB3⟩
      · have y3 : ¬ (a : Int) < (n : Int) := by omega
        clear z h0 zr hr0
        have hq : Below wr.heap.size wr wr.drew := (Below.refl _ wr).drew
        refine wp_region_held_drew (S := fun u : World => Below wr.heap.size wr u) (by kernel_rfl) hq (fun hHeld => ?_)
        refine wpAnyH_take (i := 0) (oi := ⟨some 35, _, _, _, _, _⟩) (v := .int .i64 a) rfl (by kernel_rfl) (by kernel_rfl) (by kernel_rfl) (fun _ _ _ h => h) (Or.inl ⟨by kernel_rfl, fun u hSu => by clear hSu; go_simp⟩) hHeld ?_
        try simp only [Act.put, List.setIfInBounds_toArray, List.set_cons_zero, List.set_cons_succ]
        refine wpAnyH_take (i := 1) (oi := ⟨some 36, _, _, _, _, _⟩) (v := .int .i64 a) rfl (by kernel_rfl) (by kernel_rfl) (by kernel_rfl) (fun _ _ _ h => h) (Or.inl ⟨by kernel_rfl, fun u hSu => by clear hSu; go_simp⟩) hHeld ?_
        try simp only [Act.put, List.setIfInBounds_toArray, List.set_cons_zero, List.set_cons_succ]
        refine wpAnyH_take (i := 2) (oi := ⟨some 37, _, _, _, _, _⟩) (v := .int .i64 n) rfl (by kernel_rfl) (by kernel_rfl) (by kernel_rfl) (fun _ _ _ h => h) (Or.inl ⟨by kernel_rfl, fun u hSu => by clear hSu; go_simp⟩) hHeld ?_
        try simp only [Act.put, List.setIfInBounds_toArray, List.set_cons_zero, List.set_cons_succ]
        refine wpAnyH_take (i := 3) (oi := ⟨some 38, _, _, _, _, _⟩) (v := .bool false) rfl (by kernel_rfl) (by kernel_rfl) (by kernel_rfl) (fun _ _ _ h => h) (Or.inl ⟨by kernel_rfl, fun u hSu => by clear hSu; go_simp; first | done | omega⟩) hHeld ?_
        try simp only [Act.put, List.setIfInBounds_toArray, List.set_cons_zero, List.set_cons_succ]
        refine wpAnyH_take (i := 4) (oi := ⟨some 39, _, _, _, _, _⟩) (v := .bool false) rfl (by kernel_rfl) (by kernel_rfl) (by kernel_rfl) (fun _ _ _ h => h) (Or.inl ⟨by kernel_rfl, fun u hSu => by clear hSu; go_simp⟩) hHeld ?_
        try simp only [Act.put, List.setIfInBounds_toArray, List.set_cons_zero, List.set_cons_succ]
        refine wpAnyH_take (i := 5) (oi := ⟨some 40, _, _, _, _, _⟩) (v := undef) rfl (by kernel_rfl) (by kernel_rfl) (by kernel_rfl) (fun _ _ _ h => h) (Or.inr ⟨by kernel_rfl, rfl⟩) hHeld ?_
        try simp only [Act.put, List.setIfInBounds_toArray, List.set_cons_zero, List.set_cons_succ]
        refine wpAnyH_take (i := 6) (oi := ⟨some 41, _, _, _, _, _⟩) (v := undef) rfl (by kernel_rfl) (by kernel_rfl) (by kernel_rfl) (fun _ _ _ h => h) (Or.inr ⟨by kernel_rfl, rfl⟩) hHeld ?_
        try simp only [Act.put, List.setIfInBounds_toArray, List.set_cons_zero, List.set_cons_succ]
        refine wpAnyH_take (i := 7) (oi := ⟨some 42, _, _, _, _, _⟩) (v := undef) rfl (by kernel_rfl) (by kernel_rfl) (by kernel_rfl) (fun _ _ _ h => h) (Or.inr ⟨by kernel_rfl, rfl⟩) hHeld ?_
        try simp only [Act.put, List.setIfInBounds_toArray, List.set_cons_zero, List.set_cons_succ]
        refine wpAnyH_take (i := 8) (oi := ⟨some 43, _, _, _, _, _⟩) (v := undef) rfl (by kernel_rfl) (by kernel_rfl) (by kernel_rfl) (fun _ _ _ h => h) (Or.inr ⟨by kernel_rfl, rfl⟩) hHeld ?_
        try simp only [Act.put, List.setIfInBounds_toArray, List.set_cons_zero, List.set_cons_succ]
        refine wpAnyH_take (i := 9) (oi := ⟨some 44, _, _, _, _, _⟩) (v := undef) rfl (by kernel_rfl) (by kernel_rfl) (by kernel_rfl) (fun _ _ _ h => h) (Or.inr ⟨by kernel_rfl, rfl⟩) hHeld ?_
        try simp only [Act.put, List.setIfInBounds_toArray, List.set_cons_zero, List.set_cons_succ]
        refine wpAnyH_take (i := 10) (oi := ⟨some 45, _, _, _, _, _⟩) (v := undef) rfl (by kernel_rfl) (by kernel_rfl) (by kernel_rfl) (fun _ _ _ h => h) (Or.inr ⟨by kernel_rfl, rfl⟩) hHeld ?_
        try simp only [Act.put, List.setIfInBounds_toArray, List.set_cons_zero, List.set_cons_succ]
        refine wpAnyH_take (i := 11) (oi := ⟨some 46, _, _, _, _, _⟩) (v := undef) rfl (by kernel_rfl) (by kernel_rfl) (by kernel_rfl) (fun _ _ _ h => h) (Or.inr ⟨by kernel_rfl, rfl⟩) hHeld ?_
        try simp only [Act.put, List.setIfInBounds_toArray, List.set_cons_zero, List.set_cons_succ]
        refine wpAnyH_take (i := 12) (oi := ⟨some 47, _, _, _, _, _⟩) (v := undef) rfl (by kernel_rfl) (by kernel_rfl) (by kernel_rfl) (fun _ _ _ h => h) (Or.inr ⟨by kernel_rfl, rfl⟩) hHeld ?_
        try simp only [Act.put, List.setIfInBounds_toArray, List.set_cons_zero, List.set_cons_succ]
        refine wpAnyH_take (i := 13) (oi := ⟨some 48, _, _, _, _, _⟩) (v := .bool false) rfl (by kernel_rfl) (by kernel_rfl) (by kernel_rfl) (fun _ _ _ h => h) (Or.inl ⟨by kernel_rfl, fun u hSu => by clear hSu; go_simp⟩) hHeld ?_
        try simp only [Act.put, List.setIfInBounds_toArray, List.set_cons_zero, List.set_cons_succ]
        refine wpAnyH_take (i := 14) (oi := ⟨some 6, _, _, _, _, _⟩) (v := .int .i64 a) rfl (by kernel_rfl) (by kernel_rfl) (by kernel_rfl) (fun _ _ _ h => h) (Or.inl ⟨by kernel_rfl, fun u hSu => by clear hSu; go_simp⟩) hHeld ?_
        try simp only [Act.put, List.setIfInBounds_toArray, List.set_cons_zero, List.set_cons_succ]
        refine wpAnyH_take (i := 15) (oi := ⟨some 7, _, _, _, _, _⟩) (v := .bool false) rfl (by kernel_rfl) (by kernel_rfl) (by kernel_rfl) (fun _ _ _ h => h) (Or.inl ⟨by kernel_rfl, fun u hSu => by clear hSu; go_simp⟩) hHeld ?_
        try simp only [Act.put, List.setIfInBounds_toArray, List.set_cons_zero, List.set_cons_succ]
        refine wpAnyH_done (by kernel_rfl) ?_ _
        clear hHeld
        have hB3 := below_app hb (below_app hB hq hB.size) hb.size
        clear hq hB
        go_wp2
        go_ret2
        exact ⟨a, ⟨_, rfl⟩, hfin.out, hB3⟩
end Go.Proofs.YtodfdfncdoliiadGreat
