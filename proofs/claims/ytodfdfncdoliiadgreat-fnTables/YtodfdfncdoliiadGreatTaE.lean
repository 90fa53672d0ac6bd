/-
  Chapter 11: the specification's TableOk (okTb), EffectAt (eaN), SameTable (smTb). Written by tools/tab.gen.py. Own work.
-/
import Derived.Test.YtodfdfncdoliiadGreatGTaB7
import Derived.Test.YtodfdfncdoliiadGreatGPaB5
import Derived.Test.YtodfdfncdoliiadGreatGStAt3
import Derived.Deep.RegionHeld
import Derived.Deep.MidRow
namespace Go.Proofs.YtodfdfncdoliiadGreat
open Go.ChangeShapes Go.WideShapes Go.ChangeAt Go.RowKit
set_option maxRecDepth 100000
set_option linter.unusedVariables false
set_option linter.unusedSimpArgs false

/-- what the functions of this chapter need of a list -/
def Tb.okW (t : Tb) (w : World) : Prop := t.n ≤ t.cap ∧ t.cap ≤ maxLen ∧ RdE efC 22 w t.b t.p t.n t.f ∧ ∀ i, i < t.n → (t.f i).okW w ∧ (t.f i).ac.ln ≤ 1048577
theorem Tb.okW.grew {t : Tb} {w w' : World} (h : t.okW w) (hb : Below w.heap.size w w') : t.okW w' := ⟨h.1, h.2.1, h.2.2.1.grew efC_ne hb, fun i hi => ⟨efw_grew (h.2.2.2 i hi).1 hb, (h.2.2.2 i hi).2⟩⟩
theorem Tb.okW.le {t : Tb} {w : World} (h : t.okW w) : t.n ≤ 9223372036854775807 := by have h1 := h.1; have h2 := h.2.1; unfold maxLen at h2; omega
/-- right, and behind the one ahead -/
def goodAt (f : Nat → Ef) (i : Nat) : Bool := okEf (f i) && !(decide (0 < i) && decide ((f i).id ≤ (f (i - 1)).id))
def okTb (n : Nat) (f : Nat → Ef) : Bool := (List.range n).all (goodAt f) && decide (n ≤ 5)
theorem okTb_no {n k : Nat} {f : Nat → Ef} (hk : k < n) (h : goodAt f k = false) : okTb n f = false := by
  unfold okTb
  have : (List.range n).all (goodAt f) = false := by
    rw [List.all_eq_false]
    exact ⟨k, List.mem_range.2 hk, by simp [h]⟩
  rw [this]; rfl
theorem okTb_yes {n : Nat} {f : Nat → Ef} (h : ∀ j, j < n → goodAt f j = true) : okTb n f = decide (n ≤ 5) := by
  unfold okTb
  have : (List.range n).all (goodAt f) = true := List.all_eq_true.2 fun j hj => h j (List.mem_range.1 hj)
  rw [this]; rfl
/-- the place of the first one of this Id -/
def eaN (f : Nat → Ef) (id : Int) (n : Nat) : Int := match (List.range n).find? (fun i => decide ((f i).id = id)) with
  | some i => i
  | none => -1
theorem eaN_miss {f : Nat → Ef} {id : Int} {n : Nat} (h : ∀ j, j < n → (f j).id ≠ id) : eaN f id n = -1 := by
  unfold eaN
  have : (List.range n).find? (fun i => decide ((f i).id = id)) = none := List.find?_eq_none.2 fun j hj => by simpa using h j (List.mem_range.1 hj)
  rw [this]
theorem eaN_hit {f : Nat → Ef} {id : Int} {n k : Nat} (hk : k < n) (h : ∀ j, j < k → (f j).id ≠ id) (e : (f k).id = id) : eaN f id n = k := by
  unfold eaN
  have : (List.range n).find? (fun i => decide ((f i).id = id)) = some k := by
    rw [List.find?_range_eq_some]
    refine ⟨by simpa using e, by simpa using hk, fun j hj => by simpa using h j hj⟩
  rw [this]
def smTb (n m : Nat) (f g : Nat → Ef) : Bool := decide (n = m) && (List.range n).all (fun i => smEf (f i) (g i))
theorem smTb_no {n k : Nat} {f g : Nat → Ef} (hk : k < n) (h : smEf (f k) (g k) = false) : smTb n n f g = false := by
  unfold smTb
  have : (List.range n).all (fun i => smEf (f i) (g i)) = false := by
    rw [List.all_eq_false]
    exact ⟨k, List.mem_range.2 hk, by simp [h]⟩
  rw [this]; simp
theorem smTb_yes {n : Nat} {f g : Nat → Ef} (h : ∀ j, j < n → smEf (f j) (g j) = true) : smTb n n f g = true := by
  unfold smTb
  have : (List.range n).all (fun i => smEf (f i) (g i)) = true := List.all_eq_true.2 fun j hj => h j (List.mem_range.1 hj)
  rw [this]; simp
theorem smTb_ne {n m : Nat} {f g : Nat → Ef} (h : n ≠ m) : smTb n m f g = false := by unfold smTb; simp [h]
set_option maxHeartbeats 4000000 in
theorem specEffectAt_any (t : Tb) (id : Int) (w : World) (hok : t.okW w) : Calls Tryz.prog 87 #[.slice t.p t.n t.cap, .int .i64 id] w fun e w' => e = .returned (.int .i64 (eaN t.f id t.n)) ∧ Below w.heap.size w w' := by
  have hnm := hok.le
  obtain ⟨p, n, cap, b, f⟩ := t
  obtain ⟨hc1, hc2, h, hf⟩ := hok
  dsimp only at hc1 hc2 h hf hnm ⊢
  go_enter Tryz.func87, Tryz.ntmps87
  go_wp2
  go_loopw [5] (fun i wr => ∃ k : Nat, k ≤ n ∧ i = .int .i64 k ∧ wr = w ∧ ∀ j, j < k → (f j).id ≠ id) (fun i _ => n - (intOf i).toNat)
  case atStart => exact ⟨0, Nat.zero_le _, rfl, rfl, fun j hj => by omega⟩
  case round =>
    obtain ⟨k, hk, rfl, rfl, hg⟩ := hrel
    by_cases hlt : k < n
    · rcases h with h3 | ⟨o1, rfl, h3⟩
      · omega
      have c0 : wr.cell? ⟨b, o1 + k * 22, none⟩ = some (.int .i64 (f k).id) := h3 k hlt 0 _ rfl
      have y1 : (0 : Int) ≤ (k : Int) := by omega
      have y2 : (k : Int) < (n : Int) := by omega
      clear h3
      by_cases hid : (f k).id = id
      · have HE : Hid (eaN f id n = k) := eaN_hit hlt hg hid
        rw [hid] at c0
        go_wp2
        go_ret
        rw [HE.out]; first | exact ⟨rfl, Below.refl _ _⟩ | exact ⟨trivial, Below.refl _ _⟩
      · have HG : Hid (∀ j, j < k + 1 → (f j).id ≠ id) := fun j hj => by
          by_cases hjk : j = k
          · subst hjk; exact hid
          · exact hg j (by omega)
        have hb : ((f k).id == id) = false := by simpa using hid
        generalize (f k).id = x at c0 hid hb
        go_wp2
        go_roundw
        case rel => first | exact ⟨k + 1, by omega, by go_num, trivial, HG.out⟩ | exact ⟨k + 1, by omega, by go_num, rfl, HG.out⟩
        case measure => simp [intOf]; omega
    · obtain rfl : k = n := by omega
      have HE : Hid (eaN f id k = -1) := eaN_miss hg
      go_wp2
      go_ret
      rw [HE.out]; first | exact ⟨rfl, Below.refl _ _⟩ | exact ⟨trivial, Below.refl _ _⟩
set_option maxHeartbeats 8000000 in
theorem specTableOk_any (t : Tb) (w : World) (hok : t.okW w) : Calls Tryz.prog 32 #[.slice t.p t.n t.cap] w fun e w' => e = .returned (.bool (okTb t.n t.f)) ∧ Below w.heap.size w w' := by
  have m_ : Tryz.prog.follows Departure.mixedOrders = true := by kernel_rfl
  have hnm := hok.le
  obtain ⟨p, n, cap, b, f⟩ := t
  obtain ⟨hc1, hc2, h, hf⟩ := hok
  dsimp only at hc1 hc2 h hf hnm ⊢
  go_enter Tryz.func32, Tryz.ntmps32
  go_wp2
  go_loopw [3] (fun i wr => ∃ k : Nat, k ≤ n ∧ i = .int .i64 k ∧ Below w.heap.size w wr ∧ ∀ j, j < k → goodAt f j = true) (fun i _ => n - (intOf i).toNat)
  case atStart => exact ⟨0, Nat.zero_le _, rfl, Below.refl _ _, fun j hj => by omega⟩
  case round =>
    obtain ⟨k, hk, rfl, hb0, hg⟩ := hrel
    by_cases hlt : k < n
    · rcases h.grew efC_ne hb0 with h3 | ⟨o1, rfl, h3⟩
      · omega
      have ra := RdE.rangeD h3 hlt
      have hx := (hf k hlt)
      have hxw := efw_grew hx.1 hb0
      have hxl := hx.2
      have y1 : (0 : Int) ≤ (k : Int) := by omega
      have y2 : (k : Int) < (n : Int) := by omega
      have c1 : wr.cell? ⟨b, o1 + k * 22, none⟩ = some (.int .i64 (f k).id) := h3 k hlt 0 _ rfl
      clear hx
      obtain ⟨x, hxe⟩ : ∃ x, f k = x := ⟨_, rfl⟩
      rw [hxe] at ra hxw hxl c1
      cases hE : okEf x
      case false =>
        have HF : Hid (okTb n f = false) := okTb_no hlt (by unfold goodAt; rw [hxe, hE]; rfl)
        clear h3 hg hf h
        go_wp2_with fail
        have hq : Below wr.heap.size wr wr.drew := (Below.refl _ wr).drew
        refine wp_region_held_drew (S := fun u : World => Below wr.heap.size wr u) (by kernel_rfl) hq (fun hHeld => ?_)
        refine wpAnyH_take (i := 0) (oi := ⟨some 10, _, _, _, _, _⟩) (v := .slice (some ⟨b, o1, none⟩) n cap) rfl (by kernel_rfl) (by kernel_rfl) (by kernel_rfl) (fun _ _ _ h => h) (Or.inl ⟨by kernel_rfl, fun u hSu => by clear hSu; go_simp⟩) hHeld ?_
        try simp only [Act.put, List.setIfInBounds_toArray, List.set_cons_zero, List.set_cons_succ]
        refine wpAnyH_take (i := 1) (oi := ⟨some 11, _, _, _, _, _⟩) (v := .int .i64 k) rfl (by kernel_rfl) (by kernel_rfl) (by kernel_rfl) (fun _ _ _ h => h) (Or.inl ⟨by kernel_rfl, fun u hSu => by clear hSu; go_simp⟩) hHeld ?_
        try simp only [Act.put, List.setIfInBounds_toArray, List.set_cons_zero, List.set_cons_succ]
        refine wpAnyH_take (i := 2) (oi := ⟨some 12, _, _, _, _, _⟩) (v := .pointer (some ⟨b, o1 + k * 22, none⟩)) rfl (by kernel_rfl) (by kernel_rfl) (by kernel_rfl) (fun _ _ _ h => h) (Or.inl ⟨by kernel_rfl, fun u hSu => by clear hSu; go_simp⟩) hHeld ?_
        try simp only [Act.put, List.setIfInBounds_toArray, List.set_cons_zero, List.set_cons_succ]
        refine wpAnyH_take (i := 3) (oi := ⟨some 13, _, _, _, _, _⟩) (v := .agg #[.int .i64 x.id, .int .i64 x.si, .int .i64 x.sr, .int .i64 x.cl, .int .i64 x.pt.kd, .int .i64 x.pt.wh, .int .i64 x.pt.sr, .int .i64 x.pt.tr, .int .i64 x.pt.pi, .int .i64 x.pt.le, .int .i64 x.pt.zo, .int .i64 x.gd.kd, .int .i64 x.gd.nn, .int .i64 x.ac.kd, .int .i64 x.ac.nn, .int .i64 x.ac.pi, .int .i64 x.ac.si, .int .i64 x.ac.zo, .bool x.ac.be, .slice x.ac.la x.ac.ln x.ac.lcap, .int .i64 x.un, .int .i64 x.le]) rfl (by kernel_rfl) (by kernel_rfl) (by kernel_rfl) (fun _ _ _ h => h) (yieldsIf_load_mid (by kernel_rfl) 32 (.tmp 12) rfl (b) (o1 + k * 22) (by rfl) [.int .i64 x.id, .int .i64 x.si, .int .i64 x.sr, .int .i64 x.cl, .int .i64 x.pt.kd, .int .i64 x.pt.wh, .int .i64 x.pt.sr, .int .i64 x.pt.tr, .int .i64 x.pt.pi, .int .i64 x.pt.le, .int .i64 x.pt.zo, .int .i64 x.gd.kd, .int .i64 x.gd.nn, .int .i64 x.ac.kd, .int .i64 x.ac.nn, .int .i64 x.ac.pi, .int .i64 x.ac.si, .int .i64 x.ac.zo, .bool x.ac.be, .slice x.ac.la x.ac.ln x.ac.lcap, .int .i64 x.un, .int .i64 x.le] _ (fun u hu => rangeAt_below ra hu) Tryz.underlying32 rfl (by kernel_rfl)) hHeld ?_
        try simp only [Act.put, List.setIfInBounds_toArray, List.set_cons_zero, List.set_cons_succ]
        refine wpAnyH_ready (rs := [4]) (by kernel_rfl) (by simp) ?_
        refine AllReadyH.cons rfl (fun K' hK => ?_) AllReadyH.nil
        go_simp
        go_at_call 14
        refine (specEffectOk_any x _ (efw_grew hxw hq) hxl).mono ?_
        rintro e v4 ⟨rfl, hb⟩
        have hq' := below_app hq hb hq.size
        clear hq hb
        have hq := hq'
        clear hq'
        refine hK.out _ _ hq (fun hHeld => ?_)
        clear hK
        try simp only [Act.put, List.setIfInBounds_toArray, List.set_cons_zero, List.set_cons_succ]
        rw [hE]
        refine wpAnyH_take (i := 5) (oi := ⟨some 15, _, _, _, _, _⟩) (v := .bool true) rfl (by kernel_rfl) (by kernel_rfl) (by kernel_rfl) (fun _ _ _ h => h) (Or.inl ⟨by kernel_rfl, fun u hSu => by clear hSu; go_simp⟩) hHeld ?_
        try simp only [Act.put, List.setIfInBounds_toArray, List.set_cons_zero, List.set_cons_succ]
        refine wpAnyH_take (i := 6) (oi := ⟨some 16, _, _, _, _, _⟩) (v := .bool true) rfl (by kernel_rfl) (by kernel_rfl) (by kernel_rfl) (fun _ _ _ h => h) (Or.inl ⟨by kernel_rfl, fun u hSu => by clear hSu; go_simp⟩) hHeld ?_
        try simp only [Act.put, List.setIfInBounds_toArray, List.set_cons_zero, List.set_cons_succ]
        refine wpAnyH_take (i := 7) (oi := ⟨some 17, _, _, _, _, _⟩) (v := undef) rfl (by kernel_rfl) (by kernel_rfl) (by kernel_rfl) (fun _ _ _ h => h) (Or.inr ⟨by kernel_rfl, rfl⟩) hHeld ?_
        try simp only [Act.put, List.setIfInBounds_toArray, List.set_cons_zero, List.set_cons_succ]
        refine wpAnyH_take (i := 8) (oi := ⟨some 18, _, _, _, _, _⟩) (v := undef) rfl (by kernel_rfl) (by kernel_rfl) (by kernel_rfl) (fun _ _ _ h => h) (Or.inr ⟨by kernel_rfl, rfl⟩) hHeld ?_
        try simp only [Act.put, List.setIfInBounds_toArray, List.set_cons_zero, List.set_cons_succ]
        refine wpAnyH_take (i := 9) (oi := ⟨some 19, _, _, _, _, _⟩) (v := undef) rfl (by kernel_rfl) (by kernel_rfl) (by kernel_rfl) (fun _ _ _ h => h) (Or.inr ⟨by kernel_rfl, rfl⟩) hHeld ?_
        try simp only [Act.put, List.setIfInBounds_toArray, List.set_cons_zero, List.set_cons_succ]
        refine wpAnyH_take (i := 10) (oi := ⟨some 20, _, _, _, _, _⟩) (v := undef) rfl (by kernel_rfl) (by kernel_rfl) (by kernel_rfl) (fun _ _ _ h => h) (Or.inr ⟨by kernel_rfl, rfl⟩) hHeld ?_
        try simp only [Act.put, List.setIfInBounds_toArray, List.set_cons_zero, List.set_cons_succ]
        refine wpAnyH_take (i := 11) (oi := ⟨some 21, _, _, _, _, _⟩) (v := undef) rfl (by kernel_rfl) (by kernel_rfl) (by kernel_rfl) (fun _ _ _ h => h) (Or.inr ⟨by kernel_rfl, rfl⟩) hHeld ?_
        try simp only [Act.put, List.setIfInBounds_toArray, List.set_cons_zero, List.set_cons_succ]
        refine wpAnyH_take (i := 12) (oi := ⟨some 22, _, _, _, _, _⟩) (v := undef) rfl (by kernel_rfl) (by kernel_rfl) (by kernel_rfl) (fun _ _ _ h => h) (Or.inr ⟨by kernel_rfl, rfl⟩) hHeld ?_
        try simp only [Act.put, List.setIfInBounds_toArray, List.set_cons_zero, List.set_cons_succ]
        refine wpAnyH_take (i := 13) (oi := ⟨some 23, _, _, _, _, _⟩) (v := undef) rfl (by kernel_rfl) (by kernel_rfl) (by kernel_rfl) (fun _ _ _ h => h) (Or.inr ⟨by kernel_rfl, rfl⟩) hHeld ?_
        try simp only [Act.put, List.setIfInBounds_toArray, List.set_cons_zero, List.set_cons_succ]
        refine wpAnyH_take (i := 14) (oi := ⟨some 24, _, _, _, _, _⟩) (v := undef) rfl (by kernel_rfl) (by kernel_rfl) (by kernel_rfl) (fun _ _ _ h => h) (Or.inr ⟨by kernel_rfl, rfl⟩) hHeld ?_
        try simp only [Act.put, List.setIfInBounds_toArray, List.set_cons_zero, List.set_cons_succ]
        refine wpAnyH_take (i := 15) (oi := ⟨some 25, _, _, _, _, _⟩) (v := undef) rfl (by kernel_rfl) (by kernel_rfl) (by kernel_rfl) (fun _ _ _ h => h) (Or.inr ⟨by kernel_rfl, rfl⟩) hHeld ?_
        try simp only [Act.put, List.setIfInBounds_toArray, List.set_cons_zero, List.set_cons_succ]
        refine wpAnyH_take (i := 16) (oi := ⟨some 26, _, _, _, _, _⟩) (v := undef) rfl (by kernel_rfl) (by kernel_rfl) (by kernel_rfl) (fun _ _ _ h => h) (Or.inr ⟨by kernel_rfl, rfl⟩) hHeld ?_
        try simp only [Act.put, List.setIfInBounds_toArray, List.set_cons_zero, List.set_cons_succ]
        refine wpAnyH_take (i := 17) (oi := ⟨some 27, _, _, _, _, _⟩) (v := undef) rfl (by kernel_rfl) (by kernel_rfl) (by kernel_rfl) (fun _ _ _ h => h) (Or.inr ⟨by kernel_rfl, rfl⟩) hHeld ?_
        try simp only [Act.put, List.setIfInBounds_toArray, List.set_cons_zero, List.set_cons_succ]
        refine wpAnyH_take (i := 18) (oi := ⟨some 28, _, _, _, _, _⟩) (v := undef) rfl (by kernel_rfl) (by kernel_rfl) (by kernel_rfl) (fun _ _ _ h => h) (Or.inr ⟨by kernel_rfl, rfl⟩) hHeld ?_
        try simp only [Act.put, List.setIfInBounds_toArray, List.set_cons_zero, List.set_cons_succ]
        refine wpAnyH_take (i := 19) (oi := ⟨some 29, _, _, _, _, _⟩) (v := undef) rfl (by kernel_rfl) (by kernel_rfl) (by kernel_rfl) (fun _ _ _ h => h) (Or.inr ⟨by kernel_rfl, rfl⟩) hHeld ?_
        try simp only [Act.put, List.setIfInBounds_toArray, List.set_cons_zero, List.set_cons_succ]
        refine wpAnyH_take (i := 20) (oi := ⟨some 30, _, _, _, _, _⟩) (v := undef) rfl (by kernel_rfl) (by kernel_rfl) (by kernel_rfl) (fun _ _ _ h => h) (Or.inr ⟨by kernel_rfl, rfl⟩) hHeld ?_
        try simp only [Act.put, List.setIfInBounds_toArray, List.set_cons_zero, List.set_cons_succ]
        refine wpAnyH_take (i := 21) (oi := ⟨some 31, _, _, _, _, _⟩) (v := undef) rfl (by kernel_rfl) (by kernel_rfl) (by kernel_rfl) (fun _ _ _ h => h) (Or.inr ⟨by kernel_rfl, rfl⟩) hHeld ?_
        try simp only [Act.put, List.setIfInBounds_toArray, List.set_cons_zero, List.set_cons_succ]
        refine wpAnyH_take (i := 22) (oi := ⟨some 32, _, _, _, _, _⟩) (v := undef) rfl (by kernel_rfl) (by kernel_rfl) (by kernel_rfl) (fun _ _ _ h => h) (Or.inr ⟨by kernel_rfl, rfl⟩) hHeld ?_
        try simp only [Act.put, List.setIfInBounds_toArray, List.set_cons_zero, List.set_cons_succ]
        refine wpAnyH_take (i := 23) (oi := ⟨some 33, _, _, _, _, _⟩) (v := .bool true) rfl (by kernel_rfl) (by kernel_rfl) (by kernel_rfl) (fun _ _ _ h => h) (Or.inl ⟨by kernel_rfl, fun u hSu => by clear hSu; go_simp⟩) hHeld ?_
        try simp only [Act.put, List.setIfInBounds_toArray, List.set_cons_zero, List.set_cons_succ]
        refine wpAnyH_done (by kernel_rfl) ?_ _
        clear hHeld
        have hB := below_app hb0 hq hb0.size
        clear ra c1 hq
        go_wp2
        go_ret
        rw [HF.out]; first | exact ⟨rfl, hB⟩ | exact ⟨trivial, hB⟩
      case true =>
        by_cases hk0 : k = 0
        · have HG : Hid (∀ j, j < k + 1 → goodAt f j = true) := fun j hj => by
            by_cases hjk : j = k
            · subst hjk; unfold goodAt; rw [hxe, hE]; simp; omega
            · exact hg j (by omega)
          clear h3 hg hf h
          go_wp2_with fail
          have hq : Below wr.heap.size wr wr.drew := (Below.refl _ wr).drew
          refine wp_region_held_drew (S := fun u : World => Below wr.heap.size wr u) (by kernel_rfl) hq (fun hHeld => ?_)
          refine wpAnyH_take (i := 0) (oi := ⟨some 10, _, _, _, _, _⟩) (v := .slice (some ⟨b, o1, none⟩) n cap) rfl (by kernel_rfl) (by kernel_rfl) (by kernel_rfl) (fun _ _ _ h => h) (Or.inl ⟨by kernel_rfl, fun u hSu => by clear hSu; go_simp⟩) hHeld ?_
          try simp only [Act.put, List.setIfInBounds_toArray, List.set_cons_zero, List.set_cons_succ]
          refine wpAnyH_take (i := 1) (oi := ⟨some 11, _, _, _, _, _⟩) (v := .int .i64 k) rfl (by kernel_rfl) (by kernel_rfl) (by kernel_rfl) (fun _ _ _ h => h) (Or.inl ⟨by kernel_rfl, fun u hSu => by clear hSu; go_simp⟩) hHeld ?_
          try simp only [Act.put, List.setIfInBounds_toArray, List.set_cons_zero, List.set_cons_succ]
          refine wpAnyH_take (i := 2) (oi := ⟨some 12, _, _, _, _, _⟩) (v := .pointer (some ⟨b, o1 + k * 22, none⟩)) rfl (by kernel_rfl) (by kernel_rfl) (by kernel_rfl) (fun _ _ _ h => h) (Or.inl ⟨by kernel_rfl, fun u hSu => by clear hSu; go_simp⟩) hHeld ?_
          try simp only [Act.put, List.setIfInBounds_toArray, List.set_cons_zero, List.set_cons_succ]
          refine wpAnyH_take (i := 3) (oi := ⟨some 13, _, _, _, _, _⟩) (v := .agg #[.int .i64 x.id, .int .i64 x.si, .int .i64 x.sr, .int .i64 x.cl, .int .i64 x.pt.kd, .int .i64 x.pt.wh, .int .i64 x.pt.sr, .int .i64 x.pt.tr, .int .i64 x.pt.pi, .int .i64 x.pt.le, .int .i64 x.pt.zo, .int .i64 x.gd.kd, .int .i64 x.gd.nn, .int .i64 x.ac.kd, .int .i64 x.ac.nn, .int .i64 x.ac.pi, .int .i64 x.ac.si, .int .i64 x.ac.zo, .bool x.ac.be, .slice x.ac.la x.ac.ln x.ac.lcap, .int .i64 x.un, .int .i64 x.le]) rfl (by kernel_rfl) (by kernel_rfl) (by kernel_rfl) (fun _ _ _ h => h) (yieldsIf_load_mid (by kernel_rfl) 32 (.tmp 12) rfl (b) (o1 + k * 22) (by rfl) [.int .i64 x.id, .int .i64 x.si, .int .i64 x.sr, .int .i64 x.cl, .int .i64 x.pt.kd, .int .i64 x.pt.wh, .int .i64 x.pt.sr, .int .i64 x.pt.tr, .int .i64 x.pt.pi, .int .i64 x.pt.le, .int .i64 x.pt.zo, .int .i64 x.gd.kd, .int .i64 x.gd.nn, .int .i64 x.ac.kd, .int .i64 x.ac.nn, .int .i64 x.ac.pi, .int .i64 x.ac.si, .int .i64 x.ac.zo, .bool x.ac.be, .slice x.ac.la x.ac.ln x.ac.lcap, .int .i64 x.un, .int .i64 x.le] _ (fun u hu => rangeAt_below ra hu) Tryz.underlying32 rfl (by kernel_rfl)) hHeld ?_
          try simp only [Act.put, List.setIfInBounds_toArray, List.set_cons_zero, List.set_cons_succ]
          refine wpAnyH_ready (rs := [4]) (by kernel_rfl) (by simp) ?_
          refine AllReadyH.cons rfl (fun K' hK => ?_) AllReadyH.nil
          go_simp
          go_at_call 14
          refine (specEffectOk_any x _ (efw_grew hxw hq) hxl).mono ?_
          rintro e v4 ⟨rfl, hb⟩
          have hq' := below_app hq hb hq.size
          clear hq hb
          have hq := hq'
          clear hq'
          refine hK.out _ _ hq (fun hHeld => ?_)
          clear hK
          try simp only [Act.put, List.setIfInBounds_toArray, List.set_cons_zero, List.set_cons_succ]
          rw [hE]
          refine wpAnyH_take (i := 5) (oi := ⟨some 15, _, _, _, _, _⟩) (v := .bool false) rfl (by kernel_rfl) (by kernel_rfl) (by kernel_rfl) (fun _ _ _ h => h) (Or.inl ⟨by kernel_rfl, fun u hSu => by clear hSu; go_simp⟩) hHeld ?_
          try simp only [Act.put, List.setIfInBounds_toArray, List.set_cons_zero, List.set_cons_succ]
          refine wpAnyH_take (i := 6) (oi := ⟨some 16, _, _, _, _, _⟩) (v := .bool false) rfl (by kernel_rfl) (by kernel_rfl) (by kernel_rfl) (fun _ _ _ h => h) (Or.inl ⟨by kernel_rfl, fun u hSu => by clear hSu; go_simp⟩) hHeld ?_
          try simp only [Act.put, List.setIfInBounds_toArray, List.set_cons_zero, List.set_cons_succ]
          refine wpAnyH_take (i := 7) (oi := ⟨some 17, _, _, _, _, _⟩) (v := .int .i64 k) rfl (by kernel_rfl) (by kernel_rfl) (by kernel_rfl) (fun _ _ _ h => h) (Or.inl ⟨by kernel_rfl, fun u hSu => by clear hSu; go_simp⟩) hHeld ?_
          try simp only [Act.put, List.setIfInBounds_toArray, List.set_cons_zero, List.set_cons_succ]
          refine wpAnyH_take (i := 8) (oi := ⟨some 18, _, _, _, _, _⟩) (v := .bool false) rfl (by kernel_rfl) (by kernel_rfl) (by kernel_rfl) (fun _ _ _ h => h) (Or.inl ⟨by kernel_rfl, fun u hSu => by clear hSu; go_simp; first | done | omega | (simp; omega)⟩) hHeld ?_
          try simp only [Act.put, List.setIfInBounds_toArray, List.set_cons_zero, List.set_cons_succ]
          refine wpAnyH_take (i := 9) (oi := ⟨some 19, _, _, _, _, _⟩) (v := .bool false) rfl (by kernel_rfl) (by kernel_rfl) (by kernel_rfl) (fun _ _ _ h => h) (Or.inl ⟨by kernel_rfl, fun u hSu => by clear hSu; go_simp⟩) hHeld ?_
          try simp only [Act.put, List.setIfInBounds_toArray, List.set_cons_zero, List.set_cons_succ]
          refine wpAnyH_take (i := 10) (oi := ⟨some 20, _, _, _, _, _⟩) (v := undef) rfl (by kernel_rfl) (by kernel_rfl) (by kernel_rfl) (fun _ _ _ h => h) (Or.inr ⟨by kernel_rfl, rfl⟩) hHeld ?_
          try simp only [Act.put, List.setIfInBounds_toArray, List.set_cons_zero, List.set_cons_succ]
          refine wpAnyH_take (i := 11) (oi := ⟨some 21, _, _, _, _, _⟩) (v := undef) rfl (by kernel_rfl) (by kernel_rfl) (by kernel_rfl) (fun _ _ _ h => h) (Or.inr ⟨by kernel_rfl, rfl⟩) hHeld ?_
          try simp only [Act.put, List.setIfInBounds_toArray, List.set_cons_zero, List.set_cons_succ]
          refine wpAnyH_take (i := 12) (oi := ⟨some 22, _, _, _, _, _⟩) (v := undef) rfl (by kernel_rfl) (by kernel_rfl) (by kernel_rfl) (fun _ _ _ h => h) (Or.inr ⟨by kernel_rfl, rfl⟩) hHeld ?_
          try simp only [Act.put, List.setIfInBounds_toArray, List.set_cons_zero, List.set_cons_succ]
          refine wpAnyH_take (i := 13) (oi := ⟨some 23, _, _, _, _, _⟩) (v := undef) rfl (by kernel_rfl) (by kernel_rfl) (by kernel_rfl) (fun _ _ _ h => h) (Or.inr ⟨by kernel_rfl, rfl⟩) hHeld ?_
          try simp only [Act.put, List.setIfInBounds_toArray, List.set_cons_zero, List.set_cons_succ]
          refine wpAnyH_take (i := 14) (oi := ⟨some 24, _, _, _, _, _⟩) (v := undef) rfl (by kernel_rfl) (by kernel_rfl) (by kernel_rfl) (fun _ _ _ h => h) (Or.inr ⟨by kernel_rfl, rfl⟩) hHeld ?_
          try simp only [Act.put, List.setIfInBounds_toArray, List.set_cons_zero, List.set_cons_succ]
          refine wpAnyH_take (i := 15) (oi := ⟨some 25, _, _, _, _, _⟩) (v := undef) rfl (by kernel_rfl) (by kernel_rfl) (by kernel_rfl) (fun _ _ _ h => h) (Or.inr ⟨by kernel_rfl, rfl⟩) hHeld ?_
          try simp only [Act.put, List.setIfInBounds_toArray, List.set_cons_zero, List.set_cons_succ]
          refine wpAnyH_take (i := 16) (oi := ⟨some 26, _, _, _, _, _⟩) (v := undef) rfl (by kernel_rfl) (by kernel_rfl) (by kernel_rfl) (fun _ _ _ h => h) (Or.inr ⟨by kernel_rfl, rfl⟩) hHeld ?_
          try simp only [Act.put, List.setIfInBounds_toArray, List.set_cons_zero, List.set_cons_succ]
          refine wpAnyH_take (i := 17) (oi := ⟨some 27, _, _, _, _, _⟩) (v := undef) rfl (by kernel_rfl) (by kernel_rfl) (by kernel_rfl) (fun _ _ _ h => h) (Or.inr ⟨by kernel_rfl, rfl⟩) hHeld ?_
          try simp only [Act.put, List.setIfInBounds_toArray, List.set_cons_zero, List.set_cons_succ]
          refine wpAnyH_take (i := 18) (oi := ⟨some 28, _, _, _, _, _⟩) (v := undef) rfl (by kernel_rfl) (by kernel_rfl) (by kernel_rfl) (fun _ _ _ h => h) (Or.inr ⟨by kernel_rfl, rfl⟩) hHeld ?_
          try simp only [Act.put, List.setIfInBounds_toArray, List.set_cons_zero, List.set_cons_succ]
          refine wpAnyH_take (i := 19) (oi := ⟨some 29, _, _, _, _, _⟩) (v := undef) rfl (by kernel_rfl) (by kernel_rfl) (by kernel_rfl) (fun _ _ _ h => h) (Or.inr ⟨by kernel_rfl, rfl⟩) hHeld ?_
          try simp only [Act.put, List.setIfInBounds_toArray, List.set_cons_zero, List.set_cons_succ]
          refine wpAnyH_take (i := 20) (oi := ⟨some 30, _, _, _, _, _⟩) (v := undef) rfl (by kernel_rfl) (by kernel_rfl) (by kernel_rfl) (fun _ _ _ h => h) (Or.inr ⟨by kernel_rfl, rfl⟩) hHeld ?_
          try simp only [Act.put, List.setIfInBounds_toArray, List.set_cons_zero, List.set_cons_succ]
          refine wpAnyH_take (i := 21) (oi := ⟨some 31, _, _, _, _, _⟩) (v := undef) rfl (by kernel_rfl) (by kernel_rfl) (by kernel_rfl) (fun _ _ _ h => h) (Or.inr ⟨by kernel_rfl, rfl⟩) hHeld ?_
          try simp only [Act.put, List.setIfInBounds_toArray, List.set_cons_zero, List.set_cons_succ]
          refine wpAnyH_take (i := 22) (oi := ⟨some 32, _, _, _, _, _⟩) (v := .bool false) rfl (by kernel_rfl) (by kernel_rfl) (by kernel_rfl) (fun _ _ _ h => h) (Or.inl ⟨by kernel_rfl, fun u hSu => by clear hSu; go_simp⟩) hHeld ?_
          try simp only [Act.put, List.setIfInBounds_toArray, List.set_cons_zero, List.set_cons_succ]
          refine wpAnyH_take (i := 23) (oi := ⟨some 33, _, _, _, _, _⟩) (v := .bool false) rfl (by kernel_rfl) (by kernel_rfl) (by kernel_rfl) (fun _ _ _ h => h) (Or.inl ⟨by kernel_rfl, fun u hSu => by clear hSu; go_simp⟩) hHeld ?_
          try simp only [Act.put, List.setIfInBounds_toArray, List.set_cons_zero, List.set_cons_succ]
          refine wpAnyH_done (by kernel_rfl) ?_ _
          clear hHeld
          have hB := below_app hb0 hq hb0.size
          clear ra c1 hq hb0 hxw
          go_wp2
          go_roundw
          case rel => exact ⟨k + 1, by omega, by go_num, hB, HG.out⟩
          case measure => simp [intOf]; omega
        · obtain ⟨m, hm⟩ : ∃ m, k = m + 1 := ⟨k - 1, by omega⟩
          have c2 : wr.cell? ⟨b, o1 + m * 22, none⟩ = some (.int .i64 (f m).id) := h3 m (by omega) 0 _ rfl
          have hm1 : k - 1 = m := by omega
          have y3 : (0 : Int) ≤ (m : Int) := by omega
          have y4 : (m : Int) < (n : Int) := by omega
          have y5 : (k : Int) - 1 = (m : Int) := by omega
          have y6 : (k : Int) > 0 := by omega
          by_cases hle : x.id ≤ (f m).id
          · have HF : Hid (okTb n f = false) := okTb_no hlt (by unfold goodAt; rw [hxe, hE, hm1]; simp [hle]; omega)
            clear h3 hg hf h hm hm1
            go_wp2_with fail
            have hq : Below wr.heap.size wr wr.drew := (Below.refl _ wr).drew
            refine wp_region_held_drew (S := fun u : World => Below wr.heap.size wr u) (by kernel_rfl) hq (fun hHeld => ?_)
            refine wpAnyH_take (i := 0) (oi := ⟨some 10, _, _, _, _, _⟩) (v := .slice (some ⟨b, o1, none⟩) n cap) rfl (by kernel_rfl) (by kernel_rfl) (by kernel_rfl) (fun _ _ _ h => h) (Or.inl ⟨by kernel_rfl, fun u hSu => by clear hSu; go_simp⟩) hHeld ?_
            try simp only [Act.put, List.setIfInBounds_toArray, List.set_cons_zero, List.set_cons_succ]
            refine wpAnyH_take (i := 1) (oi := ⟨some 11, _, _, _, _, _⟩) (v := .int .i64 k) rfl (by kernel_rfl) (by kernel_rfl) (by kernel_rfl) (fun _ _ _ h => h) (Or.inl ⟨by kernel_rfl, fun u hSu => by clear hSu; go_simp⟩) hHeld ?_
            try simp only [Act.put, List.setIfInBounds_toArray, List.set_cons_zero, List.set_cons_succ]
            refine wpAnyH_take (i := 2) (oi := ⟨some 12, _, _, _, _, _⟩) (v := .pointer (some ⟨b, o1 + k * 22, none⟩)) rfl (by kernel_rfl) (by kernel_rfl) (by kernel_rfl) (fun _ _ _ h => h) (Or.inl ⟨by kernel_rfl, fun u hSu => by clear hSu; go_simp⟩) hHeld ?_
            try simp only [Act.put, List.setIfInBounds_toArray, List.set_cons_zero, List.set_cons_succ]
            refine wpAnyH_take (i := 3) (oi := ⟨some 13, _, _, _, _, _⟩) (v := .agg #[.int .i64 x.id, .int .i64 x.si, .int .i64 x.sr, .int .i64 x.cl, .int .i64 x.pt.kd, .int .i64 x.pt.wh, .int .i64 x.pt.sr, .int .i64 x.pt.tr, .int .i64 x.pt.pi, .int .i64 x.pt.le, .int .i64 x.pt.zo, .int .i64 x.gd.kd, .int .i64 x.gd.nn, .int .i64 x.ac.kd, .int .i64 x.ac.nn, .int .i64 x.ac.pi, .int .i64 x.ac.si, .int .i64 x.ac.zo, .bool x.ac.be, .slice x.ac.la x.ac.ln x.ac.lcap, .int .i64 x.un, .int .i64 x.le]) rfl (by kernel_rfl) (by kernel_rfl) (by kernel_rfl) (fun _ _ _ h => h) (yieldsIf_load_mid (by kernel_rfl) 32 (.tmp 12) rfl (b) (o1 + k * 22) (by rfl) [.int .i64 x.id, .int .i64 x.si, .int .i64 x.sr, .int .i64 x.cl, .int .i64 x.pt.kd, .int .i64 x.pt.wh, .int .i64 x.pt.sr, .int .i64 x.pt.tr, .int .i64 x.pt.pi, .int .i64 x.pt.le, .int .i64 x.pt.zo, .int .i64 x.gd.kd, .int .i64 x.gd.nn, .int .i64 x.ac.kd, .int .i64 x.ac.nn, .int .i64 x.ac.pi, .int .i64 x.ac.si, .int .i64 x.ac.zo, .bool x.ac.be, .slice x.ac.la x.ac.ln x.ac.lcap, .int .i64 x.un, .int .i64 x.le] _ (fun u hu => rangeAt_below ra hu) Tryz.underlying32 rfl (by kernel_rfl)) hHeld ?_
            try simp only [Act.put, List.setIfInBounds_toArray, List.set_cons_zero, List.set_cons_succ]
            refine wpAnyH_ready (rs := [4]) (by kernel_rfl) (by simp) ?_
            refine AllReadyH.cons rfl (fun K' hK => ?_) AllReadyH.nil
            go_simp
            go_at_call 14
            refine (specEffectOk_any x _ (efw_grew hxw hq) hxl).mono ?_
            rintro e v4 ⟨rfl, hb⟩
            have hq' := below_app hq hb hq.size
            clear hq hb
            have hq := hq'
            clear hq'
            refine hK.out _ _ hq (fun hHeld => ?_)
            clear hK
            try simp only [Act.put, List.setIfInBounds_toArray, List.set_cons_zero, List.set_cons_succ]
            rw [hE]
            refine wpAnyH_take (i := 5) (oi := ⟨some 15, _, _, _, _, _⟩) (v := .bool false) rfl (by kernel_rfl) (by kernel_rfl) (by kernel_rfl) (fun _ _ _ h => h) (Or.inl ⟨by kernel_rfl, fun u hSu => by clear hSu; go_simp⟩) hHeld ?_
            try simp only [Act.put, List.setIfInBounds_toArray, List.set_cons_zero, List.set_cons_succ]
            refine wpAnyH_take (i := 6) (oi := ⟨some 16, _, _, _, _, _⟩) (v := .bool false) rfl (by kernel_rfl) (by kernel_rfl) (by kernel_rfl) (fun _ _ _ h => h) (Or.inl ⟨by kernel_rfl, fun u hSu => by clear hSu; go_simp⟩) hHeld ?_
            try simp only [Act.put, List.setIfInBounds_toArray, List.set_cons_zero, List.set_cons_succ]
            refine wpAnyH_take (i := 7) (oi := ⟨some 17, _, _, _, _, _⟩) (v := .int .i64 k) rfl (by kernel_rfl) (by kernel_rfl) (by kernel_rfl) (fun _ _ _ h => h) (Or.inl ⟨by kernel_rfl, fun u hSu => by clear hSu; go_simp⟩) hHeld ?_
            try simp only [Act.put, List.setIfInBounds_toArray, List.set_cons_zero, List.set_cons_succ]
            refine wpAnyH_take (i := 8) (oi := ⟨some 18, _, _, _, _, _⟩) (v := .bool true) rfl (by kernel_rfl) (by kernel_rfl) (by kernel_rfl) (fun _ _ _ h => h) (Or.inl ⟨by kernel_rfl, fun u hSu => by clear hSu; go_simp; first | done | omega | (simp; omega)⟩) hHeld ?_
            try simp only [Act.put, List.setIfInBounds_toArray, List.set_cons_zero, List.set_cons_succ]
            refine wpAnyH_take (i := 9) (oi := ⟨some 19, _, _, _, _, _⟩) (v := .bool true) rfl (by kernel_rfl) (by kernel_rfl) (by kernel_rfl) (fun _ _ _ h => h) (Or.inl ⟨by kernel_rfl, fun u hSu => by clear hSu; go_simp⟩) hHeld ?_
            try simp only [Act.put, List.setIfInBounds_toArray, List.set_cons_zero, List.set_cons_succ]
            refine wpAnyH_take (i := 10) (oi := ⟨some 20, _, _, _, _, _⟩) (v := .slice (some ⟨b, o1, none⟩) n cap) rfl (by kernel_rfl) (by kernel_rfl) (by kernel_rfl) (fun _ _ _ h => h) (Or.inl ⟨by kernel_rfl, fun u hSu => by clear hSu; go_simp⟩) hHeld ?_
            try simp only [Act.put, List.setIfInBounds_toArray, List.set_cons_zero, List.set_cons_succ]
            refine wpAnyH_take (i := 11) (oi := ⟨some 21, _, _, _, _, _⟩) (v := .int .i64 k) rfl (by kernel_rfl) (by kernel_rfl) (by kernel_rfl) (fun _ _ _ h => h) (Or.inl ⟨by kernel_rfl, fun u hSu => by clear hSu; go_simp⟩) hHeld ?_
            try simp only [Act.put, List.setIfInBounds_toArray, List.set_cons_zero, List.set_cons_succ]
            refine wpAnyH_take (i := 12) (oi := ⟨some 22, _, _, _, _, _⟩) (v := .int .i64 m) rfl (by kernel_rfl) (by kernel_rfl) (by kernel_rfl) (fun _ _ _ h => h) (Or.inl ⟨by kernel_rfl, fun u hSu => by clear hSu; go_simp; first | done | go_num | (rw [IntKind.wrap_i64]; omega) | (congr 1; rw [IntKind.wrap_i64]; omega)⟩) hHeld ?_
            try simp only [Act.put, List.setIfInBounds_toArray, List.set_cons_zero, List.set_cons_succ]
            refine wpAnyH_take (i := 13) (oi := ⟨some 23, _, _, _, _, _⟩) (v := .pointer (some ⟨b, o1 + m * 22, none⟩)) rfl (by kernel_rfl) (by kernel_rfl) (by kernel_rfl) (fun _ _ _ h => h) (Or.inl ⟨by kernel_rfl, fun u hSu => by clear hSu; go_simp⟩) hHeld ?_
            try simp only [Act.put, List.setIfInBounds_toArray, List.set_cons_zero, List.set_cons_succ]
            refine wpAnyH_take (i := 14) (oi := ⟨some 24, _, _, _, _, _⟩) (v := .pointer (some ⟨b, o1 + m * 22, none⟩)) rfl (by kernel_rfl) (by kernel_rfl) (by kernel_rfl) (fun _ _ _ h => h) (Or.inl ⟨by kernel_rfl, fun u hSu => by clear hSu; go_simp⟩) hHeld ?_
            try simp only [Act.put, List.setIfInBounds_toArray, List.set_cons_zero, List.set_cons_succ]
            refine wpAnyH_take (i := 15) (oi := ⟨some 25, _, _, _, _, _⟩) (v := .int .i64 (f m).id) rfl (by kernel_rfl) (by kernel_rfl) (by kernel_rfl) (fun _ _ _ h => h) (Or.inl ⟨by kernel_rfl, fun u hSu => by have hcu := cell_below c2 hSu; clear hSu; go_simp⟩) hHeld ?_
            try simp only [Act.put, List.setIfInBounds_toArray, List.set_cons_zero, List.set_cons_succ]
            refine wpAnyH_take (i := 16) (oi := ⟨some 26, _, _, _, _, _⟩) (v := .slice (some ⟨b, o1, none⟩) n cap) rfl (by kernel_rfl) (by kernel_rfl) (by kernel_rfl) (fun _ _ _ h => h) (Or.inl ⟨by kernel_rfl, fun u hSu => by clear hSu; go_simp⟩) hHeld ?_
            try simp only [Act.put, List.setIfInBounds_toArray, List.set_cons_zero, List.set_cons_succ]
            refine wpAnyH_take (i := 17) (oi := ⟨some 27, _, _, _, _, _⟩) (v := .int .i64 k) rfl (by kernel_rfl) (by kernel_rfl) (by kernel_rfl) (fun _ _ _ h => h) (Or.inl ⟨by kernel_rfl, fun u hSu => by clear hSu; go_simp⟩) hHeld ?_
            try simp only [Act.put, List.setIfInBounds_toArray, List.set_cons_zero, List.set_cons_succ]
            refine wpAnyH_take (i := 18) (oi := ⟨some 28, _, _, _, _, _⟩) (v := .pointer (some ⟨b, o1 + k * 22, none⟩)) rfl (by kernel_rfl) (by kernel_rfl) (by kernel_rfl) (fun _ _ _ h => h) (Or.inl ⟨by kernel_rfl, fun u hSu => by clear hSu; go_simp⟩) hHeld ?_
            try simp only [Act.put, List.setIfInBounds_toArray, List.set_cons_zero, List.set_cons_succ]
            refine wpAnyH_take (i := 19) (oi := ⟨some 29, _, _, _, _, _⟩) (v := .pointer (some ⟨b, o1 + k * 22, none⟩)) rfl (by kernel_rfl) (by kernel_rfl) (by kernel_rfl) (fun _ _ _ h => h) (Or.inl ⟨by kernel_rfl, fun u hSu => by clear hSu; go_simp⟩) hHeld ?_
            try simp only [Act.put, List.setIfInBounds_toArray, List.set_cons_zero, List.set_cons_succ]
            refine wpAnyH_take (i := 20) (oi := ⟨some 30, _, _, _, _, _⟩) (v := .int .i64 x.id) rfl (by kernel_rfl) (by kernel_rfl) (by kernel_rfl) (fun _ _ _ h => h) (Or.inl ⟨by kernel_rfl, fun u hSu => by have hcu := cell_below c1 hSu; clear hSu; go_simp⟩) hHeld ?_
            try simp only [Act.put, List.setIfInBounds_toArray, List.set_cons_zero, List.set_cons_succ]
            refine wpAnyH_take (i := 21) (oi := ⟨some 31, _, _, _, _, _⟩) (v := .bool true) rfl (by kernel_rfl) (by kernel_rfl) (by kernel_rfl) (fun _ _ _ h => h) (Or.inl ⟨by kernel_rfl, fun u hSu => by clear hSu; go_simp; first | done | simp [hle] | (simp; omega)⟩) hHeld ?_
            try simp only [Act.put, List.setIfInBounds_toArray, List.set_cons_zero, List.set_cons_succ]
            refine wpAnyH_take (i := 22) (oi := ⟨some 32, _, _, _, _, _⟩) (v := .bool true) rfl (by kernel_rfl) (by kernel_rfl) (by kernel_rfl) (fun _ _ _ h => h) (Or.inl ⟨by kernel_rfl, fun u hSu => by clear hSu; go_simp⟩) hHeld ?_
            try simp only [Act.put, List.setIfInBounds_toArray, List.set_cons_zero, List.set_cons_succ]
            refine wpAnyH_take (i := 23) (oi := ⟨some 33, _, _, _, _, _⟩) (v := .bool true) rfl (by kernel_rfl) (by kernel_rfl) (by kernel_rfl) (fun _ _ _ h => h) (Or.inl ⟨by kernel_rfl, fun u hSu => by clear hSu; go_simp⟩) hHeld ?_
            try simp only [Act.put, List.setIfInBounds_toArray, List.set_cons_zero, List.set_cons_succ]
            refine wpAnyH_done (by kernel_rfl) ?_ _
            clear hHeld
            have hB := below_app hb0 hq hb0.size
            clear ra c1 c2 hq
            go_wp2
            go_ret
            rw [HF.out]; first | exact ⟨rfl, hB⟩ | exact ⟨trivial, hB⟩
          · have HG : Hid (∀ j, j < k + 1 → goodAt f j = true) := fun j hj => by
              by_cases hjk : j = k
              · subst hjk; unfold goodAt; rw [hxe, hE]; simp; right; rw [hm1]; omega
              · exact hg j (by omega)
            clear h3 hg hf h hm hm1
            go_wp2_with fail
            have hq : Below wr.heap.size wr wr.drew := (Below.refl _ wr).drew
            refine wp_region_held_drew (S := fun u : World => Below wr.heap.size wr u) (by kernel_rfl) hq (fun hHeld => ?_)
            refine wpAnyH_take (i := 0) (oi := ⟨some 10, _, _, _, _, _⟩) (v := .slice (some ⟨b, o1, none⟩) n cap) rfl (by kernel_rfl) (by kernel_rfl) (by kernel_rfl) (fun _ _ _ h => h) (Or.inl ⟨by kernel_rfl, fun u hSu => by clear hSu; go_simp⟩) hHeld ?_
            try simp only [Act.put, List.setIfInBounds_toArray, List.set_cons_zero, List.set_cons_succ]
            refine wpAnyH_take (i := 1) (oi := ⟨some 11, _, _, _, _, _⟩) (v := .int .i64 k) rfl (by kernel_rfl) (by kernel_rfl) (by kernel_rfl) (fun _ _ _ h => h) (Or.inl ⟨by kernel_rfl, fun u hSu => by clear hSu; go_simp⟩) hHeld ?_
            try simp only [Act.put, List.setIfInBounds_toArray, List.set_cons_zero, List.set_cons_succ]
            refine wpAnyH_take (i := 2) (oi := ⟨some 12, _, _, _, _, _⟩) (v := .pointer (some ⟨b, o1 + k * 22, none⟩)) rfl (by kernel_rfl) (by kernel_rfl) (by kernel_rfl) (fun _ _ _ h => h) (Or.inl ⟨by kernel_rfl, fun u hSu => by clear hSu; go_simp⟩) hHeld ?_
            try simp only [Act.put, List.setIfInBounds_toArray, List.set_cons_zero, List.set_cons_succ]
            refine wpAnyH_take (i := 3) (oi := ⟨some 13, _, _, _, _, _⟩) (v := .agg #[.int .i64 x.id, .int .i64 x.si, .int .i64 x.sr, .int .i64 x.cl, .int .i64 x.pt.kd, .int .i64 x.pt.wh, .int .i64 x.pt.sr, .int .i64 x.pt.tr, .int .i64 x.pt.pi, .int .i64 x.pt.le, .int .i64 x.pt.zo, .int .i64 x.gd.kd, .int .i64 x.gd.nn, .int .i64 x.ac.kd, .int .i64 x.ac.nn, .int .i64 x.ac.pi, .int .i64 x.ac.si, .int .i64 x.ac.zo, .bool x.ac.be, .slice x.ac.la x.ac.ln x.ac.lcap, .int .i64 x.un, .int .i64 x.le]) rfl (by kernel_rfl) (by kernel_rfl) (by kernel_rfl) (fun _ _ _ h => h) (yieldsIf_load_mid (by kernel_rfl) 32 (.tmp 12) rfl (b) (o1 + k * 22) (by rfl) [.int .i64 x.id, .int .i64 x.si, .int .i64 x.sr, .int .i64 x.cl, .int .i64 x.pt.kd, .int .i64 x.pt.wh, .int .i64 x.pt.sr, .int .i64 x.pt.tr, .int .i64 x.pt.pi, .int .i64 x.pt.le, .int .i64 x.pt.zo, .int .i64 x.gd.kd, .int .i64 x.gd.nn, .int .i64 x.ac.kd, .int .i64 x.ac.nn, .int .i64 x.ac.pi, .int .i64 x.ac.si, .int .i64 x.ac.zo, .bool x.ac.be, .slice x.ac.la x.ac.ln x.ac.lcap, .int .i64 x.un, .int .i64 x.le] _ (fun u hu => rangeAt_below ra hu) Tryz.underlying32 rfl (by kernel_rfl)) hHeld ?_
            try simp only [Act.put, List.setIfInBounds_toArray, List.set_cons_zero, List.set_cons_succ]
            refine wpAnyH_ready (rs := [4]) (by kernel_rfl) (by simp) ?_
            refine AllReadyH.cons rfl (fun K' hK => ?_) AllReadyH.nil
            go_simp
            go_at_call 14
            refine (specEffectOk_any x _ (efw_grew hxw hq) hxl).mono ?_
            rintro e v4 ⟨rfl, hb⟩
            have hq' := below_app hq hb hq.size
            clear hq hb
            have hq := hq'
            clear hq'
            refine hK.out _ _ hq (fun hHeld => ?_)
            clear hK
            try simp only [Act.put, List.setIfInBounds_toArray, List.set_cons_zero, List.set_cons_succ]
            rw [hE]
            refine wpAnyH_take (i := 5) (oi := ⟨some 15, _, _, _, _, _⟩) (v := .bool false) rfl (by kernel_rfl) (by kernel_rfl) (by kernel_rfl) (fun _ _ _ h => h) (Or.inl ⟨by kernel_rfl, fun u hSu => by clear hSu; go_simp⟩) hHeld ?_
            try simp only [Act.put, List.setIfInBounds_toArray, List.set_cons_zero, List.set_cons_succ]
            refine wpAnyH_take (i := 6) (oi := ⟨some 16, _, _, _, _, _⟩) (v := .bool false) rfl (by kernel_rfl) (by kernel_rfl) (by kernel_rfl) (fun _ _ _ h => h) (Or.inl ⟨by kernel_rfl, fun u hSu => by clear hSu; go_simp⟩) hHeld ?_
            try simp only [Act.put, List.setIfInBounds_toArray, List.set_cons_zero, List.set_cons_succ]
            refine wpAnyH_take (i := 7) (oi := ⟨some 17, _, _, _, _, _⟩) (v := .int .i64 k) rfl (by kernel_rfl) (by kernel_rfl) (by kernel_rfl) (fun _ _ _ h => h) (Or.inl ⟨by kernel_rfl, fun u hSu => by clear hSu; go_simp⟩) hHeld ?_
            try simp only [Act.put, List.setIfInBounds_toArray, List.set_cons_zero, List.set_cons_succ]
            refine wpAnyH_take (i := 8) (oi := ⟨some 18, _, _, _, _, _⟩) (v := .bool true) rfl (by kernel_rfl) (by kernel_rfl) (by kernel_rfl) (fun _ _ _ h => h) (Or.inl ⟨by kernel_rfl, fun u hSu => by clear hSu; go_simp; first | done | omega | (simp; omega)⟩) hHeld ?_
            try simp only [Act.put, List.setIfInBounds_toArray, List.set_cons_zero, List.set_cons_succ]
            refine wpAnyH_take (i := 9) (oi := ⟨some 19, _, _, _, _, _⟩) (v := .bool true) rfl (by kernel_rfl) (by kernel_rfl) (by kernel_rfl) (fun _ _ _ h => h) (Or.inl ⟨by kernel_rfl, fun u hSu => by clear hSu; go_simp⟩) hHeld ?_
            try simp only [Act.put, List.setIfInBounds_toArray, List.set_cons_zero, List.set_cons_succ]
            refine wpAnyH_take (i := 10) (oi := ⟨some 20, _, _, _, _, _⟩) (v := .slice (some ⟨b, o1, none⟩) n cap) rfl (by kernel_rfl) (by kernel_rfl) (by kernel_rfl) (fun _ _ _ h => h) (Or.inl ⟨by kernel_rfl, fun u hSu => by clear hSu; go_simp⟩) hHeld ?_
            try simp only [Act.put, List.setIfInBounds_toArray, List.set_cons_zero, List.set_cons_succ]
            refine wpAnyH_take (i := 11) (oi := ⟨some 21, _, _, _, _, _⟩) (v := .int .i64 k) rfl (by kernel_rfl) (by kernel_rfl) (by kernel_rfl) (fun _ _ _ h => h) (Or.inl ⟨by kernel_rfl, fun u hSu => by clear hSu; go_simp⟩) hHeld ?_
            try simp only [Act.put, List.setIfInBounds_toArray, List.set_cons_zero, List.set_cons_succ]
            refine wpAnyH_take (i := 12) (oi := ⟨some 22, _, _, _, _, _⟩) (v := .int .i64 m) rfl (by kernel_rfl) (by kernel_rfl) (by kernel_rfl) (fun _ _ _ h => h) (Or.inl ⟨by kernel_rfl, fun u hSu => by clear hSu; go_simp; first | done | go_num | (rw [IntKind.wrap_i64]; omega) | (congr 1; rw [IntKind.wrap_i64]; omega)⟩) hHeld ?_
            try simp only [Act.put, List.setIfInBounds_toArray, List.set_cons_zero, List.set_cons_succ]
            refine wpAnyH_take (i := 13) (oi := ⟨some 23, _, _, _, _, _⟩) (v := .pointer (some ⟨b, o1 + m * 22, none⟩)) rfl (by kernel_rfl) (by kernel_rfl) (by kernel_rfl) (fun _ _ _ h => h) (Or.inl ⟨by kernel_rfl, fun u hSu => by clear hSu; go_simp⟩) hHeld ?_
            try simp only [Act.put, List.setIfInBounds_toArray, List.set_cons_zero, List.set_cons_succ]
            refine wpAnyH_take (i := 14) (oi := ⟨some 24, _, _, _, _, _⟩) (v := .pointer (some ⟨b, o1 + m * 22, none⟩)) rfl (by kernel_rfl) (by kernel_rfl) (by kernel_rfl) (fun _ _ _ h => h) (Or.inl ⟨by kernel_rfl, fun u hSu => by clear hSu; go_simp⟩) hHeld ?_
            try simp only [Act.put, List.setIfInBounds_toArray, List.set_cons_zero, List.set_cons_succ]
            refine wpAnyH_take (i := 15) (oi := ⟨some 25, _, _, _, _, _⟩) (v := .int .i64 (f m).id) rfl (by kernel_rfl) (by kernel_rfl) (by kernel_rfl) (fun _ _ _ h => h) (Or.inl ⟨by kernel_rfl, fun u hSu => by have hcu := cell_below c2 hSu; clear hSu; go_simp⟩) hHeld ?_
            try simp only [Act.put, List.setIfInBounds_toArray, List.set_cons_zero, List.set_cons_succ]
            refine wpAnyH_take (i := 16) (oi := ⟨some 26, _, _, _, _, _⟩) (v := .slice (some ⟨b, o1, none⟩) n cap) rfl (by kernel_rfl) (by kernel_rfl) (by kernel_rfl) (fun _ _ _ h => h) (Or.inl ⟨by kernel_rfl, fun u hSu => by clear hSu; go_simp⟩) hHeld ?_
            try simp only [Act.put, List.setIfInBounds_toArray, List.set_cons_zero, List.set_cons_succ]
            refine wpAnyH_take (i := 17) (oi := ⟨some 27, _, _, _, _, _⟩) (v := .int .i64 k) rfl (by kernel_rfl) (by kernel_rfl) (by kernel_rfl) (fun _ _ _ h => h) (Or.inl ⟨by kernel_rfl, fun u hSu => by clear hSu; go_simp⟩) hHeld ?_
            try simp only [Act.put, List.setIfInBounds_toArray, List.set_cons_zero, List.set_cons_succ]
            refine wpAnyH_take (i := 18) (oi := ⟨some 28, _, _, _, _, _⟩) (v := .pointer (some ⟨b, o1 + k * 22, none⟩)) rfl (by kernel_rfl) (by kernel_rfl) (by kernel_rfl) (fun _ _ _ h => h) (Or.inl ⟨by kernel_rfl, fun u hSu => by clear hSu; go_simp⟩) hHeld ?_
            try simp only [Act.put, List.setIfInBounds_toArray, List.set_cons_zero, List.set_cons_succ]
            refine wpAnyH_take (i := 19) (oi := ⟨some 29, _, _, _, _, _⟩) (v := .pointer (some ⟨b, o1 + k * 22, none⟩)) rfl (by kernel_rfl) (by kernel_rfl) (by kernel_rfl) (fun _ _ _ h => h) (Or.inl ⟨by kernel_rfl, fun u hSu => by clear hSu; go_simp⟩) hHeld ?_
            try simp only [Act.put, List.setIfInBounds_toArray, List.set_cons_zero, List.set_cons_succ]
            refine wpAnyH_take (i := 20) (oi := ⟨some 30, _, _, _, _, _⟩) (v := .int .i64 x.id) rfl (by kernel_rfl) (by kernel_rfl) (by kernel_rfl) (fun _ _ _ h => h) (Or.inl ⟨by kernel_rfl, fun u hSu => by have hcu := cell_below c1 hSu; clear hSu; go_simp⟩) hHeld ?_
            try simp only [Act.put, List.setIfInBounds_toArray, List.set_cons_zero, List.set_cons_succ]
            refine wpAnyH_take (i := 21) (oi := ⟨some 31, _, _, _, _, _⟩) (v := .bool false) rfl (by kernel_rfl) (by kernel_rfl) (by kernel_rfl) (fun _ _ _ h => h) (Or.inl ⟨by kernel_rfl, fun u hSu => by clear hSu; go_simp; first | done | simp [hle] | (simp; omega)⟩) hHeld ?_
            try simp only [Act.put, List.setIfInBounds_toArray, List.set_cons_zero, List.set_cons_succ]
            refine wpAnyH_take (i := 22) (oi := ⟨some 32, _, _, _, _, _⟩) (v := .bool false) rfl (by kernel_rfl) (by kernel_rfl) (by kernel_rfl) (fun _ _ _ h => h) (Or.inl ⟨by kernel_rfl, fun u hSu => by clear hSu; go_simp⟩) hHeld ?_
            try simp only [Act.put, List.setIfInBounds_toArray, List.set_cons_zero, List.set_cons_succ]
            refine wpAnyH_take (i := 23) (oi := ⟨some 33, _, _, _, _, _⟩) (v := .bool false) rfl (by kernel_rfl) (by kernel_rfl) (by kernel_rfl) (fun _ _ _ h => h) (Or.inl ⟨by kernel_rfl, fun u hSu => by clear hSu; go_simp⟩) hHeld ?_
            try simp only [Act.put, List.setIfInBounds_toArray, List.set_cons_zero, List.set_cons_succ]
            refine wpAnyH_done (by kernel_rfl) ?_ _
            clear hHeld
            clear c2
            have hB := below_app hb0 hq hb0.size
            clear ra c1 hq hb0 hxw
            go_wp2
            go_roundw
            case rel => exact ⟨k + 1, by omega, by go_num, hB, HG.out⟩
            case measure => simp [intOf]; omega
    · obtain rfl : k = n := by omega
      have HE : Hid (okTb k f = decide ((k : Int) ≤ 5)) := (okTb_yes hg).trans (decide_eq_decide.2 (by omega))
      clear hg hf h
      go_wp2
      go_ret
      rw [HE.out]; first | exact ⟨rfl, hb0⟩ | exact ⟨trivial, hb0⟩
set_option maxHeartbeats 8000000 in
theorem specSameTable_any (t1 t2 : Tb) (w : World) (hok1 : t1.okW w) (hok2 : t2.okW w) : Calls Tryz.prog 34 #[.slice t1.p t1.n t1.cap, .slice t2.p t2.n t2.cap] w fun e w' => e = .returned (.bool (smTb t1.n t2.n t1.f t2.f)) ∧ Below w.heap.size w w' := by
  have m_ : Tryz.prog.follows Departure.mixedOrders = true := by kernel_rfl
  have hnm1 := hok1.le
  have hnm2 := hok2.le
  obtain ⟨p1, n1, c1, b1, f1⟩ := t1
  obtain ⟨p2, n2, c2, b2, f2⟩ := t2
  obtain ⟨_, _, r1, g1⟩ := hok1
  obtain ⟨_, _, r2, g2⟩ := hok2
  dsimp only at r1 r2 g1 g2 hnm1 hnm2 ⊢
  by_cases hn : ¬ n1 = n2
  · have HF : Hid (smTb n1 n2 f1 f2 = false) := smTb_ne hn
    have hne : ((n1 : Int) != (n2 : Int)) = true := by simp; omega
    go_enter Tryz.func34, Tryz.ntmps34
    go_wp2
    all_goals first | omega | (go_ret; rw [HF.out]; first | exact ⟨rfl, Below.refl _ _⟩ | exact ⟨trivial, Below.refl _ _⟩)
  obtain rfl := Decidable.not_not.1 hn
  go_enter Tryz.func34, Tryz.ntmps34
  go_wp2
  go_loopw [5] (fun i wr => ∃ k : Nat, k ≤ n1 ∧ i = .int .i64 k ∧ Below w.heap.size w wr ∧ ∀ j, j < k → smEf (f1 j) (f2 j) = true) (fun i _ => n1 - (intOf i).toNat)
  case atStart => exact ⟨0, Nat.zero_le _, rfl, Below.refl _ _, fun j hj => by omega⟩
  case round =>
    obtain ⟨k, hk, rfl, hb0, hg⟩ := hrel
    by_cases hlt : k < n1
    · rcases r1.grew efC_ne hb0 with q1 | ⟨x1, rfl, q1⟩
      · omega
      rcases r2.grew efC_ne hb0 with q2 | ⟨x2, rfl, q2⟩
      · omega
      have ra := RdE.rangeD q1 hlt
      have rb := RdE.rangeD q2 hlt
      have oa := efw_grew (g1 k hlt).1 hb0
      have ob := efw_grew (g2 k hlt).1 hb0
      have hlk := (g1 k hlt).2
      have HG : smEf (f1 k) (f2 k) = true → ∀ j, j < k + 1 → smEf (f1 j) (f2 j) = true := fun h0 j hj => by
        by_cases hjk : j = k
        · subst hjk; exact h0
        · exact hg j (by omega)
      have HN : smEf (f1 k) (f2 k) = false → smTb n1 n1 f1 f2 = false := fun h0 => smTb_no hlt h0
      clear q1 q2 g1 g2 r1 r2 hg
      generalize hx1 : f1 k = x at ra oa hlk HG HN
      generalize hx2 : f2 k = y at rb ob HG HN
      clear hx1 hx2
      have y1 : (0 : Int) ≤ (k : Int) := by omega
      have y2 : (k : Int) < (n1 : Int) := by omega
      cases hS : smEf x y
      all_goals (try replace HG : Hid (∀ j, j < k + 1 → smEf (f1 j) (f2 j) = true) := HG hS)
      all_goals (try replace HN : Hid (smTb n1 n1 f1 f2 = false) := HN hS)
      case false =>
        go_wp2_with fail
        have hq : Below wr.heap.size wr wr.drew := (Below.refl _ wr).drew
        refine wp_region_held_drew (S := fun u : World => Below wr.heap.size wr u) (by kernel_rfl) hq (fun hHeld => ?_)
        refine wpAnyH_take (i := 0) (oi := ⟨some 17, _, _, _, _, _⟩) (v := .slice (some ⟨b1, x1, none⟩) n1 c1) rfl (by kernel_rfl) (by kernel_rfl) (by kernel_rfl) (fun _ _ _ h => h) (Or.inl ⟨by kernel_rfl, fun u hSu => by clear hSu; go_simp⟩) hHeld ?_
        try simp only [Act.put, List.setIfInBounds_toArray, List.set_cons_zero, List.set_cons_succ]
        refine wpAnyH_take (i := 1) (oi := ⟨some 18, _, _, _, _, _⟩) (v := .int .i64 k) rfl (by kernel_rfl) (by kernel_rfl) (by kernel_rfl) (fun _ _ _ h => h) (Or.inl ⟨by kernel_rfl, fun u hSu => by clear hSu; go_simp⟩) hHeld ?_
        try simp only [Act.put, List.setIfInBounds_toArray, List.set_cons_zero, List.set_cons_succ]
        refine wpAnyH_take (i := 2) (oi := ⟨some 19, _, _, _, _, _⟩) (v := .pointer (some ⟨b1, x1 + k * 22, none⟩)) rfl (by kernel_rfl) (by kernel_rfl) (by kernel_rfl) (fun _ _ _ h => h) (Or.inl ⟨by kernel_rfl, fun u hSu => by clear hSu; go_simp⟩) hHeld ?_
        try simp only [Act.put, List.setIfInBounds_toArray, List.set_cons_zero, List.set_cons_succ]
        refine wpAnyH_take (i := 3) (oi := ⟨some 20, _, _, _, _, _⟩) (v := .agg #[.int .i64 x.id, .int .i64 x.si, .int .i64 x.sr, .int .i64 x.cl, .int .i64 x.pt.kd, .int .i64 x.pt.wh, .int .i64 x.pt.sr, .int .i64 x.pt.tr, .int .i64 x.pt.pi, .int .i64 x.pt.le, .int .i64 x.pt.zo, .int .i64 x.gd.kd, .int .i64 x.gd.nn, .int .i64 x.ac.kd, .int .i64 x.ac.nn, .int .i64 x.ac.pi, .int .i64 x.ac.si, .int .i64 x.ac.zo, .bool x.ac.be, .slice x.ac.la x.ac.ln x.ac.lcap, .int .i64 x.un, .int .i64 x.le]) rfl (by kernel_rfl) (by kernel_rfl) (by kernel_rfl) (fun _ _ _ h => h) (yieldsIf_load_mid (by kernel_rfl) 32 (.tmp 19) rfl (b1) (x1 + k * 22) (by rfl) [.int .i64 x.id, .int .i64 x.si, .int .i64 x.sr, .int .i64 x.cl, .int .i64 x.pt.kd, .int .i64 x.pt.wh, .int .i64 x.pt.sr, .int .i64 x.pt.tr, .int .i64 x.pt.pi, .int .i64 x.pt.le, .int .i64 x.pt.zo, .int .i64 x.gd.kd, .int .i64 x.gd.nn, .int .i64 x.ac.kd, .int .i64 x.ac.nn, .int .i64 x.ac.pi, .int .i64 x.ac.si, .int .i64 x.ac.zo, .bool x.ac.be, .slice x.ac.la x.ac.ln x.ac.lcap, .int .i64 x.un, .int .i64 x.le] _ (fun u hu => rangeAt_below ra hu) Tryz.underlying32 rfl (by kernel_rfl)) hHeld ?_
        try simp only [Act.put, List.setIfInBounds_toArray, List.set_cons_zero, List.set_cons_succ]
        refine wpAnyH_take (i := 4) (oi := ⟨some 21, _, _, _, _, _⟩) (v := .slice (some ⟨b2, x2, none⟩) n1 c2) rfl (by kernel_rfl) (by kernel_rfl) (by kernel_rfl) (fun _ _ _ h => h) (Or.inl ⟨by kernel_rfl, fun u hSu => by clear hSu; go_simp⟩) hHeld ?_
        try simp only [Act.put, List.setIfInBounds_toArray, List.set_cons_zero, List.set_cons_succ]
        refine wpAnyH_take (i := 5) (oi := ⟨some 22, _, _, _, _, _⟩) (v := .int .i64 k) rfl (by kernel_rfl) (by kernel_rfl) (by kernel_rfl) (fun _ _ _ h => h) (Or.inl ⟨by kernel_rfl, fun u hSu => by clear hSu; go_simp⟩) hHeld ?_
        try simp only [Act.put, List.setIfInBounds_toArray, List.set_cons_zero, List.set_cons_succ]
        refine wpAnyH_take (i := 6) (oi := ⟨some 23, _, _, _, _, _⟩) (v := .pointer (some ⟨b2, x2 + k * 22, none⟩)) rfl (by kernel_rfl) (by kernel_rfl) (by kernel_rfl) (fun _ _ _ h => h) (Or.inl ⟨by kernel_rfl, fun u hSu => by clear hSu; go_simp⟩) hHeld ?_
        try simp only [Act.put, List.setIfInBounds_toArray, List.set_cons_zero, List.set_cons_succ]
        refine wpAnyH_take (i := 7) (oi := ⟨some 24, _, _, _, _, _⟩) (v := .agg #[.int .i64 y.id, .int .i64 y.si, .int .i64 y.sr, .int .i64 y.cl, .int .i64 y.pt.kd, .int .i64 y.pt.wh, .int .i64 y.pt.sr, .int .i64 y.pt.tr, .int .i64 y.pt.pi, .int .i64 y.pt.le, .int .i64 y.pt.zo, .int .i64 y.gd.kd, .int .i64 y.gd.nn, .int .i64 y.ac.kd, .int .i64 y.ac.nn, .int .i64 y.ac.pi, .int .i64 y.ac.si, .int .i64 y.ac.zo, .bool y.ac.be, .slice y.ac.la y.ac.ln y.ac.lcap, .int .i64 y.un, .int .i64 y.le]) rfl (by kernel_rfl) (by kernel_rfl) (by kernel_rfl) (fun _ _ _ h => h) (yieldsIf_load_mid (by kernel_rfl) 32 (.tmp 23) rfl (b2) (x2 + k * 22) (by rfl) [.int .i64 y.id, .int .i64 y.si, .int .i64 y.sr, .int .i64 y.cl, .int .i64 y.pt.kd, .int .i64 y.pt.wh, .int .i64 y.pt.sr, .int .i64 y.pt.tr, .int .i64 y.pt.pi, .int .i64 y.pt.le, .int .i64 y.pt.zo, .int .i64 y.gd.kd, .int .i64 y.gd.nn, .int .i64 y.ac.kd, .int .i64 y.ac.nn, .int .i64 y.ac.pi, .int .i64 y.ac.si, .int .i64 y.ac.zo, .bool y.ac.be, .slice y.ac.la y.ac.ln y.ac.lcap, .int .i64 y.un, .int .i64 y.le] _ (fun u hu => rangeAt_below rb hu) Tryz.underlying32 rfl (by kernel_rfl)) hHeld ?_
        try simp only [Act.put, List.setIfInBounds_toArray, List.set_cons_zero, List.set_cons_succ]
        refine wpAnyH_ready (rs := [8]) (by kernel_rfl) (by simp) ?_
        refine AllReadyH.cons rfl (fun K' hK => ?_) AllReadyH.nil
        go_simp
        go_at_call 17
        refine (specSameEffect_any x y _ (efw_grew oa hq) (efw_grew ob hq) hlk).mono ?_
        rintro e v8 ⟨rfl, hb⟩
        have hq' := below_app hq hb hq.size
        clear hq hb
        have hq := hq'
        clear hq'
        refine hK.out _ _ hq (fun hHeld => ?_)
        clear hK
        try simp only [Act.put, List.setIfInBounds_toArray, List.set_cons_zero, List.set_cons_succ]
        rw [hS]
        refine wpAnyH_take (i := 9) (oi := ⟨some 26, _, _, _, _, _⟩) (v := .bool true) rfl (by kernel_rfl) (by kernel_rfl) (by kernel_rfl) (fun _ _ _ h => h) (Or.inl ⟨by kernel_rfl, fun u hSu => by clear hSu; go_simp⟩) hHeld ?_
        try simp only [Act.put, List.setIfInBounds_toArray, List.set_cons_zero, List.set_cons_succ]
        refine wpAnyH_done (by kernel_rfl) ?_ _
        clear hHeld
        have hB := below_app hb0 hq hb0.size
        clear hq hb0 ra rb oa ob hlk
        go_wp2
        go_ret
        rw [HN.out]; first | exact ⟨rfl, hB⟩ | exact ⟨trivial, hB⟩
      case true =>
        go_wp2_with fail
        have hq : Below wr.heap.size wr wr.drew := (Below.refl _ wr).drew
        refine wp_region_held_drew (S := fun u : World => Below wr.heap.size wr u) (by kernel_rfl) hq (fun hHeld => ?_)
        refine wpAnyH_take (i := 0) (oi := ⟨some 17, _, _, _, _, _⟩) (v := .slice (some ⟨b1, x1, none⟩) n1 c1) rfl (by kernel_rfl) (by kernel_rfl) (by kernel_rfl) (fun _ _ _ h => h) (Or.inl ⟨by kernel_rfl, fun u hSu => by clear hSu; go_simp⟩) hHeld ?_
        try simp only [Act.put, List.setIfInBounds_toArray, List.set_cons_zero, List.set_cons_succ]
        refine wpAnyH_take (i := 1) (oi := ⟨some 18, _, _, _, _, _⟩) (v := .int .i64 k) rfl (by kernel_rfl) (by kernel_rfl) (by kernel_rfl) (fun _ _ _ h => h) (Or.inl ⟨by kernel_rfl, fun u hSu => by clear hSu; go_simp⟩) hHeld ?_
        try simp only [Act.put, List.setIfInBounds_toArray, List.set_cons_zero, List.set_cons_succ]
        refine wpAnyH_take (i := 2) (oi := ⟨some 19, _, _, _, _, _⟩) (v := .pointer (some ⟨b1, x1 + k * 22, none⟩)) rfl (by kernel_rfl) (by kernel_rfl) (by kernel_rfl) (fun _ _ _ h => h) (Or.inl ⟨by kernel_rfl, fun u hSu => by clear hSu; go_simp⟩) hHeld ?_
        try simp only [Act.put, List.setIfInBounds_toArray, List.set_cons_zero, List.set_cons_succ]
        refine wpAnyH_take (i := 3) (oi := ⟨some 20, _, _, _, _, _⟩) (v := .agg #[.int .i64 x.id, .int .i64 x.si, .int .i64 x.sr, .int .i64 x.cl, .int .i64 x.pt.kd, .int .i64 x.pt.wh, .int .i64 x.pt.sr, .int .i64 x.pt.tr, .int .i64 x.pt.pi, .int .i64 x.pt.le, .int .i64 x.pt.zo, .int .i64 x.gd.kd, .int .i64 x.gd.nn, .int .i64 x.ac.kd, .int .i64 x.ac.nn, .int .i64 x.ac.pi, .int .i64 x.ac.si, .int .i64 x.ac.zo, .bool x.ac.be, .slice x.ac.la x.ac.ln x.ac.lcap, .int .i64 x.un, .int .i64 x.le]) rfl (by kernel_rfl) (by kernel_rfl) (by kernel_rfl) (fun _ _ _ h => h) (yieldsIf_load_mid (by kernel_rfl) 32 (.tmp 19) rfl (b1) (x1 + k * 22) (by rfl) [.int .i64 x.id, .int .i64 x.si, .int .i64 x.sr, .int .i64 x.cl, .int .i64 x.pt.kd, .int .i64 x.pt.wh, .int .i64 x.pt.sr, .int .i64 x.pt.tr, .int .i64 x.pt.pi, .int .i64 x.pt.le, .int .i64 x.pt.zo, .int .i64 x.gd.kd, .int .i64 x.gd.nn, .int .i64 x.ac.kd, .int .i64 x.ac.nn, .int .i64 x.ac.pi, .int .i64 x.ac.si, .int .i64 x.ac.zo, .bool x.ac.be, .slice x.ac.la x.ac.ln x.ac.lcap, .int .i64 x.un, .int .i64 x.le] _ (fun u hu => rangeAt_below ra hu) Tryz.underlying32 rfl (by kernel_rfl)) hHeld ?_
        try simp only [Act.put, List.setIfInBounds_toArray, List.set_cons_zero, List.set_cons_succ]
        refine wpAnyH_take (i := 4) (oi := ⟨some 21, _, _, _, _, _⟩) (v := .slice (some ⟨b2, x2, none⟩) n1 c2) rfl (by kernel_rfl) (by kernel_rfl) (by kernel_rfl) (fun _ _ _ h => h) (Or.inl ⟨by kernel_rfl, fun u hSu => by clear hSu; go_simp⟩) hHeld ?_
        try simp only [Act.put, List.setIfInBounds_toArray, List.set_cons_zero, List.set_cons_succ]
        refine wpAnyH_take (i := 5) (oi := ⟨some 22, _, _, _, _, _⟩) (v := .int .i64 k) rfl (by kernel_rfl) (by kernel_rfl) (by kernel_rfl) (fun _ _ _ h => h) (Or.inl ⟨by kernel_rfl, fun u hSu => by clear hSu; go_simp⟩) hHeld ?_
        try simp only [Act.put, List.setIfInBounds_toArray, List.set_cons_zero, List.set_cons_succ]
        refine wpAnyH_take (i := 6) (oi := ⟨some 23, _, _, _, _, _⟩) (v := .pointer (some ⟨b2, x2 + k * 22, none⟩)) rfl (by kernel_rfl) (by kernel_rfl) (by kernel_rfl) (fun _ _ _ h => h) (Or.inl ⟨by kernel_rfl, fun u hSu => by clear hSu; go_simp⟩) hHeld ?_
        try simp only [Act.put, List.setIfInBounds_toArray, List.set_cons_zero, List.set_cons_succ]
        refine wpAnyH_take (i := 7) (oi := ⟨some 24, _, _, _, _, _⟩) (v := .agg #[.int .i64 y.id, .int .i64 y.si, .int .i64 y.sr, .int .i64 y.cl, .int .i64 y.pt.kd, .int .i64 y.pt.wh, .int .i64 y.pt.sr, .int .i64 y.pt.tr, .int .i64 y.pt.pi, .int .i64 y.pt.le, .int .i64 y.pt.zo, .int .i64 y.gd.kd, .int .i64 y.gd.nn, .int .i64 y.ac.kd, .int .i64 y.ac.nn, .int .i64 y.ac.pi, .int .i64 y.ac.si, .int .i64 y.ac.zo, .bool y.ac.be, .slice y.ac.la y.ac.ln y.ac.lcap, .int .i64 y.un, .int .i64 y.le]) rfl (by kernel_rfl) (by kernel_rfl) (by kernel_rfl) (fun _ _ _ h => h) (yieldsIf_load_mid (by kernel_rfl) 32 (.tmp 23) rfl (b2) (x2 + k * 22) (by rfl) [.int .i64 y.id, .int .i64 y.si, .int .i64 y.sr, .int .i64 y.cl, .int .i64 y.pt.kd, .int .i64 y.pt.wh, .int .i64 y.pt.sr, .int .i64 y.pt.tr, .int .i64 y.pt.pi, .int .i64 y.pt.le, .int .i64 y.pt.zo, .int .i64 y.gd.kd, .int .i64 y.gd.nn, .int .i64 y.ac.kd, .int .i64 y.ac.nn, .int .i64 y.ac.pi, .int .i64 y.ac.si, .int .i64 y.ac.zo, .bool y.ac.be, .slice y.ac.la y.ac.ln y.ac.lcap, .int .i64 y.un, .int .i64 y.le] _ (fun u hu => rangeAt_below rb hu) Tryz.underlying32 rfl (by kernel_rfl)) hHeld ?_
        try simp only [Act.put, List.setIfInBounds_toArray, List.set_cons_zero, List.set_cons_succ]
        refine wpAnyH_ready (rs := [8]) (by kernel_rfl) (by simp) ?_
        refine AllReadyH.cons rfl (fun K' hK => ?_) AllReadyH.nil
        go_simp
        go_at_call 17
        refine (specSameEffect_any x y _ (efw_grew oa hq) (efw_grew ob hq) hlk).mono ?_
        rintro e v8 ⟨rfl, hb⟩
        have hq' := below_app hq hb hq.size
        clear hq hb
        have hq := hq'
        clear hq'
        refine hK.out _ _ hq (fun hHeld => ?_)
        clear hK
        try simp only [Act.put, List.setIfInBounds_toArray, List.set_cons_zero, List.set_cons_succ]
        rw [hS]
        refine wpAnyH_take (i := 9) (oi := ⟨some 26, _, _, _, _, _⟩) (v := .bool false) rfl (by kernel_rfl) (by kernel_rfl) (by kernel_rfl) (fun _ _ _ h => h) (Or.inl ⟨by kernel_rfl, fun u hSu => by clear hSu; go_simp⟩) hHeld ?_
        try simp only [Act.put, List.setIfInBounds_toArray, List.set_cons_zero, List.set_cons_succ]
        refine wpAnyH_done (by kernel_rfl) ?_ _
        clear hHeld
        have hB := below_app hb0 hq hb0.size
        clear hq hb0 ra rb oa ob hlk
        go_wp2
        go_roundw
        case rel => exact ⟨k + 1, by omega, by go_num, hB, HG.out⟩
        case measure => simp [intOf]; omega
    · obtain rfl : k = n1 := by omega
      have HE : Hid (smTb k k f1 f2 = true) := smTb_yes hg
      clear hg g1 g2 r1 r2
      go_wp2
      go_ret
      rw [HE.out]; first | exact ⟨rfl, hb0⟩ | exact ⟨trivial, hb0⟩
end Go.Proofs.YtodfdfncdoliiadGreat
