/-
  Chapter 3: contracts of the program's Within, Meet, Rest, Without. Own work.
-/
import Derived.Test.YtnlnledijpcjpabSetImpl
namespace Go.Proofs.Ytnlnledijpcjpab
open Go.ChangeShapes Go.WideShapes Go.ChangeAt Go.RowKit Go.Shelf
set_option maxRecDepth 100000
attribute [local go_sem] Oper.semAt_some

theorem from_at (s : Nat) (ad : Addr) (b n c : Nat) (f : Nat → Int) (w : World) (hs : w.heap.size = s) (hn : n ≤ 3000000) (h : Rd .i64 w b (some ad) n f) :
    Calls Try.prog 69 #[.slice (some ⟨s, 0, none⟩) 1 1] (w.alloc (.cells #[.slice (some ad) n c] 24)) fun e w' =>
      ∃ b a cap, e = .returned (.agg #[.slice a (sLen (lst n f)) cap]) ∧ Rd .i64 w' b a (sLen (lst n f)) (sEl (lst n f)) ∧ Below w.heap.size w w' ∧ w.heap.size ≤ b ∧ b < w'.heap.size := by
  subst hs
  exact from_one ad b n c f w hn h
theorem keeps_below {W W' : World} (h : Below W.heap.size W W') : KeepsOthers W W' := ⟨h.size, fun k _ hk _ => (h.block k (Array.getElem?_eq_some_iff.1 hk).1).trans hk⟩
theorem hs_set (n : Nat) (f : Nat → Int) (x : Int) : hs (sLen (lst n f)) (sEl (lst n f)) x = hs n f x := by
  rw [Bool.eq_iff_iff, hs_iff, hs_iff]; exact mem_s
theorem s_ascL (L : List Int) : Asc (lst (sLen L) (sEl L)) := by rw [lst_s]; exact asc_setL L

set_option maxRecDepth 100000 in
set_option maxHeartbeats 2000000 in
theorem implWithin_b (ad bd : Addr) (b b' n c m c' : Nat) (f g : Nat → Int) (w : World) (hn : n ≤ 3000000) (hm : m ≤ 3000000) (h : Rd .i64 w b (some ad) n f) (h' : Rd .i64 w b' (some bd) m g) :
    Calls Try.prog 19 #[.slice (some ad) n c, .slice (some bd) m c'] w fun e w' => e = .returned (.bool (wn n f m g)) ∧ Below w.heap.size w w' := by
  refine (callsIn_wide (n := 6)).1 ?_
  have hf : ∀ k, Fence.wide.fn k := fun _ => trivial
  have hl1 := sLen_of m g
  have hl2 := sLen_of n f
  have hb0 : Below w.heap.size w (w.alloc (.cells #[.bool false] 4)) := below_new' _ _
  have bR := Boxed.new w 4 (.bool false)
  have h1' := h'.grew hb0
  clear h'
  refine callsIn_of_wp_marks Try.func19 rfl trivial ?_ rfl
  simp only [Try.ntmps19, List.size_toArray, List.length_cons, List.length_nil, Nat.reduceAdd, Nat.reduceSub, Array.replicate_succ, Array.replicate_zero, List.push_toArray, List.append_toArray, List.nil_append, List.cons_append]
  gi_wp2_with fail
  refine (callsIn_wide.2 (from_at _ bd b' m c' g _ (World.size_alloc _ _) hm h1')).mono ?_
  rintro e w1 ⟨b1, a1, cap1, rfl, hr1, hb1, hs1, ht1⟩
  have bR1 : Boxed w1 w.heap.size 4 (.bool false) := (hb1.block _ bR.lt).trans bR
  have hB1 := below_app hb0 hb1 hb0.size
  have hb2 : Below w1.heap.size w1 (w1.alloc (.cells #[.slice a1 (sLen (lst m g)) cap1] 81)) := below_new' _ _
  have bO := Boxed.new w1 81 (.slice a1 (sLen (lst m g)) cap1)
  have hB2 := below_app hB1 hb2 hB1.size
  have h2 := h.grew hB2
  clear h h1' bR hb0 hb1
  gi_wp2_with fail
  refine (callsIn_wide.2 (from_at _ ad b n c f _ (World.size_alloc _ _) hn h2)).mono ?_
  rintro e w2 ⟨b2, a2, cap2, rfl, hr2, hb3, hs2, ht2⟩
  have bO2 : Boxed w2 w1.heap.size 81 (.slice a1 (sLen (lst m g)) cap1) := (hb3.block _ bO.lt).trans bO
  have bR2 : Boxed w2 w.heap.size 4 (.bool false) := (hb3.block _ (by have := bR1.lt; simp; omega)).trans ((hb2.block _ bR1.lt).trans bR1)
  have hr12 := (hr1.grew hb2).grew hb3
  have hB3 := below_app hB2 hb3 hB2.size
  clear bR1 bO hB1 hB2 h2 hb3 hb2 hr1
  gi_wp2_with fail
  refine (callsIn_wide.2 (all_any a2 _ cap2 w2)).mono ?_
  rintro e w3 ⟨rfl, rfl⟩
  gi_wp2
  have hb4 : Below w2.heap.size w2 (w2.alloc (.cells #[.slice a2 (sLen (lst n f)) cap2] 81)) := below_new' _ _
  have cS := (Boxed.new w2 81 (.slice a2 (sLen (lst n f)) cap2)).cell
  have hr23 := hr2.grew hb4
  have hr13 := hr12.grew hb4
  have bO3 := bO2.alloc (.cells #[.slice a2 (sLen (lst n f)) cap2] 81)
  have bR3 := bR2.alloc (.cells #[.slice a2 (sLen (lst n f)) cap2] 81)
  have hB4 := below_app hB3 hb4 hB3.size
  have ht3 : b2 < (w2.alloc (.cells #[.slice a2 (sLen (lst n f)) cap2] 81)).heap.size := by have := hb4.size; omega
  have hz3 := hB4.size
  clear hr2 hr12 bO2 bR2 hb4 hB3 hs1 ht1 hs2 ht2
  generalize (w2.alloc (.cells #[.slice a2 (sLen (lst n f)) cap2] 81)) = W3 at *
  refine wpIn_rangeFunc_ownG rfl (by decide) (gf := 123) (lb := #[.pointer (some ⟨w2.heap.size, 0, none⟩)]) rfl (hf _) (enters_of Try.func123 (by kernel_rfl) rfl)
    (tells_stops Fence.wide (6 - 1) (hf _) rfl (by decide) w2.heap.size b2 _ cap2 a2 _ (by omega) _ cS hr23) keep_t (keep_b ht3) (Below.refl _ _) (fun _ => rfl)
    (fun pre W => (∀ x ∈ pre, hs m g x = true) ∧ Below W3.heap.size W3 W)
    (fun c pre W => ((c = .ret ∧ ∃ x ∈ pre, hs m g x = false) ∧ W.cell? ⟨w.heap.size, 0, none⟩ = some (.bool false)) ∧ Below w.heap.size w W)
    (OwnFrom.and (ownFrom_pure _ _) (ownFrom_below (Nat.le_refl _) (Nat.le_refl _)))
    (fun c => OwnFrom.and (Own.from (fun s A B row hs hg hr => ⟨hs.1, cell_kept hs.2 hg hr⟩) _) (ownFrom_below (Nat.le_refl _) hz3))
    ⟨fun x hx => (by cases hx), Below.refl _ _⟩
    (fun x => { tmps := #[.slice (some ad) n c, .slice (some bd) m c', undef, undef, .pointer (some ⟨w.heap.size, 0, none⟩), .pointer (some ⟨w1.heap.size, 0, none⟩), .int .i64 x, .slice (some bd) m c', .slice (some ⟨w.heap.size + 1, 0, none⟩) 1 1, .agg #[.slice a1 (sLen (lst m g)) cap1], .slice (some ad) n c, .slice (some ⟨w1.heap.size + 1, 0, none⟩) 1 1, .agg #[.slice a2 (sLen (lst n f)) cap2], .func (.func 123) #[] #[.pointer (some ⟨w2.heap.size, 0, none⟩)], .int .i64 x, undef, undef, undef, undef], defers := [] }) ?assign ?body ?done ?stop
  case assign =>
    intro l x W K hK
    gi_wp2
    exact hK
  case body =>
    rintro l pre x W ⟨hall, hB⟩ hlt
    have c1 := (hB.cell (p := ⟨w1.heap.size, 0, none⟩) bO3.lt).trans bO3.cell
    have hrW := hr13.grew hB
    have hfl : ∀ k, (Fence.wide.inRound l).fn k := fun _ => trivial
    gi_wp2_with fail
    refine (CallsIn.inRound l (callsIn_wide.2 (has_any a1 b1 _ cap1 x _ W (by omega) hrW (s_ascL _)))).mono ?_
    rintro e W4 ⟨rfl, hb5⟩
    rw [hs_set]
    have hB5 := below_app hB hb5 hB.size
    cases hh : hs m g x with
    | true =>
      gi_wp2
      exact ⟨(keeps_below hb5).from _, hb5.block b2 (by have := hB.size; omega), fun y hy => (List.mem_append.1 hy).elim (hall y) (fun e => by rw [List.mem_singleton.1 e]; exact hh), hB5⟩
    | false =>
      have bR5 : Boxed W4 w.heap.size 4 (.bool false) := (hB5.block _ bR3.lt).trans bR3
      have cR := bR5.cell
      have fR := bR5.frozen
      gi_wp2
      exact ⟨((keeps_below hb5).trans (KeepsOthers.setCell _ _ _)).from _, ⟨⟨rfl, x, by simp, hh⟩, World.cell?_setCell_same' _ _ _ (by rw [cR]; rfl)⟩, (below_app hB4 hB5 hz3).setCell (p := ⟨w.heap.size, 0, none⟩) (Nat.le_refl _) _⟩
  case done =>
    rintro D ys W hD rfl ⟨hall, hB⟩ hK
    have bR5 : Boxed W w.heap.size 4 (.bool false) := (hB.block _ bR3.lt).trans bR3
    have cR := bR5.cell
    have fR := bR5.frozen
    have hB5 := below_app hB4 hB hz3
    have HW : Hid (wn n f m g = true) := wn_iff.2 fun x hx => hs_iff.1 (hall x (mem_s.2 hx))
    clear hall
    gi_wp2
    have hK' := (KeepsOthers.setCell W ⟨w.heap.size, 0, none⟩ (.bool true)).same D _ hK rfl
    refine ⟨by simp, .inl ⟨_, _, rfl, run_takeDeferred hK', ?_⟩⟩
    have hc5 := cell_kept (World.cell?_setCell_same' W ⟨w.heap.size, 0, none⟩ (.bool true) (by rw [cR]; rfl)) (grownBy_putObj' _ D (.deferred none)) (fun r e => by cases e; exact ⟨_, hK', rfl⟩)
    refine ⟨.bool true, ?_, ret_bool HW.out.symm, (hB5.setCell (p := ⟨w.heap.size, 0, none⟩) (Nat.le_refl _) _).trans (belowK_b (w := W3) hz3 _ D _ _ hD hK' rfl rfl)⟩
    simp [results, Try.f19, go_sem, hc5]
  case stop =>
    rintro D c pre W hD ⟨k, hk, rfl⟩ ⟨⟨⟨rfl, x, hx, hno⟩, cR⟩, hB⟩ hK
    have HW : Hid (wn n f m g = false) := by
      obtain ⟨i, hi, rfl⟩ := mem_lst.1 hx
      have hx2 : sEl (lst n f) i ∈ lst n f := mem_s.1 (mem_lst.2 ⟨i, by omega, rfl⟩)
      show wn n f m g = false
      cases e : wn n f m g with
      | false => rfl
      | true => exact absurd (hs_iff.2 (wn_iff.1 e _ hx2)) (by rw [hno]; simp)
    clear hx hno
    gi_wp2
    refine ⟨by simp, .inl ⟨_, _, rfl, run_takeDeferred hK, ?_⟩⟩
    have hc5 := cell_kept cR (grownBy_putObj' _ D (.deferred none)) (fun r e => by cases e; exact ⟨_, hK, rfl⟩)
    refine ⟨.bool false, ?_, ret_bool HW.out.symm, hB.trans (belowK_b (w := W3) hz3 _ D _ _ hD hK rfl rfl)⟩
    simp [results, Try.f19, go_sem, hc5]
end Go.Proofs.Ytnlnledijpcjpab
