/-
  Chapter 3: contracts of the program's SetOf, Has, Union, With, Within, Meet, Rest, Without. Own work.
-/
import Derived.Test.YtdncgoippljlfaaSetFrom
import Derived.Deep.AppendSrc
namespace Go.Proofs.Ytdncgoippljlfaa
open Go.ChangeShapes Go.WideShapes Go.ChangeAt Go.RowKit Go.Shelf
set_option maxRecDepth 100000
attribute [local go_sem] Oper.semAt_some

/-- setFrom(l) -/
theorem from_one (ad : Addr) (b n c : Nat) (f : Nat → Int) (w : World) (hn : n ≤ 3000000) (h : Rd .i64 w b (some ad) n f) :
    Calls Try.prog 65 #[.slice (some ⟨w.heap.size, 0, none⟩) 1 1] (w.alloc (.cells #[.slice (some ad) n c] 35)) fun e w' =>
      ∃ b a cap, e = .returned (.agg #[.slice a (sLen (lst n f)) cap]) ∧ Rd .i64 w' b a (sLen (lst n f)) (sEl (lst n f)) ∧ Below w.heap.size w w' ∧ w.heap.size ≤ b ∧ b < w'.heap.size := by
  have hb0 : Below w.heap.size w (w.alloc (.cells #[.slice (some ad) n c] 35)) := below_new' _ _
  have hbx := Boxed.new w 35 (.slice (some ad) n c)
  refine (setFrom_any w.heap.size 1 1 (fun _ => ad) (fun _ => n) (fun _ => c) (fun _ => b) (fun _ => f) _ (by decide) (by show 0 + n ≤ _; omega) (fun j hj => ?_) (fun j hj => h.grew hb0)).mono ?_
  · obtain rfl : j = 0 := by omega
    exact hbx.cell
  · rintro e w' ⟨b1, a1, cap1, rfl, hr, hb, h1, h2⟩
    exact ⟨b1, a1, cap1, rfl, hr, below_app hb0 hb hb0.size, Nat.le_trans hb0.size h1, h2⟩
/-- setFrom(a, b) -/
theorem from_two (ad bd : Addr) (b b' n c m c' : Nat) (f g : Nat → Int) (w : World) (hn : n ≤ 3000000) (hm : m ≤ 3000000) (h : Rd .i64 w b (some ad) n f) (h' : Rd .i64 w b' (some bd) m g) :
    Calls Try.prog 65 #[.slice (some ⟨w.heap.size, 0, none⟩) 2 2] (w.alloc (.cells #[.slice (some ad) n c, .slice (some bd) m c'] 35)) fun e w' =>
      ∃ b a cap, e = .returned (.agg #[.slice a (sLen (unL n f m g)) cap]) ∧ Rd .i64 w' b a (sLen (unL n f m g)) (sEl (unL n f m g)) ∧ Below w.heap.size w w' ∧ w.heap.size ≤ b ∧ b < w'.heap.size := by
  have hb0 : Below w.heap.size w (w.alloc (.cells #[.slice (some ad) n c, .slice (some bd) m c'] 35)) := below_new' _ _
  have hrow := heap_alloc_new w (.cells #[.slice (some ad) n c, .slice (some bd) m c'] 35)
  refine (setFrom_any w.heap.size 2 2 (fun | 0 => ad | _ => bd) (fun | 0 => n | _ => m) (fun | 0 => c | _ => c') (fun | 0 => b | _ => b') (fun | 0 => f | _ => g) _ (by decide) (by show 0 + n + m ≤ _; omega) (fun j hj => ?_) (fun j hj => ?_)).mono ?_
  · obtain rfl | rfl : j = 0 ∨ j = 1 := by omega
    · exact cell_of_row _ _ 0 _ _ (0, 0) hrow
    · exact cell_of_row _ _ 1 _ _ (0, 0) hrow
  · obtain rfl | rfl : j = 0 ∨ j = 1 := by omega
    · exact h.grew hb0
    · exact h'.grew hb0
  · rintro e w' ⟨b1, a1, cap1, rfl, hr, hb, h1, h2⟩
    exact ⟨b1, a1, cap1, rfl, hr, below_app hb0 hb hb0.size, Nat.le_trans hb0.size h1, h2⟩
set_option maxHeartbeats 1000000 in
theorem implSetOf_list (ad : Addr) (b n c : Nat) (f : Nat → Int) (w : World) (hn : n ≤ 3000000) (h : Rd .i64 w b (some ad) n f) :
    Calls Try.prog 41 #[.slice (some ad) n c] w fun e w' => SetPost (lst n f) w e w' := by
  have hle := sLen_of n f
  go_enter Try.func41, Try.ntmps41
  go_wp2_with fail
  refine (from_one ad b n c f w hn h).mono ?_
  rintro e w1 ⟨b1, a1, cap1, rfl, hr1, hb1, hs1, ht1⟩
  clear h
  go_wp2_with fail
  refine (list_any a1 b1 _ cap1 _ w1 (by omega) hr1 ht1).mono ?_
  rintro e w2 ⟨q, c2, rfl, hb2, ho⟩
  clear hr1
  go_wp2
  go_ret
  exact ⟨q, c2, rfl, below_app hb1 hb2 hb1.size, Nat.le_trans hb1.size ho.1, ho.2⟩
set_option maxHeartbeats 1000000 in
theorem implUnion_any (ad bd : Addr) (b b' n c m c' : Nat) (f g : Nat → Int) (w : World) (hn : n ≤ 3000000) (hm : m ≤ 3000000) (h : Rd .i64 w b (some ad) n f) (h' : Rd .i64 w b' (some bd) m g) :
    Calls Try.prog 70 #[.slice (some ad) n c, .slice (some bd) m c'] w fun e w' => SetPost (unL n f m g) w e w' := by
  have hle := sLen_un n m f g
  go_enter Try.func70, Try.ntmps70
  go_wp2_with fail
  refine (from_two ad bd b b' n c m c' f g w hn hm h h').mono ?_
  rintro e w1 ⟨b1, a1, cap1, rfl, hr1, hb1, hs1, ht1⟩
  clear h h'
  go_wp2_with fail
  refine (list_any a1 b1 _ cap1 _ w1 (by omega) hr1 ht1).mono ?_
  rintro e w2 ⟨q, c2, rfl, hb2, ho⟩
  clear hr1
  go_wp2
  go_ret
  exact ⟨q, c2, rfl, below_app hb1 hb2 hb1.size, Nat.le_trans hb1.size ho.1, ho.2⟩
set_option maxHeartbeats 1000000 in
theorem implWith_any (ad : Addr) (b n c : Nat) (x : Int) (f : Nat → Int) (w : World) (hn : n ≤ 3000000) (h : Rd .i64 w b (some ad) n f) :
    Calls Try.prog 46 #[.slice (some ad) n c, .int .i64 x] w fun e w' => SetPost (wtL n f x) w e w' := by
  have hb0 : Below w.heap.size w (w.alloc (.cells #[.int .i64 x] 3)) := below_new' _ _
  have r0 : Rd .i64 (w.alloc (.cells #[.int .i64 x] 3)) w.heap.size (some ⟨w.heap.size, 0, none⟩) 1 (fun _ => x) := rd_row (heap_alloc_new w (.cells (vals .i64 1 (fun _ => x)).toArray 3))
  have h2 := h.grew hb0
  clear h
  go_enter Try.func46, Try.ntmps46
  go_wp2_with fail
  refine (implUnion_any ad _ b w.heap.size n c 1 1 f (fun _ => x) _ hn (by omega) h2 r0).mono ?_
  rintro e w2 hpost
  obtain ⟨q3, c3, rfl, hb3, ho3⟩ := (show SetPost (wtL n f x) _ e w2 from hpost).up hb0
  clear hpost
  go_wp2
  go_ret
  exact ⟨q3, c3, rfl, hb3, ho3⟩
set_option maxHeartbeats 1000000 in
theorem implHas_b (a : Option Addr) (b n c : Nat) (x : Int) (f : Nat → Int) (w : World) (hn : n ≤ 9223372036854775807) (h : Rd .i64 w b a n f) :
    Calls Try.prog 48 #[.slice a n c, .int .i64 x] w fun e w' => e = .returned (.bool (hs n f x)) ∧ Below w.heap.size w w' := by
  have hcall : Calls Try.prog 72 #[.slice a n c, .int .i64 x] w fun e w' => e = .returned (.bool (hs n f x)) ∧ w' = w := by
    rcases h with h | ⟨off, rfl, hc⟩
    · subst h
      exact Try.slices_Contains_int_empty a c x w
    · refine (Try.slices_Contains_int b off n c (lst n f) x w (by rw [lst_len]; exact Nat.le_refl _) hn (fun j hj => ?_)).mono ?_
      · rw [lst_len] at hj
        rw [hc j hj, show (lst n f).getD j 0 = el (lst n f) j from rfl, el_lst hj]
      · rintro e w' ⟨rfl, rfl⟩
        rw [List.take_of_length_le (by rw [lst_len]; exact Nat.le_refl _)]
        exact ⟨rfl, rfl⟩
  clear h
  go_enter Try.func48, Try.ntmps48
  go_wp2_with fail
  refine hcall.mono ?_
  rintro e w2 ⟨rfl, rfl⟩
  clear hcall
  go_wp2
  go_ret
  exact ⟨rfl, Below.refl _ _⟩
end Go.Proofs.Ytdncgoippljlfaa
