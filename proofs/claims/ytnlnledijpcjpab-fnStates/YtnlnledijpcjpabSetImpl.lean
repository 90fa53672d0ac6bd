/-
  Chapter 3: contracts of the program's SetOf, Has, Union, With, Within, Meet, Rest, Without. Own work.
-/
import Derived.Test.YtnlnledijpcjpabSetFrom
import Derived.Deep.AppendSrc
namespace Go.Proofs.Ytnlnledijpcjpab
open Go.ChangeShapes Go.WideShapes Go.ChangeAt Go.RowKit Go.Shelf
set_option maxRecDepth 100000
attribute [local go_sem] Oper.semAt_some

/-- setFrom(l) -/
theorem from_one (ad : Addr) (b n c : Nat) (f : Nat → Int) (w : World) (hn : n ≤ 3000000) (h : Rd .i64 w b (some ad) n f) :
    Calls Try.prog 69 #[.slice (some ⟨w.heap.size, 0, none⟩) 1 1] (w.alloc (.cells #[.slice (some ad) n c] 24)) fun e w' =>
      ∃ b a cap, e = .returned (.agg #[.slice a (sLen (lst n f)) cap]) ∧ Rd .i64 w' b a (sLen (lst n f)) (sEl (lst n f)) ∧ Below w.heap.size w w' ∧ w.heap.size ≤ b ∧ b < w'.heap.size := by
  have hb0 : Below w.heap.size w (w.alloc (.cells #[.slice (some ad) n c] 24)) := below_new' _ _
  have hbx := Boxed.new w 24 (.slice (some ad) n c)
  refine (setFrom_any w.heap.size 1 1 (fun _ => ad) (fun _ => n) (fun _ => c) (fun _ => b) (fun _ => f) _ (by decide) (by show 0 + n ≤ _; omega) (fun j hj => ?_) (fun j hj => h.grew hb0)).mono ?_
  · obtain rfl : j = 0 := by omega
    exact hbx.cell
  · rintro e w' ⟨b1, a1, cap1, rfl, hr, hb, h1, h2⟩
    exact ⟨b1, a1, cap1, rfl, hr, below_app hb0 hb hb0.size, Nat.le_trans hb0.size h1, h2⟩
/-- setFrom(a, b) -/
theorem from_two (ad bd : Addr) (b b' n c m c' : Nat) (f g : Nat → Int) (w : World) (hn : n ≤ 3000000) (hm : m ≤ 3000000) (h : Rd .i64 w b (some ad) n f) (h' : Rd .i64 w b' (some bd) m g) :
    Calls Try.prog 69 #[.slice (some ⟨w.heap.size, 0, none⟩) 2 2] (w.alloc (.cells #[.slice (some ad) n c, .slice (some bd) m c'] 24)) fun e w' =>
      ∃ b a cap, e = .returned (.agg #[.slice a (sLen (unL n f m g)) cap]) ∧ Rd .i64 w' b a (sLen (unL n f m g)) (sEl (unL n f m g)) ∧ Below w.heap.size w w' ∧ w.heap.size ≤ b ∧ b < w'.heap.size := by
  have hb0 : Below w.heap.size w (w.alloc (.cells #[.slice (some ad) n c, .slice (some bd) m c'] 24)) := below_new' _ _
  have hrow := heap_alloc_new w (.cells #[.slice (some ad) n c, .slice (some bd) m c'] 24)
  refine (setFrom_any w.heap.size 2 2 (fun | 0 => ad | _ => bd) (fun | 0 => n | _ => m) (fun | 0 => c | _ => c') (fun | 0 => b | _ => b') (fun | 0 => f | _ => g) _ (by decide) (by show 0 + n + m ≤ _; omega) (fun j hj => ?_) (fun j hj => ?_)).mono ?_
  · obtain rfl | rfl : j = 0 ∨ j = 1 := by omega
    · exact cell_of_row _ _ 0 _ _ (0, 0) hrow
    · exact cell_of_row _ _ 1 _ _ (0, 0) hrow
  · obtain rfl | rfl : j = 0 ∨ j = 1 := by omega
    · exact h.grew hb0
    · exact h'.grew hb0
  · rintro e w' ⟨b1, a1, cap1, rfl, hr, hb, h1, h2⟩
    exact ⟨b1, a1, cap1, rfl, hr, below_app hb0 hb hb0.size, Nat.le_trans hb0.size h1, h2⟩
set_option maxHeartbeats 1000000 in
theorem implSetOf_list (ad : Addr) (b n c : Nat) (f : Nat → Int) (w : World) (hn : n ≤ 3000000) (h : Rd .i64 w b (some ad) n f) :
    Calls Try.prog 21 #[.slice (some ad) n c] w fun e w' => SetPost (lst n f) w e w' := by
  have hle := sLen_of n f
  go_enter Try.func21, Try.ntmps21
  go_wp2_with fail
  refine (from_one ad b n c f w hn h).mono ?_
  rintro e w1 ⟨b1, a1, cap1, rfl, hr1, hb1, hs1, ht1⟩
  clear h
  go_wp2_with fail
  refine (list_any a1 b1 _ cap1 _ w1 (by omega) hr1 ht1).mono ?_
  rintro e w2 ⟨q, c2, rfl, hb2, ho⟩
  clear hr1
  go_wp2
  go_ret
  exact ⟨q, c2, rfl, below_app hb1 hb2 hb1.size, Nat.le_trans hb1.size ho.1, ho.2⟩
set_option maxHeartbeats 1000000 in
theorem implUnion_any (ad bd : Addr) (b b' n c m c' : Nat) (f g : Nat → Int) (w : World) (hn : n ≤ 3000000) (hm : m ≤ 3000000) (h : Rd .i64 w b (some ad) n f) (h' : Rd .i64 w b' (some bd) m g) :
    Calls Try.prog 11 #[.slice (some ad) n c, .slice (some bd) m c'] w fun e w' => SetPost (unL n f m g) w e w' := by
  have hle := sLen_un n m f g
  go_enter Try.func11, Try.ntmps11
  go_wp2_with fail
  refine (from_two ad bd b b' n c m c' f g w hn hm h h').mono ?_
  rintro e w1 ⟨b1, a1, cap1, rfl, hr1, hb1, hs1, ht1⟩
  clear h h'
  go_wp2_with fail
  refine (list_any a1 b1 _ cap1 _ w1 (by omega) hr1 ht1).mono ?_
  rintro e w2 ⟨q, c2, rfl, hb2, ho⟩
  clear hr1
  go_wp2
  go_ret
  exact ⟨q, c2, rfl, below_app hb1 hb2 hb1.size, Nat.le_trans hb1.size ho.1, ho.2⟩
end Go.Proofs.Ytnlnledijpcjpab
