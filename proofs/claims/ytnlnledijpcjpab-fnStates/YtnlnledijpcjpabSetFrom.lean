/-
  Chapter 3, the program's side: a set made of lists (setFrom), whether a number is in it (has), its members as a list (list). Own work.
-/
import Derived.Test.YtnlnledijpcjpabSetsC
import Derived.Test.YtnlnledijpcjpabSetLib
import Derived.Sort.OwnSortedInts
import Derived.Lib.OwnBridge
namespace Go.Proofs.Ytnlnledijpcjpab
open Go.ChangeShapes Go.WideShapes Go.ChangeAt Go.RowKit Go.Shelf Go.Sort
set_option maxRecDepth 100000

theorem sort_own {B g n cap : Nat} {L : List Int} {w : World} (h : w.ownsRow B 3 1 (.slice (some ⟨g, 0, none⟩) n cap) n (L.map (Value.int .i64))) (hn : n ≤ 100000000) :
    Calls Try.prog 120 #[.slice (some ⟨g, 0, none⟩) n cap] w fun e w' => e = .returned (.tuple #[]) ∧
      w'.ownsRow B 3 1 (.slice (some ⟨g, 0, none⟩) n cap) n ((L.mergeSort fun x y => decide (x ≤ y)).map (Value.int .i64)) ∧ ∀ w0 : World, Below B w0 w → Below B w0 w' := by
  have hl : L.length = n := by simpa using h.1
  subst hl
  rcases h.2 with ⟨h0, _⟩ | ⟨g', cap', cur, hv, hbase, hb, h1, h2, h3, h4⟩
  · cases h0
  cases hv
  have hH := holds_of_blockI (ss := L) hb (by simpa using h4)
  have hgl := (Array.getElem?_eq_some_iff.1 hb).1
  refine (Try.slices_Sort_int g 0 cap L w hH hgl (by omega)).mono ?_
  rintro e w' ⟨rfl, nn, os, rfl⟩
  exact ⟨rfl, ownsRow_sortedI (by simp) hbase hb h1 h2 h3, fun w0 hb0 => hb0.grown (grownBy_sortedI _) (by omega) (fun j hj => by cases hj; exact hbase)⟩
theorem comp_own {B g n cap : Nat} {L : List Int} {w : World} (h : w.ownsRow B 3 1 (.slice (some ⟨g, 0, none⟩) n cap) n (L.map (Value.int .i64))) (hn : n ≤ 100000000) :
    Calls Try.prog 121 #[.slice (some ⟨g, 0, none⟩) n cap] w fun e w' => e = .returned (.slice (some ⟨g, 0, none⟩) (Lib.compact L).length cap) ∧
      w'.ownsRow B 3 1 (.slice (some ⟨g, 0, none⟩) (Lib.compact L).length cap) (Lib.compact L).length ((Lib.compact L).map (Value.int .i64)) ∧ ∀ w0 : World, Below B w0 w → Below B w0 w' := by
  have hle := Lib.compact_length_le L
  obtain ⟨g', cap', e, hbase, hlt, hc1, hc2, hl, hH⟩ := Lib.holds_of_ownsRow h (by simp)
  cases e
  subst hl
  refine (Try.slices_Compact_int g 0 cap L w hH (by omega) hc1).mono ?_
  rintro e w' ⟨rfl, q, rfl⟩
  have hc := Lib.ownsRow_putRow (q := q) (k := (Lib.compact L).length) (ys := Lib.compact L ++ List.replicate (L.length - (Lib.compact L).length) 0) h (by simp; omega) (by omega)
  rw [List.take_left] at hc
  exact ⟨rfl, hc, fun w0 hb0 => Lib.below_putRow hb0 hbase⟩
theorem vals_ints (L : List Int) : L.map (Value.int .i64) = vals .i64 L.length (el L) := by
  refine vals_ext (by simp) fun j hj => ?_
  simp [el, hj]

set_option maxHeartbeats 1000000 in
theorem setFrom_any (q m c : Nat) (A : Nat → Addr) (N C B : Nat → Nat) (G : Nat → Nat → Int) (w : World) (hm : m ≤ 100) (ht : tot N m ≤ 100000000)
    (hc : ∀ j, j < m → w.cell? ⟨q, j, none⟩ = some (.slice (some (A j)) (N j) (C j))) (hr : ∀ j, j < m → Rd .i64 w (B j) (some (A j)) (N j) (G j)) :
    Calls Try.prog 69 #[.slice (some ⟨q, 0, none⟩) m c] w fun e w' => ∃ b a cap, e = .returned (.agg #[.slice a (sLen (catL N G m)) cap]) ∧ Rd .i64 w' b a (sLen (catL N G m)) (sEl (catL N G m)) ∧ Below w.heap.size w w' ∧ w.heap.size ≤ b ∧ b < w'.heap.size := by
  have hb0 : Below w.heap.size w (w.alloc (.cells #[.slice none 0 0] 81)) := below_new' _ _
  have bX := Boxed.new w 81 (.slice none 0 0)
  have hcon := concat_any q m c A N C B G (w.alloc (.cells #[.slice none 0 0] 81)) hm ht (fun j hj => (hb0.cell (p := ⟨q, j, none⟩) (World.block_lt_of_cell? w _ (hc j hj))).trans (hc j hj)) (fun j hj => (hr j hj).grew hb0)
  have hlen := catL_len N G m
  have hset := setL_comp (catL N G m)
  unfold sLen sEl
  generalize catL N G m = L at hcon hlen hset ⊢
  generalize tot N m = T at hcon hlen ht
  clear hc hr
  subst hlen
  go_enter Try.func69, Try.ntmps69
  go_wp2_with fail
  refine hcon.mono ?_
  rintro e w1 ⟨v1, rfl, hown1, hb1⟩
  rw [← vals_ints] at hown1
  have hb2 : Below (w.heap.size + 1) (w.alloc (.cells #[.slice none 0 0] 81)) w1 := by rw [← World.size_alloc w (.cells #[.slice none 0 0] 81)]; exact hb1
  rw [World.size_alloc] at hown1
  clear hb1 hcon
  rcases hown1.2 with ⟨rfl, h0⟩ | ⟨g, cap, cur, rfl, hbase, hg, hn, hmx, hsz, htk⟩
  · have hL : L = [] := List.length_eq_zero_iff.1 h0
    subst hL
    have b2 : Boxed w1 w.heap.size 81 (.slice none 0 0) := (hb2.block _ (by omega)).trans bX
    have c2 := b2.cell
    have f2 := b2.frozen
    have hb3 : Below w.heap.size w w1 := below_app hb0 (hb2.mono (Nat.le_succ _)) (Nat.le_refl _)
    clear hown1 hset hb2 bX hb0
    go_wp2_with fail
    refine (Try.slices_Sort_int_none none 0 w1).mono ?_
    rintro e w2 ⟨rfl, rfl⟩
    go_wp2_with fail
    refine (Try.slices_Compact_int_empty none 0 w2).mono ?_
    rintro e w3 ⟨rfl, rfl⟩
    go_wp2
    (try simp only [Exit.inBlock, Exit.then]); refine bodyPost_ret (results_cell_row rfl _ _ w.heap.size _ _ _ _ rfl (b2.set _) Try.underlying81 rfl (by kernel_rfl)) rfl ?_
    exact ⟨w.heap.size, none, 0, rfl, .inl rfl, hb3.setCell (p := ⟨w.heap.size, 0, none⟩) (Nat.le_refl _) _, Nat.le_refl _, (b2.set _).lt⟩
  · clear hn hmx hsz htk hg
    go_wp2_with fail
    refine (sort_own hown1 ht).mono ?_
    rintro e w2 ⟨rfl, hown2, hbb2⟩
    go_wp2_with fail
    refine (comp_own hown2 ht).mono ?_
    rintro e w3 ⟨rfl, hown3, hbb3⟩
    have hb3 := hbb3 _ (hbb2 _ hb2)
    rw [hset] at hown3 ⊢
    have b2 : Boxed w3 w.heap.size 81 (.slice none 0 0) := (hb3.block _ (by omega)).trans bX
    have c2 := b2.cell
    have f2 := b2.frozen
    have hb4 : Below w.heap.size w w3 := below_app hb0 (hb3.mono (Nat.le_succ _)) (Nat.le_refl _)
    rw [vals_ints] at hown3
    obtain ⟨g', cap', e, ho⟩ := own_of hown3 (by simp)
    cases e
    have hr3 := ho.rd
    have hgl3 := ho.2.1
    clear hown1 hown2 hown3 hbb2 hbb3 hset hb2 hb3 bX hb0 ho
    go_wp2
    (try simp only [Exit.inBlock, Exit.then]); refine bodyPost_ret (results_cell_row rfl _ _ w.heap.size _ _ _ _ rfl (b2.set _) Try.underlying81 rfl (by kernel_rfl)) rfl ?_
    refine ⟨g, some ⟨g, 0, none⟩, cap, rfl, hr3.same (Below.heap_setCell _ _ _ _ (by show g ≠ w.heap.size; omega)), hb4.setCell (p := ⟨w.heap.size, 0, none⟩) (Nat.le_refl _) _, by omega, by simpa [World.setCell] using hgl3⟩
theorem drewN_below (w : World) (q : Nat) : Below w.heap.size w (w.drewN q) := ⟨rfl, rfl, rfl, Nat.le_refl _, fun _ _ => rfl⟩
set_option maxHeartbeats 1000000 in
/-- s.has(x), of a set whose members ascend -/
theorem has_any (a : Option Addr) (b M cap : Nat) (x : Int) (f : Nat → Int) (w : World) (hM : M ≤ 100000000) (hr : Rd .i64 w b a M f) (ha : Asc (lst M f)) :
    Calls Try.prog 76 #[.agg #[.slice a M cap], .int .i64 x] w fun e w' => e = .returned (.bool (hs M f x)) ∧ Below w.heap.size w w' := by
  have hb0 : Below w.heap.size w (w.alloc (.cells #[.slice a M cap] 81)) := below_new' _ _
  have hcall : Calls Try.prog 124 #[.slice a M cap, .int .i64 x] (w.alloc (.cells #[.slice a M cap] 81)) fun e w' => ∃ j : Int, e = .returned (.tuple #[.int .i64 j, .bool (hs M f x)]) ∧ Below w.heap.size w w' := by
    rcases hr.grew hb0 with h | ⟨off, rfl, hc⟩
    · subst h
      exact (Try.slices_BinarySearch_int_empty a cap x _).mono (by rintro e w' ⟨rfl, rfl⟩; exact ⟨0, rfl, hb0⟩)
    · refine (Try.slices_BinarySearch_int b off M cap (lst M f) x _ (by rw [lst_len]; exact Nat.le_refl _) (by omega) (fun j hj => ?_) ?_).mono ?_
      · rw [lst_len] at hj
        rw [hc j hj, show (lst M f).getD j 0 = el (lst M f) j from rfl, el_lst hj]
      · rw [List.take_of_length_le (by rw [lst_len]; exact Nat.le_refl _)]
        exact ha.imp (fun h => by omega)
      · rintro e w' ⟨rfl, q, rfl⟩
        rw [List.take_of_length_le (by rw [lst_len]; exact Nat.le_refl _)]
        exact ⟨_, rfl, below_app hb0 (drewN_below _ q) hb0.size⟩
  clear hr ha hb0
  go_enter Try.func76, Try.ntmps76
  go_wp2_with fail
  refine hcall.mono ?_
  rintro e w2 ⟨j, rfl, hb2⟩
  clear hcall
  go_wp2
  go_ret
  exact ⟨rfl, hb2⟩
theorem all_any (a : Option Addr) (M cap : Nat) (w : World) :
    Calls Try.prog 75 #[.agg #[.slice a M cap]] w fun e w' => e = .returned (.func (.func 123) #[] #[.pointer (some ⟨w.heap.size, 0, none⟩)]) ∧ w' = w.alloc (.cells #[.slice a M cap] 81) :=
  (callsIn_wide (n := 6)).1 (all_in Fence.wide 6 trivial rfl a M cap w)
set_option maxHeartbeats 1000000 in
/-- s.list(): the members, in new memory -/
theorem list_any (a : Option Addr) (b M cap : Nat) (f : Nat → Int) (w : World) (hM : M ≤ 100000000) (hr : Rd .i64 w b a M f) (hb : b < w.heap.size) :
    Calls Try.prog 70 #[.agg #[.slice a M cap]] w fun e w' => ∃ q c, e = .returned (.slice (some ⟨q, 0, none⟩) M c) ∧ Below w.heap.size w w' ∧ Own .i64 w' w.heap.size q (some ⟨q, 0, none⟩) M f := by
  have hb1 : Below w.heap.size w (w.alloc (.cells #[.slice a M cap] 81)) := below_new' _ _
  have hb2 := hb1.alloc hb1.size (.cells #[] 3)
  have hb3 := hb2.alloc hb2.size (.cells #[.slice a M cap] 81)
  have hown : ((w.alloc (.cells #[.slice a M cap] 81)).alloc (.cells #[] 3)).ownsRow w.heap.size 3 1 (.slice (some ⟨w.heap.size + 1, 0, none⟩) 0 0) 0 [] := by
    have h : ((w.alloc (.cells #[.slice a M cap] 81)).alloc (.cells #[] 3)).ownsRow w.heap.size 3 1 (.slice (some ⟨(w.alloc (.cells #[.slice a M cap] 81)).heap.size, 0, none⟩) 0 0) 0 [] := World.ownsRow_lit _ #[] 0 hb1.size (by decide) rfl
    rw [World.size_alloc] at h
    exact h
  have hbx := Boxed.new ((w.alloc (.cells #[.slice a M cap] 81)).alloc (.cells #[] 3)) 81 (.slice a M cap)
  rw [World.size_alloc, World.size_alloc] at hbx
  have hcx := hbx.cell
  have happ : Calls Try.prog 122 #[.slice (some ⟨w.heap.size + 1, 0, none⟩) 0 0, .func (.func 123) #[] #[.pointer (some ⟨w.heap.size + 1 + 1, 0, none⟩)]] (((w.alloc (.cells #[.slice a M cap] 81)).alloc (.cells #[] 3)).alloc (.cells #[.slice a M cap] 81)) fun e W' =>
      ∃ v, e = .returned v ∧ W'.ownsRow w.heap.size 3 1 v M (vals .i64 M f) ∧ v ≠ .slice none 0 0 ∧ Below w.heap.size (((w.alloc (.cells #[.slice a M cap] 81)).alloc (.cells #[] 3)).alloc (.cells #[.slice a M cap] 81)) W' :=
    (callsIn_wide (n := 6)).1 (appendSeq_in Fence.wide 6 trivial trivial rfl (by decide) w.heap.size (w.heap.size + 1 + 1) b M cap (w.heap.size + 1) 0 a f _ hM hb3.size hcx (hr.grew hb3) hb (hown.alloc _))
  clear hown hbx hcx hb1 hb2 hr
  go_enter Try.func70, Try.ntmps70
  go_wp2_with fail
  refine (all_any a M cap _).mono ?_
  rintro e w2 ⟨rfl, rfl⟩
  go_wp2_with fail
  refine happ.mono ?_
  rintro e w3 ⟨v, rfl, hown3, hnil, hb4⟩
  obtain ⟨q, c, rfl, ho⟩ := own_of hown3 hnil
  have hb5 := hb3.trans hb4
  clear happ hown3 hnil hb4 hb3
  go_wp2
  go_ret
  exact ⟨q, c, rfl, hb5, ho⟩
end Go.Proofs.Ytnlnledijpcjpab
