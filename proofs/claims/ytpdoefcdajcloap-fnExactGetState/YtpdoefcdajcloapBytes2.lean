/-
  Contracts of chapter 2's joined, cut, PutNum. Own work.
-/
import Derived.Test.YtpdoefcdajcloapBytes
namespace Go.Proofs.Ytpdoefcdajcloap
open Go.ChangeShapes Go.WideShapes Go.ChangeAt Go.RowKit
set_option maxRecDepth 100000

theorem spl_two (n1 n2 : Nat) (f1 f2 z : Nat → Int) : ∀ i, i < n1 + n2 → spl (spl z 0 n1 f1) n1 n2 f2 i = cat n1 f1 f2 i := by
  intro i hi
  unfold spl cat
  by_cases h : i < n1
  · rw [if_neg (by omega), if_pos (by omega), if_pos h, Nat.sub_zero]
  · rw [if_pos (by omega), if_neg h]
theorem row_made {k : IntKind} {w : World} {B g : Nat} {e : TypeId} {n : Nat} {f : Nat → Int} (h : w.ownsRow B e 1 (.slice (some ⟨g, 0, none⟩) n n) n (vals k n f)) : w.heap[g]? = some (.cells (vals k n f).toArray e (0, 0)) := by
  rcases h.2 with ⟨h', _⟩ | ⟨g', cap', cur, h', hb, hg, hnc, hcm, hcs, htake⟩
  · simp at h'
  · simp only [Value.slice.injEq, Option.some.injEq, Addr.mk.injEq, and_true, true_and] at h'
    obtain ⟨rfl, rfl⟩ := h'
    rw [List.take_of_length_le (by rw [Array.length_toList, hcs]; exact Nat.le_refl _)] at htake
    rw [hg, ← htake]
theorem sizeU8 : (Try.prog.info? 5).map (·.size) = some 1 := by kernel_rfl
set_option maxHeartbeats 1000000 in
theorem joined2_any (q : Nat) (a1 a2 : Option Addr) (b1 b2 n1 n2 N c1 c2 : Nat) (f1 f2 : Nat → Int) (w : World) (hq : q < w.heap.size) (hN : N = n1 + n2) (hs : N ≤ 140737488351232)
    (h0 : w.cell? ⟨q, 0, none⟩ = some (.slice a1 n1 c1)) (h1 : w.cell? ⟨q, 1, none⟩ = some (.slice a2 n2 c2)) (r1 : Rd .u8 w b1 a1 n1 f1) (r2 : Rd .u8 w b2 a2 n2 f2) :
    Calls Try.prog 51 #[.slice (some ⟨q, 0, none⟩) 2 2] w fun e w' => e = .returned (.slice (some ⟨w.heap.size, 0, none⟩) N N) ∧ Below w.heap.size w w' ∧ Own .u8 w' w.heap.size w.heap.size (some ⟨w.heap.size, 0, none⟩) N (cat n1 f1 f2) := by
  obtain ⟨i0, hi, hz0, hz1, hz2⟩ := info_parts Try.infoU8
  have HN : Hid (N = n1 + n2) := hN
  have hl1 : n1 ≤ N := by omega
  have hl2 : n2 ≤ N := by omega
  clear hN
  go_enter Try.func51, Try.ntmps51
  go_wp2
  go_loop [3, 12] (fun t i => (i = .int .i64 0 ∧ t = .int .i64 0) ∨ (i = .int .i64 1 ∧ t = .int .i64 n1) ∨ (i = .int .i64 2 ∧ t = .int .i64 N)) (fun _ i => 2 - (intOf i).toNat)
  case atStart => exact .inl ⟨rfl, rfl⟩
  case round =>
    rcases hrel with ⟨rfl, rfl⟩ | ⟨rfl, rfl⟩ | ⟨rfl, rfl⟩
    · go_wp2
      go_round
      case rel => exact .inr (.inl ⟨rfl, by go_num⟩)
      case measure => simp [intOf]
    · go_wp2
      go_round
      case rel => exact .inr (.inr ⟨rfl, by have := HN.out; go_num⟩)
      case measure => simp [intOf]
    · go_wp2_with (at_make; refine wpList_make_full _ rfl _ _ 27 rfl w.heap.size 5 i0 (.int .u8 0) 1 Try.underlying27 hi hz0 hz1 _ _ _ _ N rfl rfl rfl rfl (by rw [hz2]; omega) (by unfold maxLen; omega) (Nat.le_refl _) ?_)
      intro w1 hown hgr
      rw [made_vals] at hown
      have hrow := row_made hown
      have HR : Hid (w1.heap[w.heap.size]? = some (.cells (vals .u8 N (fun _ => 0)).toArray 5 (0, 0))) := hrow
      have hb1 : Below w.heap.size w w1 := (Below.refl _ _).grown hgr (Nat.le_refl _) (by simp)
      clear hown hgr hrow
      go_wp2
      go_loopw [7, 25] (fun t i wr => Below w.heap.size w wr ∧ ((i = .int .i64 0 ∧ t = .int .i64 0 ∧ Hid (wr.heap[w.heap.size]? = some (.cells (vals .u8 N (fun _ => 0)).toArray 5 (0, 0)))) ∨
        (i = .int .i64 1 ∧ t = .int .i64 n1 ∧ Hid (wr.heap[w.heap.size]? = some (.cells (vals .u8 N (spl (fun _ => 0) 0 n1 f1)).toArray 5 (0, 0)))) ∨
        (i = .int .i64 2 ∧ t = .int .i64 N ∧ Hid (wr.heap[w.heap.size]? = some (.cells (vals .u8 N (spl (spl (fun _ => 0) 0 n1 f1) n1 n2 f2)).toArray 5 (0, 0)))))) (fun _ i _ => 2 - (intOf i).toNat)
      case atStart => exact ⟨hb1, .inl ⟨rfl, rfl, HR⟩⟩
      case round =>
        obtain ⟨hb, hrel⟩ := hrel
        have g0 := (hb.cell (p := ⟨q, 0, none⟩) hq).trans h0
        have g1 := (hb.cell (p := ⟨q, 1, none⟩) hq).trans h1
        rcases hrel with ⟨rfl, rfl, hr⟩ | ⟨rfl, rfl, hr⟩ | ⟨rfl, rfl, hr⟩
        · have hsrc := (r1.grew hb).src
          go_wp2_with (refine wpList_copy_splice rfl (.tmp 32) (.tmp 33) 27 27 rfl 5 Try.underlying27 sizeU8 _ _ _ _ _ _ rfl rfl w.heap.size 0 (vals .u8 N (fun _ => 0)) 5 hr.out (vals .u8 n1 f1) ?_ ?_ ?_ (vals_one _ _ _) w.heap.size w hb (Nat.le_refl _) ?_)
          · rw [vals_len]; exact (Nat.min_eq_left (by omega)).symm
          · rw [vals_len]; exact fun h => hsrc h
          · rw [vals_len, vals_len]; omega
          intro w2 hr2 hb2
          rw [vals_spl _ _ _ _ _ _ (by omega)] at hr2
          rw [vals_len]
          clear hsrc hr hb g0 g1 HR hb1
          go_wp2
          go_roundw
          case rel => exact ⟨hb2, .inr (.inl ⟨rfl, by go_num, hr2⟩)⟩
          case measure => simp [intOf]
        · have hsrc := (r2.grew hb).src
          rcases Nat.eq_zero_or_pos n2 with hn2 | hn2
          · subst hn2
            obtain rfl : N = n1 := by have := HN.out; omega
            go_wp2_with (refine wpList_copy_splice rfl (.tmp 32) (.tmp 33) 27 27 rfl 5 Try.underlying27 sizeU8 _ _ _ _ _ _ rfl rfl w.heap.size N (vals .u8 N (spl (fun _ => 0) 0 N f1)) 5 hr.out (vals .u8 0 f2) ?_ ?_ ?_ (vals_one _ _ _) w.heap.size w hb (Nat.le_refl _) ?_)
            · rw [vals_len]; rfl
            · rw [vals_len]; intro h; omega
            · rw [vals_len, vals_len]; omega
            intro w2 hr2 hb2
            rw [vals_spl _ _ _ _ _ _ (by omega)] at hr2
            rw [vals_len]
            clear hsrc hr hb g0 g1 HR hb1
            go_wp2
            go_roundw
            case rel => exact ⟨hb2, .inr (.inr ⟨rfl, by go_num, hr2⟩)⟩
            case measure => simp [intOf]
          · have hlt : n1 < N := by have := HN.out; omega
            have hsub : N - n1 = n2 := by have := HN.out; omega
            have HS : Hid (N - n1 = n2) := hsub
            clear hsub
            go_wp2_with (refine wpList_copy_splice rfl (.tmp 32) (.tmp 33) 27 27 rfl 5 Try.underlying27 sizeU8 _ _ _ _ _ _ rfl rfl w.heap.size n1 (vals .u8 N (spl (fun _ => 0) 0 n1 f1)) 5 hr.out (vals .u8 n2 f2) ?_ ?_ ?_ (vals_one _ _ _) w.heap.size w hb (Nat.le_refl _) ?_)
            · rw [vals_len, HS.out]; exact (Nat.min_self _).symm
            · rw [vals_len, vals_len]; have := HN.out; omega
            intro w2 hr2 hb2
            rw [vals_spl _ _ _ _ _ _ (by have := HN.out; omega)] at hr2
            rw [vals_len]
            clear hsrc hr hb g0 g1 HR hb1
            go_wp2
            go_roundw
            case rel => exact ⟨hb2, .inr (.inr ⟨rfl, by have := HN.out; go_num, hr2⟩)⟩
            case measure => simp [intOf]
        · go_wp2
          go_ret
          exact ⟨rfl, hb, (own_row hr.out (Nat.le_refl _)).congr (by rw [HN.out]; exact spl_two n1 n2 f1 f2 _)⟩
theorem below_new (w : World) (o : Obj) : Below w.heap.size w (w.alloc o) := (Below.refl _ _).alloc (Nat.le_refl _) _
set_option maxHeartbeats 400000 in
theorem implPutNum_cap (n : Int) (a : Option Addr) (b m c : Nat) (f : Nat → Int) (w : World) (hm : m ≤ 140737488351220) (h : Rd .u8 w b a m f) :
    Calls Try.prog 27 #[.slice a m c, .int .i64 n] w fun e w' => ∃ g cap, e = .returned (.slice (some ⟨g, 0, none⟩) (m + 4) cap) ∧ m + 4 ≤ cap ∧ Below w.heap.size w w' ∧ Own .u8 w' w.heap.size g (some ⟨g, 0, none⟩) (m + 4) (cat m f (enc n)) := by
  go_enter Try.func27, Try.ntmps27
  go_wp2_with fail
  refine (numBytes_any _ _).mono ?_
  rintro e w1 ⟨rfl, hw⟩
  have hb1 : Below w.heap.size w w1 := by rw [hw]; exact below_new _ _
  have r1 : Rd .u8 w1 w.heap.size (some ⟨w.heap.size, 0, none⟩) 4 (enc n) := by rw [hw]; exact rd_row (heap_alloc_new w _)
  have hs1 : w.heap.size < w1.heap.size := by rw [hw]; simp
  clear hw
  obtain ⟨w2, hw2⟩ : ∃ w2, w2 = w1.alloc (.cells #[.slice a m c, .slice (some ⟨w.heap.size, 0, none⟩) 4 4] 27) := ⟨_, rfl⟩
  have hb2 : Below w1.heap.size w1 w2 := by rw [hw2]; exact below_new _ _
  have q0 : w2.cell? ⟨w1.heap.size, 0, none⟩ = some (.slice a m c) := by rw [hw2]; simp
  have q1 : w2.cell? ⟨w1.heap.size, 1, none⟩ = some (.slice (some ⟨w.heap.size, 0, none⟩) 4 4) := by rw [hw2]; simp
  have hs2 : w1.heap.size < w2.heap.size := by rw [hw2]; simp
  have HW : Hid (w2 = _) := hw2
  clear hw2
  have hbs := below_app hb1 hb2 hb1.size
  have ra := (h.grew hb1).grew hb2
  have rb := r1.grew hb2
  go_wp2_with fail
  rw [← HW.out]
  clear HW
  refine (joined2_any w1.heap.size a _ b w.heap.size m 4 (m + 4) c 4 f (enc n) w2 (by omega) rfl (by omega) q0 q1 ra rb).mono ?_
  rintro e w3 ⟨rfl, hb3, ho⟩
  clear q0 q1 ra rb hb1 r1 h hb2
  go_wp2
  go_ret
  exact ⟨_, _, rfl, Nat.le_refl _, below_app hbs hb3 hbs.size, ⟨by omega, ho.2⟩⟩
theorem implPutNum_any (n : Int) (a : Option Addr) (b m c : Nat) (f : Nat → Int) (w : World) (hm : m ≤ 140737488351220) (h : Rd .u8 w b a m f) :
    Calls Try.prog 27 #[.slice a m c, .int .i64 n] w fun e w' => ∃ g cap, e = .returned (.slice (some ⟨g, 0, none⟩) (m + 4) cap) ∧ Below w.heap.size w w' ∧ Own .u8 w' w.heap.size g (some ⟨g, 0, none⟩) (m + 4) (cat m f (enc n)) :=
  (implPutNum_cap n a b m c f w hm h).mono (by rintro e w' ⟨g, cap, h1, _, h2, h3⟩; exact ⟨g, cap, h1, h2, h3⟩)
end Go.Proofs.Ytpdoefcdajcloap
