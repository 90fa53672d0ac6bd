/-
  Contracts of chapter 2's amounts in bytes (numBytes, joined, cut, PutNum, GetNum and the specification's). Contracts of chapter 2's joined, cut, PutNum. Contracts of chapter 2's GetNum (the program's, by cut; the specification's). Own work.
-/
import Derived.Test.YtnlnledijpcjpabRowLaw
import Derived.Test.YtnlnledijpcjpabNum
namespace Go.Proofs.Ytnlnledijpcjpab
open Go.ChangeShapes Go.WideShapes Go.ChangeAt Go.RowKit
set_option maxRecDepth 100000

def enc (n : Int) : Nat → Int := fun j => if j = 0 then (bnd n + 2147483648) / 16777216 else if j = 1 then (bnd n + 2147483648) / 65536 % 256 else if j = 2 then (bnd n + 2147483648) / 256 % 256 else (bnd n + 2147483648) % 256

theorem and255_eq (x : Int) (h0 : 0 ≤ x) (h1 : x ≤ 9223372036854775807) : bits .and .i64 x 255 % 256 = x % 256 := by
  obtain ⟨m, rfl⟩ := Int.eq_ofNat_of_zero_le h0
  have h2 : (BitVec.ofInt 64 (255 : Int)).toNat = 255 := by decide
  have e : bits .and .i64 (m : Int) 255 = IntKind.i64.wrap ((BitVec.ofInt 64 (m : Int) &&& BitVec.ofInt 64 (255 : Int)).toNat : Int) := rfl
  have h3 : (BitVec.ofInt 64 (m : Int) &&& BitVec.ofInt 64 (255 : Int)).toNat = m % 256 := by
    rw [BitVec.toNat_and, h2, BitVec.ofInt_natCast, BitVec.toNat_ofNat, Nat.mod_eq_of_lt (by omega)]
    exact Nat.and_two_pow_sub_one_eq_mod m 8
  rw [e, h3, IntWalk.i64_in _ (by omega)]
  omega
theorem vals4 (k : IntKind) (f : Nat → Int) : vals k 4 f = [.int k (f 0), .int k (f 1), .int k (f 2), .int k (f 3)] := rfl
theorem Rd.news {k : IntKind} {w : World} {b : Nat} {ad : Addr} {n : Nat} {f : Nat → Int} (h : Rd k w b (some ad) n f) : ∀ j u, (vals k n f)[j]? = some u → w.cell? (ad.add j) = some u := by
  intro j u hu
  by_cases hn : 0 < n
  · obtain ⟨x, e, hx⟩ := h.src hn
    simp only [Option.some.injEq] at e
    subst e
    exact hx j u hu
  · rw [vals_get, if_neg (by omega)] at hu; cases hu
theorem cells_new (w : World) (L : List Value) (t : TypeId) : ∀ j u, L[j]? = some u → (w.alloc (.cells L.toArray t)).cell? ((⟨w.heap.size, 0, none⟩ : Addr).add j) = some u := by
  intro j u hu
  have e : (⟨w.heap.size, 0, none⟩ : Addr).add j = ⟨w.heap.size, j, none⟩ := by unfold Addr.add; split <;> simp_all
  rw [e, cell_of_row _ w.heap.size j _ t (0, 0) (heap_alloc_new w _)]
  simpa using hu
set_option maxHeartbeats 400000 in
theorem numBytes_any (n : Int) (w : World) :
    Calls Try.prog 90 #[.int .i64 n] w fun e w' => e = .returned (.slice (some ⟨w.heap.size, 0, none⟩) 4 4) ∧ w' = w.alloc (.cells (vals .u8 4 (enc n)).toArray 5) := by
  have r := bnd_rng n
  go_enter Try.func90, Try.ntmps90
  go_wp2_with (go_at_call 37; refine (implBound_any _ _).mono ?_; rintro e w' ⟨rfl, rfl⟩)
  go_ret
  refine ⟨rfl, ?_⟩
  rw [vals4]
  rfl
set_option maxHeartbeats 1000000 in
theorem specPutNum_cap (n : Int) (ad : Addr) (b m c : Nat) (f : Nat → Int) (w : World) (hm : m ≤ 140737488351232) (h : Rd .u8 w b (some ad) m f) :
    Calls Try.prog 132 #[.slice (some ad) m c, .int .i64 n] w fun e w' => ∃ g cap, e = .returned (.slice (some ⟨g, 0, none⟩) (m + 4) cap) ∧ m + 4 ≤ cap ∧ Below w.heap.size w w' ∧ Own .u8 w' w.heap.size g (some ⟨g, 0, none⟩) (m + 4) (cat m f (enc n)) := by
  have r := bnd_rng n
  obtain ⟨i0, hi, hz0, hz1, hz2⟩ := info_parts Try.infoU8
  go_enter Try.func132, Try.ntmps132
  go_wp2_with fail
  refine (specBound_any _ _).mono ?_
  rintro e w' ⟨rfl, rfl⟩
  have hb0 : Below w'.heap.size w' (w'.alloc (.cells #[] 5)) := (Below.refl _ _).alloc (Nat.le_refl _) _
  have hown0 : (w'.alloc (.cells #[] 5)).ownsRow w'.heap.size 5 1 (.slice (some ⟨w'.heap.size, 0, none⟩) 0 0) 0 [] := World.ownsRow_lit w' #[] 0 (Nat.le_refl _) (by decide) rfl
  have hnews := (h.grew hb0).news
  go_wp2_with (at_builtin; refine wpList_append_own _ rfl (.tmp 9) (.tmp 10) 22 rfl w'.heap.size 5 i0 (.int .u8 0) 1 1 Try.underlying22 hi hz0 hz1 hz2 rfl (by decide) _ _ _ rfl hown0 ad m c (vals .u8 m f) rfl (by rw [vals_len, Nat.mul_one]) hnews (vals_one _ _ _) (by unfold maxLen; omega) (by omega) hb0.size ?_)
  intro v1 w1 hown1 hgr1 hnil1
  have hb1 : Below w'.heap.size w' w1 := hb0.grown hgr1 hb0.size (by intro k hk; simp [Value.ownBlock] at hk; omega)
  clear hown0 hgr1 hnews h
  go_wp2_with (at_builtin; refine wpList_append_own _ rfl (.tmp 11) (.tmp 27) 22 rfl w'.heap.size 5 i0 (.int .u8 0) 1 1 Try.underlying22 hi hz0 hz1 hz2 rfl (by decide) _ _ _ rfl (hown1.alloc _) ⟨w1.heap.size, 0, none⟩ 4 4 [_, _, _, _] rfl rfl (cells_new _ _ _) (by intro u hu; simp at hu; rcases hu with rfl | rfl | rfl | rfl <;> rfl) (by unfold maxLen; omega) (by omega) (by have := hb1.size; simp; omega) ?_)
  intro v2 w2 hown2 hgr2 hnil2
  have hb2 : Below w'.heap.size w' w2 := (hb1.alloc hb1.size _).grown hgr2 (by have := hb1.size; simp; omega) (fun k hk => (hown1.lt k hk).1)
  rw [and255_eq _ (by omega) (by omega), and255_eq _ (by omega) (by omega), and255_eq _ (by omega) (by omega), and255_eq _ (by omega) (by omega)] at hown2
  have hown3 : w2.ownsRow w'.heap.size 5 1 v2 (m + 4) (vals .u8 (m + 4) (cat m f (enc n))) := by
    rw [← vals_cat, vals4]
    have e0 : enc n 0 = (bnd n + 2147483648) / 16777216 % 256 := by show (bnd n + 2147483648) / 16777216 = _; omega
    rw [e0]
    exact hown2
  have hv2 : v2 ≠ .slice none 0 0 := hnil2
  obtain ⟨g, cap, rfl, hcp, ho⟩ := own_of_cap hown3 hv2
  clear hown2 hown3 hgr2 hnil2 hv2 hown1 hnil1
  go_wp2
  go_ret
  exact ⟨g, cap, rfl, hcp, hb2, ho⟩
theorem specPutNum_any (n : Int) (ad : Addr) (b m c : Nat) (f : Nat → Int) (w : World) (hm : m ≤ 140737488351232) (h : Rd .u8 w b (some ad) m f) :
    Calls Try.prog 132 #[.slice (some ad) m c, .int .i64 n] w fun e w' => ∃ g cap, e = .returned (.slice (some ⟨g, 0, none⟩) (m + 4) cap) ∧ Below w.heap.size w w' ∧ Own .u8 w' w.heap.size g (some ⟨g, 0, none⟩) (m + 4) (cat m f (enc n)) :=
  (specPutNum_cap n ad b m c f w hm h).mono (by rintro e w' ⟨g, cap, h1, _, h2, h3⟩; exact ⟨g, cap, h1, h2, h3⟩)
end Go.Proofs.Ytnlnledijpcjpab
namespace Go.Proofs.Ytnlnledijpcjpab
open Go.ChangeShapes Go.WideShapes Go.ChangeAt Go.RowKit
set_option maxRecDepth 100000

theorem spl_two (n1 n2 : Nat) (f1 f2 z : Nat → Int) : ∀ i, i < n1 + n2 → spl (spl z 0 n1 f1) n1 n2 f2 i = cat n1 f1 f2 i := by
  intro i hi
  unfold spl cat
  by_cases h : i < n1
  · rw [if_neg (by omega), if_pos (by omega), if_pos h, Nat.sub_zero]
  · rw [if_pos (by omega), if_neg h]
theorem row_made {k : IntKind} {w : World} {B g : Nat} {e : TypeId} {n : Nat} {f : Nat → Int} (h : w.ownsRow B e 1 (.slice (some ⟨g, 0, none⟩) n n) n (vals k n f)) : w.heap[g]? = some (.cells (vals k n f).toArray e (0, 0)) := by
  rcases h.2 with ⟨h', _⟩ | ⟨g', cap', cur, h', hb, hg, hnc, hcm, hcs, htake⟩
  · simp at h'
  · simp only [Value.slice.injEq, Option.some.injEq, Addr.mk.injEq, and_true, true_and] at h'
    obtain ⟨rfl, rfl⟩ := h'
    rw [List.take_of_length_le (by rw [Array.length_toList, hcs]; exact Nat.le_refl _)] at htake
    rw [hg, ← htake]
theorem sizeU8 : (Try.prog.info? 5).map (·.size) = some 1 := by kernel_rfl
set_option maxHeartbeats 1000000 in
theorem joined2_any (q : Nat) (a1 a2 : Option Addr) (b1 b2 n1 n2 N c1 c2 : Nat) (f1 f2 : Nat → Int) (w : World) (hq : q < w.heap.size) (hN : N = n1 + n2) (hs : N ≤ 140737488351232)
    (h0 : w.cell? ⟨q, 0, none⟩ = some (.slice a1 n1 c1)) (h1 : w.cell? ⟨q, 1, none⟩ = some (.slice a2 n2 c2)) (r1 : Rd .u8 w b1 a1 n1 f1) (r2 : Rd .u8 w b2 a2 n2 f2) :
    Calls Try.prog 88 #[.slice (some ⟨q, 0, none⟩) 2 2] w fun e w' => e = .returned (.slice (some ⟨w.heap.size, 0, none⟩) N N) ∧ Below w.heap.size w w' ∧ Own .u8 w' w.heap.size w.heap.size (some ⟨w.heap.size, 0, none⟩) N (cat n1 f1 f2) := by
  obtain ⟨i0, hi, hz0, hz1, hz2⟩ := info_parts Try.infoU8
  have HN : Hid (N = n1 + n2) := hN
  have hl1 : n1 ≤ N := by omega
  have hl2 : n2 ≤ N := by omega
  clear hN
  go_enter Try.func88, Try.ntmps88
  go_wp2
  go_loop [3, 12] (fun t i => (i = .int .i64 0 ∧ t = .int .i64 0) ∨ (i = .int .i64 1 ∧ t = .int .i64 n1) ∨ (i = .int .i64 2 ∧ t = .int .i64 N)) (fun _ i => 2 - (intOf i).toNat)
  case atStart => exact .inl ⟨rfl, rfl⟩
  case round =>
    rcases hrel with ⟨rfl, rfl⟩ | ⟨rfl, rfl⟩ | ⟨rfl, rfl⟩
    · go_wp2
      go_round
      case rel => exact .inr (.inl ⟨rfl, by go_num⟩)
      case measure => simp [intOf]
    · go_wp2
      go_round
      case rel => exact .inr (.inr ⟨rfl, by have := HN.out; go_num⟩)
      case measure => simp [intOf]
    · go_wp2_with (at_make; refine wpList_make_full _ rfl _ _ 22 rfl w.heap.size 5 i0 (.int .u8 0) 1 Try.underlying22 hi hz0 hz1 _ _ _ _ N rfl rfl rfl rfl (by rw [hz2]; omega) (by unfold maxLen; omega) (Nat.le_refl _) ?_)
      intro w1 hown hgr
      rw [made_vals] at hown
      have hrow := row_made hown
      have HR : Hid (w1.heap[w.heap.size]? = some (.cells (vals .u8 N (fun _ => 0)).toArray 5 (0, 0))) := hrow
      have hb1 : Below w.heap.size w w1 := (Below.refl _ _).grown hgr (Nat.le_refl _) (by simp)
      clear hown hgr hrow
      go_wp2
      go_loopw [7, 25] (fun t i wr => Below w.heap.size w wr ∧ ((i = .int .i64 0 ∧ t = .int .i64 0 ∧ Hid (wr.heap[w.heap.size]? = some (.cells (vals .u8 N (fun _ => 0)).toArray 5 (0, 0)))) ∨
        (i = .int .i64 1 ∧ t = .int .i64 n1 ∧ Hid (wr.heap[w.heap.size]? = some (.cells (vals .u8 N (spl (fun _ => 0) 0 n1 f1)).toArray 5 (0, 0)))) ∨
        (i = .int .i64 2 ∧ t = .int .i64 N ∧ Hid (wr.heap[w.heap.size]? = some (.cells (vals .u8 N (spl (spl (fun _ => 0) 0 n1 f1) n1 n2 f2)).toArray 5 (0, 0)))))) (fun _ i _ => 2 - (intOf i).toNat)
      case atStart => exact ⟨hb1, .inl ⟨rfl, rfl, HR⟩⟩
      case round =>
        obtain ⟨hb, hrel⟩ := hrel
        have g0 := (hb.cell (p := ⟨q, 0, none⟩) hq).trans h0
        have g1 := (hb.cell (p := ⟨q, 1, none⟩) hq).trans h1
        rcases hrel with ⟨rfl, rfl, hr⟩ | ⟨rfl, rfl, hr⟩ | ⟨rfl, rfl, hr⟩
        · have hsrc := (r1.grew hb).src
          go_wp2_with (refine wpList_copy_splice rfl (.tmp 32) (.tmp 33) 22 22 rfl 5 Try.underlying22 sizeU8 _ _ _ _ _ _ rfl rfl w.heap.size 0 (vals .u8 N (fun _ => 0)) 5 hr.out (vals .u8 n1 f1) ?_ ?_ ?_ (vals_one _ _ _) w.heap.size w hb (Nat.le_refl _) ?_)
          · rw [vals_len]; exact (Nat.min_eq_left (by omega)).symm
          · rw [vals_len]; exact fun h => hsrc h
          · rw [vals_len, vals_len]; omega
          intro w2 hr2 hb2
          rw [vals_spl _ _ _ _ _ _ (by omega)] at hr2
          rw [vals_len]
          clear hsrc hr hb g0 g1 HR hb1
          go_wp2
          go_roundw
          case rel => exact ⟨hb2, .inr (.inl ⟨rfl, by go_num, hr2⟩)⟩
          case measure => simp [intOf]
        · have hsrc := (r2.grew hb).src
          rcases Nat.eq_zero_or_pos n2 with hn2 | hn2
          · subst hn2
            obtain rfl : N = n1 := by have := HN.out; omega
            go_wp2_with (refine wpList_copy_splice rfl (.tmp 32) (.tmp 33) 22 22 rfl 5 Try.underlying22 sizeU8 _ _ _ _ _ _ rfl rfl w.heap.size N (vals .u8 N (spl (fun _ => 0) 0 N f1)) 5 hr.out (vals .u8 0 f2) ?_ ?_ ?_ (vals_one _ _ _) w.heap.size w hb (Nat.le_refl _) ?_)
            · rw [vals_len]; rfl
            · rw [vals_len]; intro h; omega
            · rw [vals_len, vals_len]; omega
            intro w2 hr2 hb2
            rw [vals_spl _ _ _ _ _ _ (by omega)] at hr2
            rw [vals_len]
            clear hsrc hr hb g0 g1 HR hb1
            go_wp2
            go_roundw
            case rel => exact ⟨hb2, .inr (.inr ⟨rfl, by go_num, hr2⟩)⟩
            case measure => simp [intOf]
          · have hlt : n1 < N := by have := HN.out; omega
            have hsub : N - n1 = n2 := by have := HN.out; omega
            have HS : Hid (N - n1 = n2) := hsub
            clear hsub
            go_wp2_with (refine wpList_copy_splice rfl (.tmp 32) (.tmp 33) 22 22 rfl 5 Try.underlying22 sizeU8 _ _ _ _ _ _ rfl rfl w.heap.size n1 (vals .u8 N (spl (fun _ => 0) 0 n1 f1)) 5 hr.out (vals .u8 n2 f2) ?_ ?_ ?_ (vals_one _ _ _) w.heap.size w hb (Nat.le_refl _) ?_)
            · rw [vals_len, HS.out]; exact (Nat.min_self _).symm
            · rw [vals_len, vals_len]; have := HN.out; omega
            intro w2 hr2 hb2
            rw [vals_spl _ _ _ _ _ _ (by have := HN.out; omega)] at hr2
            rw [vals_len]
            clear hsrc hr hb g0 g1 HR hb1
            go_wp2
            go_roundw
            case rel => exact ⟨hb2, .inr (.inr ⟨rfl, by have := HN.out; go_num, hr2⟩)⟩
            case measure => simp [intOf]
        · go_wp2
          go_ret
          exact ⟨rfl, hb, (own_row hr.out (Nat.le_refl _)).congr (by rw [HN.out]; exact spl_two n1 n2 f1 f2 _)⟩
theorem below_new (w : World) (o : Obj) : Below w.heap.size w (w.alloc o) := (Below.refl _ _).alloc (Nat.le_refl _) _
set_option maxHeartbeats 400000 in
theorem implPutNum_cap (n : Int) (a : Option Addr) (b m c : Nat) (f : Nat → Int) (w : World) (hm : m ≤ 140737488351220) (h : Rd .u8 w b a m f) :
    Calls Try.prog 105 #[.slice a m c, .int .i64 n] w fun e w' => ∃ g cap, e = .returned (.slice (some ⟨g, 0, none⟩) (m + 4) cap) ∧ m + 4 ≤ cap ∧ Below w.heap.size w w' ∧ Own .u8 w' w.heap.size g (some ⟨g, 0, none⟩) (m + 4) (cat m f (enc n)) := by
  go_enter Try.func105, Try.ntmps105
  go_wp2_with fail
  refine (numBytes_any _ _).mono ?_
  rintro e w1 ⟨rfl, hw⟩
  have hb1 : Below w.heap.size w w1 := by rw [hw]; exact below_new _ _
  have r1 : Rd .u8 w1 w.heap.size (some ⟨w.heap.size, 0, none⟩) 4 (enc n) := by rw [hw]; exact rd_row (heap_alloc_new w _)
  have hs1 : w.heap.size < w1.heap.size := by rw [hw]; simp
  clear hw
  obtain ⟨w2, hw2⟩ : ∃ w2, w2 = w1.alloc (.cells #[.slice a m c, .slice (some ⟨w.heap.size, 0, none⟩) 4 4] 22) := ⟨_, rfl⟩
  have hb2 : Below w1.heap.size w1 w2 := by rw [hw2]; exact below_new _ _
  have q0 : w2.cell? ⟨w1.heap.size, 0, none⟩ = some (.slice a m c) := by rw [hw2]; simp
  have q1 : w2.cell? ⟨w1.heap.size, 1, none⟩ = some (.slice (some ⟨w.heap.size, 0, none⟩) 4 4) := by rw [hw2]; simp
  have hs2 : w1.heap.size < w2.heap.size := by rw [hw2]; simp
  have HW : Hid (w2 = _) := hw2
  clear hw2
  have hbs := below_app hb1 hb2 hb1.size
  have ra := (h.grew hb1).grew hb2
  have rb := r1.grew hb2
  go_wp2_with fail
  rw [← HW.out]
  clear HW
  refine (joined2_any w1.heap.size a _ b w.heap.size m 4 (m + 4) c 4 f (enc n) w2 (by omega) rfl (by omega) q0 q1 ra rb).mono ?_
  rintro e w3 ⟨rfl, hb3, ho⟩
  clear q0 q1 ra rb hb1 r1 h hb2
  go_wp2
  go_ret
  exact ⟨_, _, rfl, Nat.le_refl _, below_app hbs hb3 hbs.size, ⟨by omega, ho.2⟩⟩
theorem implPutNum_any (n : Int) (a : Option Addr) (b m c : Nat) (f : Nat → Int) (w : World) (hm : m ≤ 140737488351220) (h : Rd .u8 w b a m f) :
    Calls Try.prog 105 #[.slice a m c, .int .i64 n] w fun e w' => ∃ g cap, e = .returned (.slice (some ⟨g, 0, none⟩) (m + 4) cap) ∧ Below w.heap.size w w' ∧ Own .u8 w' w.heap.size g (some ⟨g, 0, none⟩) (m + 4) (cat m f (enc n)) :=
  (implPutNum_cap n a b m c f w hm h).mono (by rintro e w' ⟨g, cap, h1, _, h2, h3⟩; exact ⟨g, cap, h1, h2, h3⟩)
end Go.Proofs.Ytnlnledijpcjpab
namespace Go.Proofs.Ytnlnledijpcjpab
open Go.ChangeShapes Go.WideShapes Go.ChangeAt Go.RowKit
set_option maxRecDepth 100000

/-- the number of the first k bytes from place i on -/
def part (f : Nat → Int) (i : Nat) : Nat → Int
  | 0 => 0
  | k + 1 => part f i k * 256 + f (i + k)
def U8 (n : Nat) (f : Nat → Int) : Prop := ∀ i, i < n → 0 ≤ f i ∧ f i ≤ 255
theorem part_bd {f : Nat → Int} {n i : Nat} (hu : U8 n f) : ∀ k, i + k ≤ n → 0 ≤ part f i k ∧ part f i k < 256 ^ k
  | 0, _ => by simp [part]
  | k + 1, h => by
    have ih := part_bd (i := i) hu k (by omega)
    have hf := hu (i + k) (by omega)
    have e : (256 : Int) ^ (k + 1) = 256 ^ k * 256 := Int.pow_succ _ _
    simp only [part]
    rw [e]
    omega
theorem part_bd3 {f : Nat → Int} {n i k : Nat} (hu : U8 n f) (h : i + k ≤ n) (hk : k < 4) : 0 ≤ part f i k ∧ part f i k ≤ 16777215 := by
  have h1 := part_bd hu k h
  have h2 : (256 : Int) ^ k ≤ 16777216 := by
    have : k = 0 ∨ k = 1 ∨ k = 2 ∨ k = 3 := by omega
    rcases this with rfl | rfl | rfl | rfl <;> decide
  omega
theorem part_bd4 {f : Nat → Int} {n i : Nat} (hu : U8 n f) (h : i + 4 ≤ n) : 0 ≤ part f i 4 ∧ part f i 4 ≤ 4294967295 := by
  have h1 := part_bd hu 4 h
  have h2 : (256 : Int) ^ 4 = 4294967296 := by decide
  omega
def num4 (f : Nat → Int) (i : Nat) : Int := part f i 4
def gok (n : Nat) (f : Nat → Int) (at' : Int) : Bool := decide (0 ≤ at' ∧ at' ≤ (n : Int) - 4) && (num4 f at'.toNat != 0)
def gnum (n : Nat) (f : Nat → Int) (at' : Int) : Int := if gok n f at' = true then num4 f at'.toNat - 2147483648 else 0
def gnext (n : Nat) (f : Nat → Int) (at' : Int) : Int := if gok n f at' = true then at' + 4 else 0
theorem gok_out {n : Nat} {f : Nat → Int} {at' : Int} (h : ¬ (0 ≤ at' ∧ at' ≤ (n : Int) - 4)) : gok n f at' = false := by simp only [gok, h]; simp
theorem gok_in {n : Nat} {f : Nat → Int} {at' : Int} (h : 0 ≤ at' ∧ at' ≤ (n : Int) - 4) : gok n f at' = (num4 f at'.toNat != 0) := by simp [gok, h]
theorem ret3 {a b c d : Int} {x y : Bool} (h : a = b) (h' : c = d) (h2 : x = y) : Ending.returned (.tuple #[.int .i64 a, .int .i64 c, .bool x]) = .returned (.tuple #[.int .i64 b, .int .i64 d, .bool y]) := by rw [h, h', h2]
theorem gnext_ok' {n : Nat} {f : Nat → Int} {at' : Int} (h : gok n f at' = true) : gnext n f at' = at' + 4 := by unfold gnext; rw [if_pos h]
theorem get_bad {n : Nat} {f : Nat → Int} {at' : Int} (h : gok n f at' = false) : Ending.returned (.tuple #[.int .i64 0, .int .i64 0, .bool false]) = .returned (.tuple #[.int .i64 (gnum n f at'), .int .i64 (gnext n f at'), .bool (gok n f at')]) :=
  ret3 (by simp [gnum, h]) (by simp [gnext, h]) h.symm
theorem get_good {n : Nat} {f : Nat → Int} {at' : Int} (h : gok n f at' = true) : Ending.returned (.tuple #[.int .i64 (num4 f at'.toNat - 2147483648), .int .i64 (at' + 4), .bool true]) = .returned (.tuple #[.int .i64 (gnum n f at'), .int .i64 (gnext n f at'), .bool (gok n f at')]) :=
  ret3 (by simp [gnum, h]) (by simp [gnext, h]) h.symm
theorem get_good' {n i : Nat} {f : Nat → Int} (h : gok n f (i : Int) = true) : Ending.returned (.tuple #[.int .i64 (part f i 4 - 2147483648), .int .i64 ((i : Int) + 4), .bool true]) = .returned (.tuple #[.int .i64 (gnum n f i), .int .i64 (gnext n f i), .bool (gok n f i)]) :=
  ret3 (by unfold gnum; rw [if_pos h, Int.toNat_natCast]; rfl) (by unfold gnext; rw [if_pos h]) h.symm

set_option maxHeartbeats 400000 in
theorem specGetNum_any (a : Option Addr) (b n c : Nat) (at' : Int) (f : Nat → Int) (w : World) (hn : n ≤ 140737488351232) (hu : U8 n f) (h : Rd .u8 w b a n f) :
    Calls Try.prog 133 #[.slice a n c, .int .i64 at'] w fun e w' => e = .returned (.tuple #[.int .i64 (gnum n f at'), .int .i64 (gnext n f at'), .bool (gok n f at')]) ∧ Below w.heap.size w w' := by
  by_cases hr : 0 ≤ at' ∧ at' ≤ (n : Int) - 4
  · have hok := gok_in (f := f) hr
    obtain ⟨h1, h2⟩ := hr
    obtain ⟨i, rfl⟩ := Int.eq_ofNat_of_zero_le h1
    rw [Int.toNat_natCast] at hok
    have HO : Hid (gok n f (i : Int) = (num4 f i != 0)) := hok
    clear hok
    rcases h with h | ⟨off, rfl, h⟩
    · omega
    go_enter Try.func133, Try.ntmps133
    go_wp2
    go_loopw [7, 8] (fun m j wr => ∃ k : Nat, k ≤ 4 ∧ j = .int .i64 k ∧ m = .int .i64 (part f i k) ∧ Below w.heap.size w wr) (fun _ j _ => 4 - (intOf j).toNat)
    case atStart => exact ⟨0, by omega, rfl, rfl, Below.refl _ _⟩
    case round =>
      obtain ⟨k, hk, rfl, rfl, hb⟩ := hrel
      by_cases hlt : k < 4
      · obtain ⟨p1, p2⟩ := part_bd3 hu (show i + k ≤ n by omega) hlt
        obtain ⟨q1, q2⟩ := hu (i + k) (by omega)
        have hc := h (i + k) (by omega)
        have hc' := (hb.cell (p := ⟨b, off + (i + k), none⟩) (World.block_lt_of_cell? w _ hc)).trans hc
        clear hc h
        go_wp2
        go_roundw
        case rel => exact ⟨k + 1, by omega, by go_num, rfl, hb⟩
        case measure => simp [intOf]; omega
      · obtain rfl : k = 4 := by omega
        obtain ⟨p1, p2⟩ := part_bd4 hu (show i + 4 ≤ n by omega)
        by_cases e : part f i 4 = 0
        · have e1 : (part f i 4 == 0) = true := by simpa using e
          have hg : gok n f (i : Int) = false := by rw [HO.out]; show (part f i 4 != 0) = false; simpa using e
          have HG : Hid (gok n f (i : Int) = false) := hg
          clear hg e h
          go_wp2
          go_ret3
          exact ⟨get_bad HG.out, hb⟩
        · have e1 : (part f i 4 == 0) = false := by simpa using e
          have hg : gok n f (i : Int) = true := by rw [HO.out]; show (part f i 4 != 0) = true; simpa using e
          have HG : Hid (gok n f (i : Int) = true) := hg
          clear hg e h
          go_wp2
          go_ret3
          exact ⟨get_good' HG.out, hb⟩
  · have hok := gok_out (f := f) hr
    have HO : Hid (gok n f at' = false) := hok
    clear hok
    go_enter Try.func133, Try.ntmps133
    by_cases h0 : at' < 0
    · go_wp2
      go_ret3
      exact ⟨get_bad HO.out, Below.refl _ _⟩
    · have h1 : (n : Int) - 4 < at' := by omega
      go_wp2
      go_ret3
      exact ⟨get_bad HO.out, Below.refl _ _⟩
/-- what cut answers -/
def CutPost (w : World) (b n : Nat) (f : Nat → Int) (at' size : Int) (e : Ending) : Prop :=
  (¬ (0 ≤ at' ∧ size ≤ n - at') ∧ e = .returned (.tuple #[.slice none 0 0, .bool false])) ∨
  ∃ i m : Nat, at' = i ∧ size = m ∧ i + m ≤ n ∧ ∃ a', e = .returned (.tuple #[.slice a' m m, .bool true]) ∧ Rd .u8 w b a' m (fun j => f (i + j))
theorem Rd.part {k : IntKind} {w : World} {b : Nat} {a : Option Addr} {n : Nat} {f : Nat → Int} (h : Rd k w b a n f) {i m : Nat} (hm : 0 < m) (h2 : i + m ≤ n) : Rd k w b (a.map (fun x => x.add i)) m (fun j => f (i + j)) := by
  rcases h with h | ⟨off, rfl, h⟩
  · omega
  · refine .inr ⟨off + i, ?_, fun j hj => ?_⟩
    · show some ((⟨b, off, none⟩ : Addr).add i) = _
      congr 1
      unfold Addr.add; split <;> simp_all
    · have := h (i + j) (by omega)
      rw [Nat.add_assoc]; exact this
set_option maxHeartbeats 400000 in
theorem cut_any (a : Option Addr) (b n c : Nat) (at' size : Int) (f : Nat → Int) (w : World) (hn : n ≤ 140737488351232) (hc : n ≤ c) (hs : 0 ≤ size) (hs1 : size ≤ 140737488351232) (ha : -9223372036854775808 ≤ at' ∧ at' ≤ 9223372036854775807) (h : Rd .u8 w b a n f) :
    Calls Try.prog 130 #[.slice a n c, .int .i64 at', .int .i64 size] w fun e w' => w' = w ∧ CutPost w b n f at' size e := by
  obtain ⟨ha1, ha2⟩ := ha
  by_cases h0 : at' < 0
  · go_enter Try.func130, Try.ntmps130
    go_wp2
    go_ret2
    exact ⟨rfl, .inl ⟨by omega, rfl⟩⟩
  · by_cases h1 : (n : Int) - at' < size
    · go_enter Try.func130, Try.ntmps130
      go_wp2
      go_ret2
      exact ⟨rfl, .inl ⟨by omega, rfl⟩⟩
    · obtain ⟨i, rfl⟩ := Int.eq_ofNat_of_zero_le (show 0 ≤ at' by omega)
      obtain ⟨m, rfl⟩ := Int.eq_ofNat_of_zero_le hs
      have hle : i + m ≤ n := by omega
      rcases Nat.eq_zero_or_pos m with rfl | hm
      · go_enter Try.func130, Try.ntmps130
        go_wp2
        go_ret2
        exact ⟨rfl, .inr ⟨i, 0, rfl, rfl, hle, _, rfl, .inl rfl⟩⟩
      · go_enter Try.func130, Try.ntmps130
        have hp := h.part hm hle
        go_wp2
        go_ret2
        exact ⟨rfl, .inr ⟨i, m, rfl, rfl, hle, _, rfl, hp⟩⟩
theorem or_low (x c : Int) (h0 : 0 ≤ x) (h1 : x ≤ 16777215) (h2 : 0 ≤ c) (h3 : c ≤ 255) : bits .or .i64 (x * 256) c = x * 256 + c := by
  obtain ⟨m, rfl⟩ := Int.eq_ofNat_of_zero_le h0
  obtain ⟨d, rfl⟩ := Int.eq_ofNat_of_zero_le h2
  have e : bits .or .i64 ((m : Int) * 256) (d : Int) = IntKind.i64.wrap ((BitVec.ofInt 64 ((m : Int) * 256) ||| BitVec.ofInt 64 (d : Int)).toNat : Int) := rfl
  have e1 : ((m : Int) * 256) = ((m * 256 : Nat) : Int) := by omega
  have h4 : (BitVec.ofInt 64 ((m : Int) * 256) ||| BitVec.ofInt 64 (d : Int)).toNat = m * 256 + d := by
    rw [e1, BitVec.toNat_or, BitVec.ofInt_natCast, BitVec.ofInt_natCast, BitVec.toNat_ofNat, BitVec.toNat_ofNat, Nat.mod_eq_of_lt (by omega), Nat.mod_eq_of_lt (by omega)]
    have := Nat.shiftLeft_add_eq_or_of_lt (i := 8) (b := d) (by omega) m
    rw [Nat.shiftLeft_eq] at this
    exact this.symm
  rw [e, h4, IntWalk.i64_in _ (by omega)]
  omega
set_option maxHeartbeats 400000 in
theorem implGetNum_any (a : Option Addr) (b n c : Nat) (at' : Int) (f : Nat → Int) (w : World) (hn : n ≤ 140737488351232) (hcap : n ≤ c) (ha : -9223372036854775808 ≤ at' ∧ at' ≤ 9223372036854775807) (hu : U8 n f) (h : Rd .u8 w b a n f) :
    Calls Try.prog 91 #[.slice a n c, .int .i64 at'] w fun e w' => e = .returned (.tuple #[.int .i64 (gnum n f at'), .int .i64 (gnext n f at'), .bool (gok n f at')]) ∧ Below w.heap.size w w' := by
  go_enter Try.func91, Try.ntmps91
  go_wp2_with fail
  refine (cut_any a b n c at' 4 f w hn hcap (by omega) (by omega) ha h).mono ?_
  rintro e w' ⟨rfl, ⟨hne, rfl⟩ | ⟨i, m, rfl, hm, hle, a', rfl, hrd⟩⟩
  · have HO : Hid (gok n f at' = false) := gok_out (f := f) (by omega)
    clear h hne
    go_wp2
    go_ret3
    exact ⟨get_bad HO.out, Below.refl _ _⟩
  · obtain rfl : m = 4 := by omega
    have hok := gok_in (n := n) (f := f) (at' := (i : Int)) (by omega)
    rw [Int.toNat_natCast] at hok
    have HO : Hid (gok n f (i : Int) = (num4 f i != 0)) := hok
    clear hok hm h
    rcases hrd with hrd | ⟨off, rfl, hrd⟩
    · omega
    go_wp2
    go_loop [9, 22] (fun x j => ∃ k : Nat, k ≤ 4 ∧ j = .int .i64 k ∧ x = .int .i64 (part f i k)) (fun _ j => 4 - (intOf j).toNat)
    case atStart => exact ⟨0, by omega, rfl, rfl⟩
    case round =>
      obtain ⟨k, hk, rfl, rfl⟩ := hrel
      by_cases hlt : k < 4
      · obtain ⟨p1, p2⟩ := part_bd3 hu (show i + k ≤ n by omega) hlt
        obtain ⟨q1, q2⟩ := hu (i + k) (by omega)
        have hc' := hrd k hlt
        clear hrd
        go_wp2
        go_round
        case rel => exact ⟨k + 1, by omega, by go_num, by rw [or_low _ _ p1 p2 q1 q2]; rfl⟩
        case measure => simp [intOf]; omega
      · obtain rfl : k = 4 := by omega
        obtain ⟨p1, p2⟩ := part_bd4 hu (show i + 4 ≤ n by omega)
        by_cases e : part f i 4 = 0
        · have e1 : (part f i 4 == 0) = true := by simpa using e
          have hg : gok n f (i : Int) = false := by rw [HO.out]; show (part f i 4 != 0) = false; simpa using e
          have HG : Hid (gok n f (i : Int) = false) := hg
          clear hg e
          go_wp2
          go_ret3
          exact ⟨get_bad HG.out, Below.refl _ _⟩
        · have e1 : (part f i 4 == 0) = false := by simpa using e
          have hg : gok n f (i : Int) = true := by rw [HO.out]; show (part f i 4 != 0) = true; simpa using e
          have HG : Hid (gok n f (i : Int) = true) := hg
          clear hg e
          go_wp2
          go_ret3
          exact ⟨get_good' HG.out, Below.refl _ _⟩
end Go.Proofs.Ytnlnledijpcjpab
