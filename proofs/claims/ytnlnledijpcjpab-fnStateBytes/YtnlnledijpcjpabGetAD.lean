/-
  Chapter 5: numbers read from a place on, however many: the specification's l4Nums. Chapter 5: the program's getNums. Chapter 5: the program's getPieces. Chapter 5: the program's getSides. Own work.
-/
import Derived.Test.YtnlnledijpcjpabPiece5
import Derived.Test.YtnlnledijpcjpabBytesA
import Derived.Test.YtnlnledijpcjpabPieceI5
import Derived.Test.YtnlnledijpcjpabStAt
import Derived.Test.YtnlnledijpcjpabStMark
import Derived.Deep.RegionHeld
namespace Go.Proofs.Ytnlnledijpcjpab
open Go.ChangeShapes Go.WideShapes Go.ChangeAt Go.RowKit
set_option maxRecDepth 100000
set_option linter.unusedVariables false
/-- whether K numbers are there -/
def gnOkK (K n : Nat) (f : Nat → Int) (at' : Int) : Bool := (List.range K).all (fun j => gok n f (at' + 4 * (j : Int)))
theorem gnOkK_no {K n : Nat} {f : Nat → Int} {at' : Int} {k : Nat} (hk : k < K) (h : gok n f (at' + 4 * (k : Int)) = false) : gnOkK K n f at' = false := by
  unfold gnOkK
  rw [List.all_eq_false]
  exact ⟨k, List.mem_range.2 hk, by simp [h]⟩
theorem gnOkK_yes {K n : Nat} {f : Nat → Int} {at' : Int} (h : ∀ k : Nat, k < K → gok n f (at' + 4 * (k : Int)) = true) : gnOkK K n f at' = true := by
  unfold gnOkK
  rw [List.all_eq_true]
  exact fun k hk => h k (List.mem_range.1 hk)
def NumsPostK (K n : Nat) (f : Nat → Int) (at' : Int) (w : World) (e : Ending) (w' : World) : Prop :=
  Below w.heap.size w w' ∧ ((gnOkK K n f at' = true ∧ ∃ q cap, e = .returned (.tuple #[.slice (some ⟨q, 0, none⟩) K cap, .int .i64 (at' + 4 * (K : Int)), .bool true]) ∧ Own .i64 w' w.heap.size q (some ⟨q, 0, none⟩) K (gnL n f at')) ∨
    (gnOkK K n f at' = false ∧ ∃ q N cap, e = .returned (.tuple #[.slice (some ⟨q, 0, none⟩) N cap, .int .i64 0, .bool false])))
set_option maxHeartbeats 2000000 in
theorem l4NumsK_any (K : Nat) (hK : K ≤ 1000) (a : Option Addr) (b n c : Nat) (at' : Int) (f : Nat → Int) (w : World) (hn : n ≤ 100000000) (hu : U8 n f) (h : Rd .u8 w b a n f) :
    Calls Try.prog 95 #[.slice a n c, .int .i64 at', .int .i64 K] w fun e w' => NumsPostK K n f at' w e w' := by
  obtain ⟨i0, hi, hz0, hz1, hz2⟩ := info_parts Try.infoInt
  go_enter Try.func95, Try.ntmps95
  go_wp2
  go_loopw [9, 10, 11] (fun v x i wr => ∃ k : Nat, k ≤ K ∧ i = .int .i64 k ∧ x = .int .i64 (at' + 4 * (k : Int)) ∧ wr.ownsRow w.heap.size 3 1 v k (vals .i64 k (gnL n f at')) ∧ v ≠ .slice none 0 0 ∧ Below w.heap.size w wr ∧ Hid (∀ j, j < k → gok n f (at' + 4 * (j : Int)) = true)) (fun _ _ i _ => K - (intOf i).toNat)
  case atStart => exact ⟨0, Nat.zero_le _, rfl, by simp, World.ownsRow_lit w #[] 0 (Nat.le_refl _) (by decide) rfl, by simp, (Below.refl _ _).alloc (Nat.le_refl _) _, fun j hj => by omega⟩
  case round =>
    obtain ⟨k, hk, rfl, rfl, hown, hnil, hb, hall⟩ := hrel
    by_cases hlt : k < K
    · obtain ⟨y, hy⟩ : ∃ y, at' + 4 * (k : Int) = y := ⟨_, rfl⟩
      rw [hy]
      cases hg : gok n f y with
      | false =>
        have HN : Hid (gnOkK K n f at' = false) := gnOkK_no hlt (by rw [hy]; exact hg)
        go_wp2_with fail
        refine (specGetNum_any a b n c y f _ (by omega) hu (h.grew hb)).mono ?_
        rintro e w1 ⟨rfl, hb1⟩
        rw [hg]
        obtain ⟨q, cap, rfl, ho⟩ := own_of hown hnil
        clear hall hown hnil
        go_wp2
        go_ret3
        exact ⟨below_app hb hb1 hb.size, .inr ⟨HN.out, q, k, cap, rfl⟩⟩
      | true =>
        have hrg := gok_rng' hg
        have hnx := gnext_ok' hg
        have HA : Hid (∀ j, j < k + 1 → gok n f (at' + 4 * (j : Int)) = true) := fun j hj => by
          by_cases e : j = k
          · subst e; rw [hy]; exact hg
          · exact hall j (by omega)
        have HV : Hid (vals .i64 (k + 1) (gnL n f at') = vals .i64 k (gnL n f at') ++ [.int .i64 (gnum n f y)]) := show _ = _ by rw [vals_one_snoc']; unfold gnL; rw [hy]
        have HY : Hid (y + 4 = at' + 4 * ((k + 1 : Nat) : Int)) := show _ = _ by rw [← hy]; push_cast; omega
        clear hall hy
        go_wp2_with fail
        refine (specGetNum_any a b n c y f _ (by omega) hu (h.grew hb)).mono ?_
        rintro e w1 ⟨rfl, hb1⟩
        rw [hg, hnx]
        have hb2 := below_app hb hb1 hb.size
        have hown1 : w1.ownsRow w.heap.size 3 1 _ k (vals .i64 k (gnL n f at')) := row_grew' hown hb1
        clear hg hnx hown hb hb1
        go_wp2_with (at_builtin; refine wpList_append_own _ rfl (.tmp 32) (.tmp 34) 24 rfl w.heap.size 3 i0 (.int .i64 0) 1 8 Try.underlying24 hi hz0 hz1 hz2 rfl (by decide) _ _ _ rfl (hown1.alloc _) ⟨w1.heap.size, 0, none⟩ 1 1 [_] rfl rfl (cells_new _ [_] _) (by intro u hu; simp at hu; subst hu; rfl) (by unfold maxLen; omega) (by omega) (by have := hb2.size; simp; omega) ?_)
        intro v4 w4 hown4 hgr4 hnil4
        have hb4 : Below w.heap.size w w4 := (hb2.alloc hb2.size _).grown hgr4 (by have := hb2.size; simp; omega) (fun k hk => (hown1.lt k hk).1)
        have hown5 : w4.ownsRow w.heap.size 3 1 v4 (k + 1) (vals .i64 (k + 1) (gnL n f at')) := by rw [HV.out]; exact hown4
        have hnil5 : v4 ≠ .slice none 0 0 := hnil4
        clear hown4 hgr4 hnil4 hown1 hnil hb2 HV
        go_wp2
        go_roundw
        case rel => first | exact ⟨k + 1, by omega, by go_num, by rw [HY.out], hown5, hnil5, hb4, HA⟩ | ((repeat apply Exists.intro); exact ⟨⟨k + 1, by omega, by go_num, by rw [HY.out], hown5, hnil5, hb4, HA⟩, rfl⟩)
        case measure => simp [intOf]; omega
    · obtain rfl : k = K := by omega
      have HN : Hid (gnOkK k n f at' = true) := gnOkK_yes hall.out
      obtain ⟨q, cap, rfl, ho⟩ := own_of hown hnil
      clear hall hown hnil
      go_wp2
      go_ret3
      exact ⟨hb, .inl ⟨HN.out, q, cap, rfl, ho⟩⟩
end Go.Proofs.Ytnlnledijpcjpab
namespace Go.Proofs.Ytnlnledijpcjpab
open Go.ChangeShapes Go.WideShapes Go.ChangeAt Go.RowKit
set_option maxRecDepth 100000
set_option linter.unusedVariables false
def NumsPostI (K n : Nat) (f : Nat → Int) (at' : Int) (w : World) (e : Ending) (w' : World) : Prop :=
  Below w.heap.size w w' ∧ ((gnOkK K n f at' = true ∧ ∃ q, e = .returned (.tuple #[.slice (some ⟨q, 0, none⟩) K K, .int .i64 (at' + 4 * (K : Int)), .bool true]) ∧ Own .i64 w' w.heap.size q (some ⟨q, 0, none⟩) K (gnL n f at')) ∨
    (gnOkK K n f at' = false ∧ e = .returned (.tuple #[.slice none 0 0, .int .i64 0, .bool false])))
set_option maxHeartbeats 2000000 in
theorem getNums_any (K : Nat) (hK : K ≤ 1000) (a : Option Addr) (b n c : Nat) (at' : Int) (f : Nat → Int) (w : World) (hn : n ≤ 100000000) (hcap : n ≤ c) (ha : -9223372036854775808 ≤ at' ∧ at' ≤ 9223372036854775807) (hu : U8 n f) (h : Rd .u8 w b a n f) :
    Calls Try.prog 110 #[.slice a n c, .int .i64 at', .int .i64 K] w fun e w' => NumsPostI K n f at' w e w' := by
  obtain ⟨i0, hi, hz0, hz1, hz2⟩ := info_parts Try.infoInt
  go_enter Try.func110, Try.ntmps110
  go_wp2_with (at_make; refine wpList_make_full _ rfl _ _ 24 rfl w.heap.size 3 i0 _ 1 Try.underlying24 hi hz0 hz1 _ _ _ _ K rfl rfl rfl rfl (by rw [hz2]; omega) (by unfold maxLen; omega) (Nat.le_refl _) ?_)
  intro w1 hown hgr
  have hown' : w1.ownsRow w.heap.size 3 1 (.slice (some ⟨w.heap.size, 0, none⟩) K K) K (vals .i64 K (fun _ => 0)) := by rw [← made_vals]; simpa using hown
  have hb1 : Below w.heap.size w w1 := (Below.refl _ _).grown hgr (Nat.le_refl _) (by simp)
  have ho : Own .i64 w1 w.heap.size w.heap.size (some ⟨w.heap.size, 0, none⟩) K (til 0 (gnL n f at') (fun _ => 0)) := by rw [til_zero]; exact own_row (row_made hown') (Nat.le_refl _)
  clear hown hown' hgr
  go_wp2
  go_loopw [1, 18] (fun x i wr => ∃ k : Nat, k ≤ K ∧ i = .int .i64 k ∧ x = .int .i64 (at' + 4 * (k : Int)) ∧ Below w.heap.size w wr ∧ Own .i64 wr w.heap.size w.heap.size (some ⟨w.heap.size, 0, none⟩) K (til k (gnL n f at') (fun _ => 0)) ∧ Hid (∀ j, j < k → gok n f (at' + 4 * (j : Int)) = true)) (fun _ i _ => K - (intOf i).toNat)
  case atStart => exact ⟨0, Nat.zero_le _, rfl, by simp, hb1, ho, fun j hj => by omega⟩
  case round =>
    clear hb1 ho
    obtain ⟨k, hk, rfl, rfl, hb, ho, hall⟩ := hrel
    by_cases hlt : k < K
    · obtain ⟨y, hy⟩ : ∃ y, at' + 4 * (k : Int) = y := ⟨_, rfl⟩
      have hyr : -9223372036854775808 ≤ y ∧ y ≤ 9223372036854775807 := by
        by_cases h0 : k = 0
        · subst h0; omega
        · have := gok_rng' (hall.out (k - 1) (by omega))
          omega
      rw [hy]
      cases hg : gok n f y with
      | false =>
        have HN : Hid (gnOkK K n f at' = false) := gnOkK_no hlt (by rw [hy]; exact hg)
        go_wp2_with fail
        refine (implGetNum_any a b n c y f _ (by omega) hcap hyr hu (h.grew hb)).mono ?_
        rintro e w2 ⟨rfl, hb2⟩
        rw [hg]
        clear hall
        go_wp2
        go_ret3
        exact ⟨below_app hb hb2 hb.size, .inr ⟨HN.out, rfl⟩⟩
      | true =>
        have hrg := gok_rng' hg
        have hnx := gnext_ok' hg
        have HA : Hid (∀ j, j < k + 1 → gok n f (at' + 4 * (j : Int)) = true) := fun j hj => by
          by_cases e : j = k
          · subst e; rw [hy]; exact hg
          · exact hall.out j (by omega)
        have HG : Hid (gnL n f at' k = gnum n f y) := by show gnum n f (at' + 4 * (k : Int)) = _; rw [hy]
        have HY : Hid (y + 4 = at' + 4 * ((k + 1 : Nat) : Int)) := show _ = _ by rw [← hy]; push_cast; omega
        clear hall hy
        go_wp2_with fail
        refine (implGetNum_any a b n c y f _ (by omega) hcap hyr hu (h.grew hb)).mono ?_
        rintro e w2 ⟨rfl, hb2⟩
        rw [hg, hnx]
        have hB2 := below_app hb hb2 hb.size
        have ho2 := ho.grew hb2
        have e2 := ho2.cell k hlt
        have e3 := ho2.2.2.2 (0 + k)
        have R := ho2.put k (gnL n f at' k)
        rw [til_step, HG.out] at R
        have hB3 := hB2.setCell (p := ⟨w.heap.size, 0 + k, none⟩) (by simp) (.int .i64 (gnum n f y))
        rw [Nat.zero_add] at e2 e3 R hB3
        have y1 : (0 : Int) ≤ (k : Int) := by omega
        have y2 : (k : Int) < (K : Int) := by omega
        clear hg hnx ho hb hb2 ho2 hB2
        go_wp2
        go_roundw
        case rel => first | exact ⟨k + 1, by omega, by go_num, by rw [HY.out], hB3, R, HA⟩ | ((repeat apply Exists.intro); exact ⟨⟨k + 1, by omega, by go_num, by rw [HY.out], hB3, R, HA⟩, rfl⟩)
        case measure => simp [intOf]; omega
    · obtain rfl : k = K := by omega
      have HN : Hid (gnOkK k n f at' = true) := gnOkK_yes hall.out
      have ho2 := ho.congr (til_all (gnL n f at') _ (Nat.le_refl _))
      clear hall ho
      go_wp2
      go_ret3
      exact ⟨hb, .inl ⟨HN.out, w.heap.size, rfl, ho2⟩⟩
end Go.Proofs.Ytnlnledijpcjpab
namespace Go.Proofs.Ytnlnledijpcjpab
open Go.ChangeShapes Go.WideShapes Go.ChangeAt Go.RowKit
set_option maxRecDepth 100000
set_option linter.unusedVariables false
/-- how many pieces the number at a place tells; whether that may be; whether they are all there -/
def gcN (n : Nat) (f : Nat → Int) (at' : Int) : Nat := (gnum n f at').toNat
def gcOk (n : Nat) (f : Nat → Int) (at' lo hi : Int) : Bool := gok n f at' && ib (gnum n f at') lo hi
def gqA (at' : Int) (i : Nat) : Int := at' + 4 + 52 * (i : Int)
def gqF (n : Nat) (f : Nat → Int) (at' : Int) : Nat → Pc := fun i => rawP n f (gqA at' i)
def gqOk (n : Nat) (f : Nat → Int) (at' : Int) : Bool := gcOk n f at' 0 8 && (List.range (gcN n f at')).all (fun i => gpOk n f (gqA at' i))
def PiecesPost (n : Nat) (f : Nat → Int) (at' : Int) (w : World) (e : Ending) (w' : World) : Prop :=
  Below w.heap.size w w' ∧ ((gqOk n f at' = true ∧ ∃ q, e = .returned (.tuple #[.slice (some ⟨q, 0, none⟩) (gcN n f at') (gcN n f at'), .int .i64 (gqA at' (gcN n f at')), .bool true]) ∧ OwnE pcC 13 w' w.heap.size q (some ⟨q, 0, none⟩) (gcN n f at') (gqF n f at')) ∨
    (gqOk n f at' = false ∧ e = .returned (.tuple #[.slice none 0 0, .int .i64 0, .bool false])))
theorem allg_no {n k : Nat} {f : Nat → Bool} (hk : k < n) (h : f k = false) : (List.range n).all f = false := by rw [List.all_eq_false]; exact ⟨k, List.mem_range.2 hk, by simp [h]⟩
theorem allg_yes {n : Nat} {f : Nat → Bool} (h : ∀ k, k < n → f k = true) : (List.range n).all f = true := by rw [List.all_eq_true]; exact fun k hk => h k (List.mem_range.1 hk)
theorem gpOk_rng {n : Nat} {f : Nat → Int} {at' : Int} (h : gpOk n f at' = true) : 0 ≤ at' ∧ at' + 52 ≤ (n : Int) := by
  unfold gpOk gnOk at h
  simp only [Bool.and_eq_true] at h
  have h12 := List.all_eq_true.1 h.1.1.1 12 (by decide)
  have h0 := List.all_eq_true.1 h.1.1.1 0 (by decide)
  have := gok_rng' h12
  have := gok_rng' h0
  omega
set_option maxHeartbeats 4000000 in
theorem getPieces_any (a : Option Addr) (b n c : Nat) (at' : Int) (f : Nat → Int) (w : World) (hn : n ≤ 100000000) (hcap : n ≤ c) (ha : -9223372036854775808 ≤ at' ∧ at' ≤ 9223372036854775807) (hu : U8 n f) (h : Rd .u8 w b a n f) :
    Calls Try.prog 108 #[.slice a n c, .int .i64 at'] w fun e w' => PiecesPost n f at' w e w' := by
  obtain ⟨i0, hi, hz0, hz1, hz2⟩ := info_parts Try.infoPc
  cases hg : gok n f at' with
  | false =>
    have HN : Hid (gqOk n f at' = false) := by show gqOk n f at' = false; unfold gqOk gcOk; rw [hg]; rfl
    go_enter Try.func108, Try.ntmps108
    go_wp2_with fail
    refine (implGetNum_any a b n c at' f _ (by omega) hcap ha hu h).mono ?_
    rintro e w1 ⟨rfl, hb1⟩
    rw [hg]
    go_wp2
    go_ret3
    exact ⟨hb1, .inr ⟨HN.out, rfl⟩⟩
  | true =>
  have hnx := gnext_ok' hg
  have hrg := gok_rng' hg
  cases hc : ib (gnum n f at') 0 8 with
  | false =>
    have HN : Hid (gqOk n f at' = false) := by show gqOk n f at' = false; unfold gqOk gcOk; rw [hc]; simp
    go_enter Try.func108, Try.ntmps108
    go_wp2_with fail
    refine (implGetNum_any a b n c at' f _ (by omega) hcap ha hu h).mono ?_
    rintro e w1 ⟨rfl, hb1⟩
    rw [hg, hnx]
    go_wp2_with (go_at_call 81; refine (between_any _ _ _ _).mono ?_; rintro e w' ⟨rfl, hw'⟩; rw [hw']; clear hw' w')
    go_ret3
    exact ⟨hb1, .inr ⟨HN.out, rfl⟩⟩
  | true =>
  have hcb : 0 ≤ gnum n f at' ∧ gnum n f at' ≤ 8 := by unfold ib at hc; simpa using hc
  have HK : Hid (gcOk n f at' 0 8 = true) := by show gcOk n f at' 0 8 = true; unfold gcOk; rw [hg, hc]; rfl
  obtain ⟨N, hN⟩ : ∃ N : Nat, gcN n f at' = N := ⟨_, rfl⟩
  have hNi : gnum n f at' = (N : Int) := by unfold gcN at hN; omega
  have hN8 : N ≤ 8 := by omega
  have HN0 : Hid (gcN n f at' = N) := hN
  clear hN
  go_enter Try.func108, Try.ntmps108
  go_wp2_with fail
  refine (implGetNum_any a b n c at' f _ (by omega) hcap ha hu h).mono ?_
  rintro e w1 ⟨rfl, hb1⟩
  rw [hg, hnx, hNi]
  rw [hNi] at hc
  clear hg hnx hNi hcb
  go_wp2_with first | (go_at_call 81; refine (between_any _ _ _ _).mono ?_; rintro e w' ⟨rfl, hw'⟩; rw [hw']; clear hw' w') | (at_make; refine wpList_make_full _ rfl _ _ 53 rfl w1.heap.size 31 i0 _ 13 Try.underlying53 hi hz0 hz1 _ _ _ _ N rfl rfl rfl rfl (by rw [hz2]; omega) (by unfold maxLen; omega) (Nat.le_refl _) ?_)
  intro w2 hown hgr
  have hown' : w2.ownsRow w1.heap.size 31 13 (.slice (some ⟨w1.heap.size, 0, none⟩) N N) N (valsE pcC N (fun _ => zP)) := by rw [← made_pc]; exact hown
  have hb2 : Below w.heap.size w w2 := hb1.grown hgr hb1.size (by simp)
  have HR : Hid (w2.heap[w1.heap.size]? = some (.cells (valsE pcC N (tilE 0 (gqF n f at') (fun _ => zP))).toArray 31 (0, 0))) := by rw [tilE_zero]; exact row_madeE hown'
  have hs1 := hb1.size
  clear hown hown' hgr hc
  go_wp2
  go_loopw [1, 32] (fun x i wr => ∃ k : Nat, k ≤ N ∧ i = .int .i64 k ∧ x = .int .i64 (gqA at' k) ∧ Below w.heap.size w wr ∧ Hid (wr.heap[w1.heap.size]? = some (.cells (valsE pcC N (tilE k (gqF n f at') (fun _ => zP))).toArray 31 (0, 0))) ∧ Hid (∀ j, j < k → gpOk n f (gqA at' j) = true)) (fun _ i _ => N - (intOf i).toNat)
  case atStart => exact ⟨0, Nat.zero_le _, rfl, by simp [gqA], hb2, HR, fun j hj => by omega⟩
  case round =>
    clear HR hb2
    obtain ⟨k, hk, rfl, rfl, hb, hr, hall⟩ := hrel
    by_cases hlt : k < N
    · obtain ⟨y, hy⟩ : ∃ y, gqA at' k = y := ⟨_, rfl⟩
      have hyr : -9223372036854775808 ≤ y ∧ y ≤ 9223372036854775807 := by unfold gqA at hy; omega
      rw [hy]
      cases hp : gpOk n f y with
      | false =>
        have HN : Hid (gqOk n f at' = false) := by
          show gqOk n f at' = false
          unfold gqOk
          rw [HN0.out, allg_no hlt (f := fun i => gpOk n f (gqA at' i)) (by rw [hy]; exact hp)]
          simp
        go_wp2_with fail
        refine (implGetPiece_any a b n c y f _ hn hcap hyr hu (h.grew hb)).mono ?_
        rintro e w3 ⟨rfl, hb3⟩
        rw [hp]
        generalize gpP n f y = x
        generalize gpX n f y = z
        clear hall hr
        go_wp2
        go_ret3
        exact ⟨(below_app hb hb3 hb.size).alloc (below_app hb hb3 hb.size).size _, .inr ⟨HN.out, rfl⟩⟩
      | true =>
        have hprg := gpOk_rng hp
        have HA : Hid (∀ j, j < k + 1 → gpOk n f (gqA at' j) = true) := fun j hj => by
          by_cases e : j = k
          · subst e; rw [hy]; exact hp
          · exact hall.out j (by omega)
        have HF : Hid (tilE (k + 1) (gqF n f at') (fun _ => zP) = fun i => if i = k then rawP n f y else tilE k (gqF n f at') (fun _ => zP) i) := by
          show _ = _
          rw [← tilE_step]
          unfold gqF
          rw [hy]
        have HY : Hid (y + 52 = gqA at' (k + 1)) := show _ = _ by rw [← hy]; unfold gqA; push_cast; omega
        have e1 : gpP n f y = rawP n f y := by unfold gpP; rw [if_pos hp]
        have e2 : gpX n f y = y + 52 := by unfold gpX; rw [if_pos hp]
        go_wp2_with fail
        refine (implGetPiece_any a b n c y f _ hn hcap hyr hu (h.grew hb)).mono ?_
        rintro e w3 ⟨rfl, hb3⟩
        rw [hp, e1, e2]
        generalize rawP n f y = x at HF
        have hB3 := below_app hb hb3 hb.size
        have hr3 := (hb3.block _ (lt_row hr.out)).trans hr.out
        have bV := box_new w3 31 x
        have hbV := below_new2' w3 (.cells #[.int .i64 x.id, .int .i64 x.ow, .int .i64 x.si, .int .i64 x.zo, .int .i64 x.st, .int .i64 x.po, .int .i64 x.to, .int .i64 x.tr, .int .i64 x.pl, .int .i64 x.mi, .int .i64 x.ma, .bool x.de, .bool x.be] 31)
        generalize hV : w3.alloc (.cells #[.int .i64 x.id, .int .i64 x.ow, .int .i64 x.si, .int .i64 x.zo, .int .i64 x.st, .int .i64 x.po, .int .i64 x.to, .int .i64 x.tr, .int .i64 x.pl, .int .i64 x.mi, .int .i64 x.ma, .bool x.de, .bool x.be] 31) = V at bV hbV
        have hrV := (hbV.block _ (lt_row hr3)).trans hr3
        obtain ⟨k0, k1, k2, k3, k4, k5, k6, k7, k8, k9, k10, k11, k12⟩ : Cells13 _ _ _ := bV.cells
        have ht : V.there w1.heap.size (k * 13) 13 := there_row hrV (by simp [valsE_len pcC_len]; omega)
        have hput := row_putE pcC_len hrV k x hlt
        rw [← HF.out] at hput
        have hBV := below_app hB3 hbV hB3.size
        have hB4 := below_setCells' (g := w1.heap.size) hs1 (pcC x) (k * 13) V hBV
        generalize hU : V.setCells w1.heap.size (k * 13) (pcC x) = U at hput hB4
        have y1 : (0 : Int) ≤ (k : Int) := by omega
        have y2 : (k : Int) < (N : Int) := by omega
        clear hall hy hp hr hr3 hb hb3 HF e1 e2
        go_wp2_with (refine wpList_store_mid rfl 31 (.tmp 48) (.tmp 46) rfl w1.heap.size (k * 13) #[.int .i64 x.id, .int .i64 x.ow, .int .i64 x.si, .int .i64 x.zo, .int .i64 x.st, .int .i64 x.po, .int .i64 x.to, .int .i64 x.tr, .int .i64 x.pl, .int .i64 x.mi, .int .i64 x.ma, .bool x.de, .bool x.be] (by first | rfl | simp [Act.eval]) rfl ht (by kernel_rfl) (by simp [Value.oneCell']) ?_; generalize hU2 : V.setCells w1.heap.size (k * 13) _ = U2; obtain rfl : U = U2 := hU.symm.trans hU2)
        have HR2 : Hid (U.heap[w1.heap.size]? = some (.cells (valsE pcC N (tilE (k + 1) (gqF n f at') (fun _ => zP))).toArray 31 (0, 0))) := hput
        clear hput
        go_roundw
        case rel => first | exact ⟨k + 1, by omega, by go_num, by rw [HY.out], hB4, HR2, HA⟩ | ((repeat apply Exists.intro); exact ⟨⟨k + 1, by omega, by go_num, by rw [HY.out], hB4, HR2, HA⟩, rfl⟩)
        case measure => simp [intOf]; omega
    · obtain rfl : k = N := by omega
      have HN : Hid (gqOk n f at' = true) := by
        show gqOk n f at' = true
        unfold gqOk
        rw [HK.out, HN0.out, allg_yes (f := fun i => gpOk n f (gqA at' i)) hall.out]
        rfl
      have hr2 := hr.out
      rw [valsE_congr pcC_len (tilE_all (gqF n f at') (fun _ => zP) (Nat.le_refl k))] at hr2
      have ho := ownE_row pcC_len hr2 hs1
      clear hr hr2 hall
      go_wp2
      go_ret3
      exact ⟨hb, .inl ⟨HN.out, w1.heap.size, by rw [HN0.out]; rfl, by rw [HN0.out]; exact ho⟩⟩
end Go.Proofs.Ytnlnledijpcjpab
namespace Go.Proofs.Ytnlnledijpcjpab
open Go.ChangeShapes Go.WideShapes Go.ChangeAt Go.RowKit
set_option maxRecDepth 100000
set_option linter.unusedVariables false
def gtA (at' : Int) (i : Nat) : Int := at' + 4 + 12 * (i : Int)
def gtF (n : Nat) (f : Nat → Int) (at' : Int) : Nat → Sd := fun i => ⟨gnL n f (gtA at' i) 0, gnL n f (gtA at' i) 1, gnL n f (gtA at' i) 2 == 1⟩
def gtOk (n : Nat) (f : Nat → Int) (at' : Int) : Bool := gcOk n f at' 2 3 && (List.range (gcN n f at')).all (fun i => gnOkK 3 n f (gtA at' i))
def SidesPost (n : Nat) (f : Nat → Int) (at' : Int) (w : World) (e : Ending) (w' : World) : Prop :=
  Below w.heap.size w w' ∧ ((gtOk n f at' = true ∧ ∃ q, e = .returned (.tuple #[.slice (some ⟨q, 0, none⟩) (gcN n f at') (gcN n f at'), .int .i64 (gtA at' (gcN n f at')), .bool true]) ∧ OwnE sdC 3 w' w.heap.size q (some ⟨q, 0, none⟩) (gcN n f at') (gtF n f at')) ∨
    (gtOk n f at' = false ∧ e = .returned (.tuple #[.slice none 0 0, .int .i64 0, .bool false])))
theorem gnOkK_rng {n : Nat} {f : Nat → Int} {at' : Int} (h : gnOkK 3 n f at' = true) : 0 ≤ at' ∧ at' + 12 ≤ (n : Int) := by
  unfold gnOkK at h
  have h2 := List.all_eq_true.1 h 2 (by decide)
  have h0 := List.all_eq_true.1 h 0 (by decide)
  have := gok_rng' h2
  have := gok_rng' h0
  omega
set_option maxHeartbeats 4000000 in
theorem getSides_any (a : Option Addr) (b n c : Nat) (at' : Int) (f : Nat → Int) (w : World) (hn : n ≤ 100000000) (hcap : n ≤ c) (ha : -9223372036854775808 ≤ at' ∧ at' ≤ 9223372036854775807) (hu : U8 n f) (h : Rd .u8 w b a n f) :
    Calls Try.prog 109 #[.slice a n c, .int .i64 at'] w fun e w' => SidesPost n f at' w e w' := by
  obtain ⟨i0, hi, hz0, hz1, hz2⟩ := info_parts Try.infoSd
  cases hg : gok n f at' with
  | false =>
    have HN : Hid (gtOk n f at' = false) := by show gtOk n f at' = false; unfold gtOk gcOk; rw [hg]; rfl
    go_enter Try.func109, Try.ntmps109
    go_wp2_with fail
    refine (implGetNum_any a b n c at' f _ (by omega) hcap ha hu h).mono ?_
    rintro e w1 ⟨rfl, hb1⟩
    rw [hg]
    go_wp2
    go_ret3
    exact ⟨hb1, .inr ⟨HN.out, rfl⟩⟩
  | true =>
  have hnx := gnext_ok' hg
  have hrg := gok_rng' hg
  cases hc : ib (gnum n f at') 2 3 with
  | false =>
    have HN : Hid (gtOk n f at' = false) := by show gtOk n f at' = false; unfold gtOk gcOk; rw [hc]; simp
    go_enter Try.func109, Try.ntmps109
    go_wp2_with fail
    refine (implGetNum_any a b n c at' f _ (by omega) hcap ha hu h).mono ?_
    rintro e w1 ⟨rfl, hb1⟩
    rw [hg, hnx]
    go_wp2_with (go_at_call 81; refine (between_any _ _ _ _).mono ?_; rintro e w' ⟨rfl, hw'⟩; rw [hw']; clear hw' w')
    go_ret3
    exact ⟨hb1, .inr ⟨HN.out, rfl⟩⟩
  | true =>
  have hcb : 2 ≤ gnum n f at' ∧ gnum n f at' ≤ 3 := by unfold ib at hc; simpa using hc
  have HK : Hid (gcOk n f at' 2 3 = true) := by show gcOk n f at' 2 3 = true; unfold gcOk; rw [hg, hc]; rfl
  obtain ⟨N, hN⟩ : ∃ N : Nat, gcN n f at' = N := ⟨_, rfl⟩
  have hNi : gnum n f at' = (N : Int) := by unfold gcN at hN; omega
  have hN8 : N ≤ 3 := by omega
  have HN0 : Hid (gcN n f at' = N) := hN
  clear hN
  go_enter Try.func109, Try.ntmps109
  go_wp2_with fail
  refine (implGetNum_any a b n c at' f _ (by omega) hcap ha hu h).mono ?_
  rintro e w1 ⟨rfl, hb1⟩
  rw [hg, hnx, hNi]
  rw [hNi] at hc
  clear hg hnx hNi hcb
  go_wp2_with first | (go_at_call 81; refine (between_any _ _ _ _).mono ?_; rintro e w' ⟨rfl, hw'⟩; rw [hw']; clear hw' w') | (at_make; refine wpList_make_full _ rfl _ _ 54 rfl w1.heap.size 68 i0 _ 3 Try.underlying54 hi hz0 hz1 _ _ _ _ N rfl rfl rfl rfl (by rw [hz2]; omega) (by unfold maxLen; omega) (Nat.le_refl _) ?_)
  intro w2 hown hgr
  have hown' : w2.ownsRow w1.heap.size 68 3 (.slice (some ⟨w1.heap.size, 0, none⟩) N N) N (valsE sdC N (fun _ => zS)) := by rw [← made_sd]; exact hown
  have hb2 : Below w.heap.size w w2 := hb1.grown hgr hb1.size (by simp)
  have hs1 := hb1.size
  have HR : OwnE sdC 3 w2 w.heap.size w1.heap.size (some ⟨w1.heap.size, 0, none⟩) N (tilE 0 (gtF n f at') (fun _ => zS)) := by rw [tilE_zero]; exact ownE_row sdC_len (row_madeE hown') hs1
  clear hown hown' hgr hc
  go_wp2
  go_loopw [1, 32] (fun x i wr => ∃ k : Nat, k ≤ N ∧ i = .int .i64 k ∧ x = .int .i64 (gtA at' k) ∧ Below w.heap.size w wr ∧ OwnE sdC 3 wr w.heap.size w1.heap.size (some ⟨w1.heap.size, 0, none⟩) N (tilE k (gtF n f at') (fun _ => zS)) ∧ Hid (∀ j, j < k → gnOkK 3 n f (gtA at' j) = true)) (fun _ i _ => N - (intOf i).toNat)
  case atStart => exact ⟨0, Nat.zero_le _, rfl, by simp [gtA], hb2, HR, fun j hj => by omega⟩
  case round =>
    clear HR hb2
    obtain ⟨k, hk, rfl, rfl, hb, hr, hall⟩ := hrel
    by_cases hlt : k < N
    · obtain ⟨y, hy⟩ : ∃ y, gtA at' k = y := ⟨_, rfl⟩
      have hyr : -9223372036854775808 ≤ y ∧ y ≤ 9223372036854775807 := by unfold gtA at hy; omega
      rw [hy]
      go_wp2_with fail
      refine (getNums_any 3 (by decide) a b n c y f _ hn hcap hyr hu (h.grew hb)).mono ?_
      rintro e w3 ⟨hb3, ⟨hp, q3, rfl, o3⟩ | ⟨hp, rfl⟩⟩
      rotate_left
      · have HN : Hid (gtOk n f at' = false) := by
          show gtOk n f at' = false
          unfold gtOk
          rw [HN0.out, allg_no hlt (f := fun i => gnOkK 3 n f (gtA at' i)) (by rw [hy]; exact hp)]
          simp
        clear hall hr
        go_wp2
        go_ret3
        exact ⟨below_app hb hb3 hb.size, .inr ⟨HN.out, rfl⟩⟩
      · have hprg := gnOkK_rng hp
        have HA : Hid (∀ j, j < k + 1 → gnOkK 3 n f (gtA at' j) = true) := fun j hj => by
          by_cases e : j = k
          · subst e; rw [hy]; exact hp
          · exact hall.out j (by omega)
        have HY : Hid (y + 4 * ((3 : Nat) : Int) = gtA at' (k + 1)) := show _ = _ by rw [← hy]; unfold gtA; push_cast; omega
        have HF : Hid (gtF n f at' k = ⟨gnL n f y 0, gnL n f y 1, gnL n f y 2 == 1⟩) := by show _ = _; unfold gtF; rw [hy]
        have e0 := o3.cell 0 (by decide)
        have e1 := o3.cell 1 (by decide)
        have e2 := o3.cell 2 (by decide)
        rw [Nat.zero_add] at e0 e1 e2
        have hr3 := hr.grew hb3
        have hB3 := below_app hb hb3 hb.size
        have hne : q3 ≠ w1.heap.size := by have h1 := o3.1; have h2 := hr.2.1; omega
        rcases hr3.rd with h9 | ⟨o9, e9, h9⟩
        · omega
        simp only [Option.some.injEq, Addr.mk.injEq, and_true, true_and] at e9
        subst e9
        obtain ⟨c0, c1, c2⟩ : At3 w3 w1.heap.size (0 + k * 3) _ := At3_of (h9 k hlt)
        rw [Nat.zero_add] at c0 c1 c2
        have z0 := hr3.2.2.2 (k * 3)
        have z1 := hr3.2.2.2 (k * 3 + 1)
        have z2 := hr3.2.2.2 (k * 3 + 2)
        have R := hr3.putE sdC_len k hlt (gtF n f at' k)
        rw [tilE_step k (gtF n f at'), HF.out, Nat.zero_add] at R
        have hB4 := below_setCells' (g := w1.heap.size) hs1 (sdC ⟨gnL n f y 0, gnL n f y 1, gnL n f y 2 == 1⟩) (k * 3) w3 hB3
        generalize gnL n f y 0 = x0 at e0 R hB4 HF
        generalize gnL n f y 1 = x1 at e1 R hB4 HF
        generalize gnL n f y 2 = x2 at e2 R hB4 HF
        have HR2 : Hid (OwnE sdC 3 (((w3.setCell ⟨w1.heap.size, k * 3, none⟩ (.int .i64 x0)).setCell ⟨w1.heap.size, k * 3 + 1, none⟩ (.int .i64 x1)).setCell ⟨w1.heap.size, k * 3 + 2, none⟩ (.bool (x2 == 1))) w.heap.size w1.heap.size (some ⟨w1.heap.size, 0, none⟩) N (tilE (k + 1) (gtF n f at') (fun _ => zS))) := R
        have HB2 : Hid (Below w.heap.size w (((w3.setCell ⟨w1.heap.size, k * 3, none⟩ (.int .i64 x0)).setCell ⟨w1.heap.size, k * 3 + 1, none⟩ (.int .i64 x1)).setCell ⟨w1.heap.size, k * 3 + 2, none⟩ (.bool (x2 == 1)))) := hB4
        have y1 : (0 : Int) ≤ (k : Int) := by omega
        have y2 : (k : Int) < (N : Int) := by omega
        clear hall hy hp hr hb hb3 hr3 h9 R hB4 o3 HF
        have SK0 : Hid (w3.cell? ⟨q3, 0, none⟩ = some (.int .i64 x0) ∧ w3.cell? ⟨q3, 1, none⟩ = some (.int .i64 x1) ∧ w3.cell? ⟨q3, 2, none⟩ = some (.int .i64 x2)) := show _ ∧ _ from ⟨e0, e1, e2⟩
        have SK4 : ∀ (u : World) (v0 v1 v2 : Value), (u.cell? ⟨q3, 0, none⟩ = some (.int .i64 x0) ∧ u.cell? ⟨q3, 1, none⟩ = some (.int .i64 x1) ∧ u.cell? ⟨q3, 2, none⟩ = some (.int .i64 x2)) → (((u.setCell ⟨w1.heap.size, k * 3, none⟩ v0).setCell ⟨w1.heap.size, k * 3 + 1, none⟩ v1).setCell ⟨w1.heap.size, k * 3 + 2, none⟩ v2).cell? ⟨q3, 0, none⟩ = some (.int .i64 x0) ∧ (((u.setCell ⟨w1.heap.size, k * 3, none⟩ v0).setCell ⟨w1.heap.size, k * 3 + 1, none⟩ v1).setCell ⟨w1.heap.size, k * 3 + 2, none⟩ v2).cell? ⟨q3, 1, none⟩ = some (.int .i64 x1) ∧ (((u.setCell ⟨w1.heap.size, k * 3, none⟩ v0).setCell ⟨w1.heap.size, k * 3 + 1, none⟩ v1).setCell ⟨w1.heap.size, k * 3 + 2, none⟩ v2).cell? ⟨q3, 2, none⟩ = some (.int .i64 x2) := fun u v0 v1 v2 hS => by
          obtain ⟨p0, p1, p2⟩ := hS
          refine ⟨?_, ?_, ?_⟩
          all_goals (rw [World.cell?_setCell_other _ _ _ _ (by intro e; simp at e; try omega), World.cell?_setCell_other _ _ _ _ (by intro e; simp at e; try omega), World.cell?_setCell_other _ _ _ _ (by intro e; simp at e; try omega)]; assumption)
        go_wp2_with fail
        go_region_held (fun u : World => u.cell? ⟨q3, 0, none⟩ = some (.int .i64 x0) ∧ u.cell? ⟨q3, 1, none⟩ = some (.int .i64 x1) ∧ u.cell? ⟨q3, 2, none⟩ = some (.int .i64 x2)) (first | exact SK0.out | exact SK4 _ _ _ _ (by assumption) | go_keep) (fail)
        all_goals
          clear SK0 SK4 e0 e1 e2 c0 c1 c2 z0 z1 z2
          go_wp2
          go_roundw
          case rel => first | exact ⟨k + 1, by omega, by go_num, by rw [← HY.out]; rfl, HB2.out, HR2.out, HA⟩ | exact ⟨k + 1, by omega, by go_num, by rw [← HY.out]; rfl, HB2.out.drew, HR2.out, HA⟩ | ((repeat apply Exists.intro); exact ⟨⟨k + 1, by omega, by go_num, by rw [← HY.out]; rfl, HB2.out.drew, HR2.out, HA⟩, rfl⟩)
          case measure => simp [intOf]; omega
    · obtain rfl : k = N := by omega
      have HN : Hid (gtOk n f at' = true) := by
        show gtOk n f at' = true
        unfold gtOk
        rw [HK.out, HN0.out, allg_yes (f := fun i => gnOkK 3 n f (gtA at' i)) hall.out]
        rfl
      have ho := hr.congr (tilE_all (gtF n f at') (fun _ => zS) (Nat.le_refl k))
      clear hr hall
      go_wp2
      go_ret3
      exact ⟨hb, .inl ⟨HN.out, w1.heap.size, by rw [HN0.out]; rfl, by rw [HN0.out]; exact ho⟩⟩
end Go.Proofs.Ytnlnledijpcjpab
