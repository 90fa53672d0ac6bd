/-
  Chapter 5: numbers read from a place on, however many: the specification's l4Nums. Chapter 5: the program's getNums. Own work.
-/
import Derived.Test.YtpdoefcdajcloapPiece5
import Derived.Test.YtpdoefcdajcloapBytes2
namespace Go.Proofs.Ytpdoefcdajcloap
open Go.ChangeShapes Go.WideShapes Go.ChangeAt Go.RowKit
set_option maxRecDepth 100000
set_option linter.unusedVariables false
/-- whether K numbers are there -/
def gnOkK (K n : Nat) (f : Nat → Int) (at' : Int) : Bool := (List.range K).all (fun j => gok n f (at' + 4 * (j : Int)))
theorem gnOkK_no {K n : Nat} {f : Nat → Int} {at' : Int} {k : Nat} (hk : k < K) (h : gok n f (at' + 4 * (k : Int)) = false) : gnOkK K n f at' = false := by
  unfold gnOkK
  rw [List.all_eq_false]
  exact ⟨k, List.mem_range.2 hk, by simp [h]⟩
theorem gnOkK_yes {K n : Nat} {f : Nat → Int} {at' : Int} (h : ∀ k : Nat, k < K → gok n f (at' + 4 * (k : Int)) = true) : gnOkK K n f at' = true := by
  unfold gnOkK
  rw [List.all_eq_true]
  exact fun k hk => h k (List.mem_range.1 hk)
def NumsPostK (K n : Nat) (f : Nat → Int) (at' : Int) (w : World) (e : Ending) (w' : World) : Prop :=
  Below w.heap.size w w' ∧ ((gnOkK K n f at' = true ∧ ∃ q cap, e = .returned (.tuple #[.slice (some ⟨q, 0, none⟩) K cap, .int .i64 (at' + 4 * (K : Int)), .bool true]) ∧ Own .i64 w' w.heap.size q (some ⟨q, 0, none⟩) K (gnL n f at')) ∨
    (gnOkK K n f at' = false ∧ ∃ q N cap, e = .returned (.tuple #[.slice (some ⟨q, 0, none⟩) N cap, .int .i64 0, .bool false])))
set_option maxHeartbeats 2000000 in
theorem l4NumsK_any (K : Nat) (hK : K ≤ 1000) (a : Option Addr) (b n c : Nat) (at' : Int) (f : Nat → Int) (w : World) (hn : n ≤ 100000000) (hu : U8 n f) (h : Rd .u8 w b a n f) :
    Calls Try.prog 59 #[.slice a n c, .int .i64 at', .int .i64 K] w fun e w' => NumsPostK K n f at' w e w' := by
  obtain ⟨i0, hi, hz0, hz1, hz2⟩ := info_parts Try.infoInt
  go_enter Try.func59, Try.ntmps59
  go_wp2
  go_loopw [9, 10, 11] (fun v x i wr => ∃ k : Nat, k ≤ K ∧ i = .int .i64 k ∧ x = .int .i64 (at' + 4 * (k : Int)) ∧ wr.ownsRow w.heap.size 3 1 v k (vals .i64 k (gnL n f at')) ∧ v ≠ .slice none 0 0 ∧ Below w.heap.size w wr ∧ Hid (∀ j, j < k → gok n f (at' + 4 * (j : Int)) = true)) (fun _ _ i _ => K - (intOf i).toNat)
  case atStart => exact ⟨0, Nat.zero_le _, rfl, by simp, World.ownsRow_lit w #[] 0 (Nat.le_refl _) (by decide) rfl, by simp, (Below.refl _ _).alloc (Nat.le_refl _) _, fun j hj => by omega⟩
  case round =>
    obtain ⟨k, hk, rfl, rfl, hown, hnil, hb, hall⟩ := hrel
    by_cases hlt : k < K
    · obtain ⟨y, hy⟩ : ∃ y, at' + 4 * (k : Int) = y := ⟨_, rfl⟩
      rw [hy]
      cases hg : gok n f y with
      | false =>
        have HN : Hid (gnOkK K n f at' = false) := gnOkK_no hlt (by rw [hy]; exact hg)
        go_wp2_with fail
        refine (specGetNum_any a b n c y f _ (by omega) hu (h.grew hb)).mono ?_
        rintro e w1 ⟨rfl, hb1⟩
        rw [hg]
        obtain ⟨q, cap, rfl, ho⟩ := own_of hown hnil
        clear hall hown hnil
        go_wp2
        go_ret3
        exact ⟨below_app hb hb1 hb.size, .inr ⟨HN.out, q, k, cap, rfl⟩⟩
      | true =>
        have hrg := gok_rng' hg
        have hnx := gnext_ok' hg
        have HA : Hid (∀ j, j < k + 1 → gok n f (at' + 4 * (j : Int)) = true) := fun j hj => by
          by_cases e : j = k
          · subst e; rw [hy]; exact hg
          · exact hall j (by omega)
        have HV : Hid (vals .i64 (k + 1) (gnL n f at') = vals .i64 k (gnL n f at') ++ [.int .i64 (gnum n f y)]) := show _ = _ by rw [vals_one_snoc']; unfold gnL; rw [hy]
        have HY : Hid (y + 4 = at' + 4 * ((k + 1 : Nat) : Int)) := show _ = _ by rw [← hy]; push_cast; omega
        clear hall hy
        go_wp2_with fail
        refine (specGetNum_any a b n c y f _ (by omega) hu (h.grew hb)).mono ?_
        rintro e w1 ⟨rfl, hb1⟩
        rw [hg, hnx]
        have hb2 := below_app hb hb1 hb.size
        have hown1 : w1.ownsRow w.heap.size 3 1 _ k (vals .i64 k (gnL n f at')) := row_grew' hown hb1
        clear hg hnx hown hb hb1
        go_wp2_with (at_builtin; refine wpList_append_own _ rfl (.tmp 32) (.tmp 34) 66 rfl w.heap.size 3 i0 (.int .i64 0) 1 8 Try.underlying66 hi hz0 hz1 hz2 rfl (by decide) _ _ _ rfl (hown1.alloc _) ⟨w1.heap.size, 0, none⟩ 1 1 [_] rfl rfl (cells_new _ [_] _) (by intro u hu; simp at hu; subst hu; rfl) (by unfold maxLen; omega) (by omega) (by have := hb2.size; simp; omega) ?_)
        intro v4 w4 hown4 hgr4 hnil4
        have hb4 : Below w.heap.size w w4 := (hb2.alloc hb2.size _).grown hgr4 (by have := hb2.size; simp; omega) (fun k hk => (hown1.lt k hk).1)
        have hown5 : w4.ownsRow w.heap.size 3 1 v4 (k + 1) (vals .i64 (k + 1) (gnL n f at')) := by rw [HV.out]; exact hown4
        have hnil5 : v4 ≠ .slice none 0 0 := hnil4
        clear hown4 hgr4 hnil4 hown1 hnil hb2 HV
        go_wp2
        go_roundw
        case rel => first | exact ⟨k + 1, by omega, by go_num, by rw [HY.out], hown5, hnil5, hb4, HA⟩ | ((repeat apply Exists.intro); exact ⟨⟨k + 1, by omega, by go_num, by rw [HY.out], hown5, hnil5, hb4, HA⟩, rfl⟩)
        case measure => simp [intOf]; omega
    · obtain rfl : k = K := by omega
      have HN : Hid (gnOkK k n f at' = true) := gnOkK_yes hall.out
      obtain ⟨q, cap, rfl, ho⟩ := own_of hown hnil
      clear hall hown hnil
      go_wp2
      go_ret3
      exact ⟨hb, .inl ⟨HN.out, q, cap, rfl, ho⟩⟩
end Go.Proofs.Ytpdoefcdajcloap
namespace Go.Proofs.Ytpdoefcdajcloap
open Go.ChangeShapes Go.WideShapes Go.ChangeAt Go.RowKit
set_option maxRecDepth 100000
set_option linter.unusedVariables false
def NumsPostI (K n : Nat) (f : Nat → Int) (at' : Int) (w : World) (e : Ending) (w' : World) : Prop :=
  Below w.heap.size w w' ∧ ((gnOkK K n f at' = true ∧ ∃ q, e = .returned (.tuple #[.slice (some ⟨q, 0, none⟩) K K, .int .i64 (at' + 4 * (K : Int)), .bool true]) ∧ Own .i64 w' w.heap.size q (some ⟨q, 0, none⟩) K (gnL n f at')) ∨
    (gnOkK K n f at' = false ∧ e = .returned (.tuple #[.slice none 0 0, .int .i64 0, .bool false])))
set_option maxHeartbeats 2000000 in
theorem getNums_any (K : Nat) (hK : K ≤ 1000) (a : Option Addr) (b n c : Nat) (at' : Int) (f : Nat → Int) (w : World) (hn : n ≤ 100000000) (hcap : n ≤ c) (ha : -9223372036854775808 ≤ at' ∧ at' ≤ 9223372036854775807) (hu : U8 n f) (h : Rd .u8 w b a n f) :
    Calls Try.prog 38 #[.slice a n c, .int .i64 at', .int .i64 K] w fun e w' => NumsPostI K n f at' w e w' := by
  obtain ⟨i0, hi, hz0, hz1, hz2⟩ := info_parts Try.infoInt
  go_enter Try.func38, Try.ntmps38
  go_wp2_with (at_make; refine wpList_make_full _ rfl _ _ 66 rfl w.heap.size 3 i0 _ 1 Try.underlying66 hi hz0 hz1 _ _ _ _ K rfl rfl rfl rfl (by rw [hz2]; omega) (by unfold maxLen; omega) (Nat.le_refl _) ?_)
  intro w1 hown hgr
  have hown' : w1.ownsRow w.heap.size 3 1 (.slice (some ⟨w.heap.size, 0, none⟩) K K) K (vals .i64 K (fun _ => 0)) := by rw [← made_vals]; simpa using hown
  have hb1 : Below w.heap.size w w1 := (Below.refl _ _).grown hgr (Nat.le_refl _) (by simp)
  have ho : Own .i64 w1 w.heap.size w.heap.size (some ⟨w.heap.size, 0, none⟩) K (til 0 (gnL n f at') (fun _ => 0)) := by rw [til_zero]; exact own_row (row_made hown') (Nat.le_refl _)
  clear hown hown' hgr
  go_wp2
  go_loopw [1, 18] (fun x i wr => ∃ k : Nat, k ≤ K ∧ i = .int .i64 k ∧ x = .int .i64 (at' + 4 * (k : Int)) ∧ Below w.heap.size w wr ∧ Own .i64 wr w.heap.size w.heap.size (some ⟨w.heap.size, 0, none⟩) K (til k (gnL n f at') (fun _ => 0)) ∧ Hid (∀ j, j < k → gok n f (at' + 4 * (j : Int)) = true)) (fun _ i _ => K - (intOf i).toNat)
  case atStart => exact ⟨0, Nat.zero_le _, rfl, by simp, hb1, ho, fun j hj => by omega⟩
  case round =>
    clear hb1 ho
    obtain ⟨k, hk, rfl, rfl, hb, ho, hall⟩ := hrel
    by_cases hlt : k < K
    · obtain ⟨y, hy⟩ : ∃ y, at' + 4 * (k : Int) = y := ⟨_, rfl⟩
      have hyr : -9223372036854775808 ≤ y ∧ y ≤ 9223372036854775807 := by
        by_cases h0 : k = 0
        · subst h0; omega
        · have := gok_rng' (hall.out (k - 1) (by omega))
          omega
      rw [hy]
      cases hg : gok n f y with
      | false =>
        have HN : Hid (gnOkK K n f at' = false) := gnOkK_no hlt (by rw [hy]; exact hg)
        go_wp2_with fail
        refine (implGetNum_any a b n c y f _ (by omega) hcap hyr hu (h.grew hb)).mono ?_
        rintro e w2 ⟨rfl, hb2⟩
        rw [hg]
        clear hall
        go_wp2
        go_ret3
        exact ⟨below_app hb hb2 hb.size, .inr ⟨HN.out, rfl⟩⟩
      | true =>
        have hrg := gok_rng' hg
        have hnx := gnext_ok' hg
        have HA : Hid (∀ j, j < k + 1 → gok n f (at' + 4 * (j : Int)) = true) := fun j hj => by
          by_cases e : j = k
          · subst e; rw [hy]; exact hg
          · exact hall.out j (by omega)
        have HG : Hid (gnL n f at' k = gnum n f y) := by show gnum n f (at' + 4 * (k : Int)) = _; rw [hy]
        have HY : Hid (y + 4 = at' + 4 * ((k + 1 : Nat) : Int)) := show _ = _ by rw [← hy]; push_cast; omega
        clear hall hy
        go_wp2_with fail
        refine (implGetNum_any a b n c y f _ (by omega) hcap hyr hu (h.grew hb)).mono ?_
        rintro e w2 ⟨rfl, hb2⟩
        rw [hg, hnx]
        have hB2 := below_app hb hb2 hb.size
        have ho2 := ho.grew hb2
        have e2 := ho2.cell k hlt
        have e3 := ho2.2.2.2 (0 + k)
        have R := ho2.put k (gnL n f at' k)
        rw [til_step, HG.out] at R
        have hB3 := hB2.setCell (p := ⟨w.heap.size, 0 + k, none⟩) (by simp) (.int .i64 (gnum n f y))
        rw [Nat.zero_add] at e2 e3 R hB3
        have y1 : (0 : Int) ≤ (k : Int) := by omega
        have y2 : (k : Int) < (K : Int) := by omega
        clear hg hnx ho hb hb2 ho2 hB2
        go_wp2
        go_roundw
        case rel => first | exact ⟨k + 1, by omega, by go_num, by rw [HY.out], hB3, R, HA⟩ | ((repeat apply Exists.intro); exact ⟨⟨k + 1, by omega, by go_num, by rw [HY.out], hB3, R, HA⟩, rfl⟩)
        case measure => simp [intOf]; omega
    · obtain rfl : k = K := by omega
      have HN : Hid (gnOkK k n f at' = true) := gnOkK_yes hall.out
      have ho2 := ho.congr (til_all (gnL n f at') _ (Nat.le_refl _))
      clear hall ho
      go_wp2
      go_ret3
      exact ⟨hb, .inl ⟨HN.out, w.heap.size, rfl, ho2⟩⟩
end Go.Proofs.Ytpdoefcdajcloap
