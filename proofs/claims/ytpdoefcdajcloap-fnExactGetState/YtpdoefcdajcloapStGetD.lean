/-
  Chapter 5: the program's getSides. Own work.
-/
import Derived.Test.YtpdoefcdajcloapStGetC
import Derived.Test.YtpdoefcdajcloapStMark
import Derived.Deep.RegionHeld
namespace Go.Proofs.Ytpdoefcdajcloap
open Go.ChangeShapes Go.WideShapes Go.ChangeAt Go.RowKit
set_option maxRecDepth 100000
set_option linter.unusedVariables false
def gtA (at' : Int) (i : Nat) : Int := at' + 4 + 12 * (i : Int)
def gtF (n : Nat) (f : Nat → Int) (at' : Int) : Nat → Sd := fun i => ⟨gnL n f (gtA at' i) 0, gnL n f (gtA at' i) 1, gnL n f (gtA at' i) 2 == 1⟩
def gtOk (n : Nat) (f : Nat → Int) (at' : Int) : Bool := gcOk n f at' 2 3 && (List.range (gcN n f at')).all (fun i => gnOkK 3 n f (gtA at' i))
def SidesPost (n : Nat) (f : Nat → Int) (at' : Int) (w : World) (e : Ending) (w' : World) : Prop :=
  Below w.heap.size w w' ∧ ((gtOk n f at' = true ∧ ∃ q, e = .returned (.tuple #[.slice (some ⟨q, 0, none⟩) (gcN n f at') (gcN n f at'), .int .i64 (gtA at' (gcN n f at')), .bool true]) ∧ OwnE sdC 3 w' w.heap.size q (some ⟨q, 0, none⟩) (gcN n f at') (gtF n f at')) ∨
    (gtOk n f at' = false ∧ e = .returned (.tuple #[.slice none 0 0, .int .i64 0, .bool false])))
theorem gnOkK_rng {n : Nat} {f : Nat → Int} {at' : Int} (h : gnOkK 3 n f at' = true) : 0 ≤ at' ∧ at' + 12 ≤ (n : Int) := by
  unfold gnOkK at h
  have h2 := List.all_eq_true.1 h 2 (by decide)
  have h0 := List.all_eq_true.1 h 0 (by decide)
  have := gok_rng' h2
  have := gok_rng' h0
  omega
set_option maxHeartbeats 4000000 in
theorem getSides_any (a : Option Addr) (b n c : Nat) (at' : Int) (f : Nat → Int) (w : World) (hn : n ≤ 100000000) (hcap : n ≤ c) (ha : -9223372036854775808 ≤ at' ∧ at' ≤ 9223372036854775807) (hu : U8 n f) (h : Rd .u8 w b a n f) :
    Calls Try.prog 37 #[.slice a n c, .int .i64 at'] w fun e w' => SidesPost n f at' w e w' := by
  obtain ⟨i0, hi, hz0, hz1, hz2⟩ := info_parts Try.infoSd
  cases hg : gok n f at' with
  | false =>
    have HN : Hid (gtOk n f at' = false) := by show gtOk n f at' = false; unfold gtOk gcOk; rw [hg]; rfl
    go_enter Try.func37, Try.ntmps37
    go_wp2_with fail
    refine (implGetNum_any a b n c at' f _ (by omega) hcap ha hu h).mono ?_
    rintro e w1 ⟨rfl, hb1⟩
    rw [hg]
    go_wp2
    go_ret3
    exact ⟨hb1, .inr ⟨HN.out, rfl⟩⟩
  | true =>
  have hnx := gnext_ok' hg
  have hrg := gok_rng' hg
  cases hc : ib (gnum n f at') 2 3 with
  | false =>
    have HN : Hid (gtOk n f at' = false) := by show gtOk n f at' = false; unfold gtOk gcOk; rw [hc]; simp
    go_enter Try.func37, Try.ntmps37
    go_wp2_with fail
    refine (implGetNum_any a b n c at' f _ (by omega) hcap ha hu h).mono ?_
    rintro e w1 ⟨rfl, hb1⟩
    rw [hg, hnx]
    go_wp2_with (go_at_call 48; refine (between_any _ _ _ _).mono ?_; rintro e w' ⟨rfl, hw'⟩; rw [hw']; clear hw' w')
    go_ret3
    exact ⟨hb1, .inr ⟨HN.out, rfl⟩⟩
  | true =>
  have hcb : 2 ≤ gnum n f at' ∧ gnum n f at' ≤ 3 := by unfold ib at hc; simpa using hc
  have HK : Hid (gcOk n f at' 2 3 = true) := by show gcOk n f at' 2 3 = true; unfold gcOk; rw [hg, hc]; rfl
  obtain ⟨N, hN⟩ : ∃ N : Nat, gcN n f at' = N := ⟨_, rfl⟩
  have hNi : gnum n f at' = (N : Int) := by unfold gcN at hN; omega
  have hN8 : N ≤ 3 := by omega
  have HN0 : Hid (gcN n f at' = N) := hN
  clear hN
  go_enter Try.func37, Try.ntmps37
  go_wp2_with fail
  refine (implGetNum_any a b n c at' f _ (by omega) hcap ha hu h).mono ?_
  rintro e w1 ⟨rfl, hb1⟩
  rw [hg, hnx, hNi]
  rw [hNi] at hc
  clear hg hnx hNi hcb
  go_wp2_with first | (go_at_call 48; refine (between_any _ _ _ _).mono ?_; rintro e w' ⟨rfl, hw'⟩; rw [hw']; clear hw' w') | (at_make; refine wpList_make_full _ rfl _ _ 30 rfl w1.heap.size 51 i0 _ 3 Try.underlying30 hi hz0 hz1 _ _ _ _ N rfl rfl rfl rfl (by rw [hz2]; omega) (by unfold maxLen; omega) (Nat.le_refl _) ?_)
  intro w2 hown hgr
  have hown' : w2.ownsRow w1.heap.size 51 3 (.slice (some ⟨w1.heap.size, 0, none⟩) N N) N (valsE sdC N (fun _ => zS)) := by rw [← made_sd]; exact hown
  have hb2 : Below w.heap.size w w2 := hb1.grown hgr hb1.size (by simp)
  have hs1 := hb1.size
  have HR : OwnE sdC 3 w2 w.heap.size w1.heap.size (some ⟨w1.heap.size, 0, none⟩) N (tilE 0 (gtF n f at') (fun _ => zS)) := by rw [tilE_zero]; exact ownE_row sdC_len (row_madeE hown') hs1
  clear hown hown' hgr hc
  go_wp2
  go_loopw [1, 32] (fun x i wr => ∃ k : Nat, k ≤ N ∧ i = .int .i64 k ∧ x = .int .i64 (gtA at' k) ∧ Below w.heap.size w wr ∧ OwnE sdC 3 wr w.heap.size w1.heap.size (some ⟨w1.heap.size, 0, none⟩) N (tilE k (gtF n f at') (fun _ => zS)) ∧ Hid (∀ j, j < k → gnOkK 3 n f (gtA at' j) = true)) (fun _ i _ => N - (intOf i).toNat)
  case atStart => exact ⟨0, Nat.zero_le _, rfl, by simp [gtA], hb2, HR, fun j hj => by omega⟩
  case round =>
    clear HR hb2
    obtain ⟨k, hk, rfl, rfl, hb, hr, hall⟩ := hrel
    by_cases hlt : k < N
    · obtain ⟨y, hy⟩ : ∃ y, gtA at' k = y := ⟨_, rfl⟩
      have hyr : -9223372036854775808 ≤ y ∧ y ≤ 9223372036854775807 := by unfold gtA at hy; omega
      rw [hy]
      go_wp2_with fail
      refine (getNums_any 3 (by decide) a b n c y f _ hn hcap hyr hu (h.grew hb)).mono ?_
      rintro e w3 ⟨hb3, ⟨hp, q3, rfl, o3⟩ | ⟨hp, rfl⟩⟩
      rotate_left
      · have HN : Hid (gtOk n f at' = false) := by
          show gtOk n f at' = false
          unfold gtOk
          rw [HN0.out, allg_no hlt (f := fun i => gnOkK 3 n f (gtA at' i)) (by rw [hy]; exact hp)]
          simp
        clear hall hr
        go_wp2
        go_ret3
        exact ⟨below_app hb hb3 hb.size, .inr ⟨HN.out, rfl⟩⟩
      · have hprg := gnOkK_rng hp
        have HA : Hid (∀ j, j < k + 1 → gnOkK 3 n f (gtA at' j) = true) := fun j hj => by
          by_cases e : j = k
          · subst e; rw [hy]; exact hp
          · exact hall.out j (by omega)
        have HY : Hid (y + 4 * ((3 : Nat) : Int) = gtA at' (k + 1)) := show _ = _ by rw [← hy]; unfold gtA; push_cast; omega
        have HF : Hid (gtF n f at' k = ⟨gnL n f y 0, gnL n f y 1, gnL n f y 2 == 1⟩) := by show _ = _; unfold gtF; rw [hy]
        have e0 := o3.cell 0 (by decide)
        have e1 := o3.cell 1 (by decide)
        have e2 := o3.cell 2 (by decide)
        rw [Nat.zero_add] at e0 e1 e2
        have hr3 := hr.grew hb3
        have hB3 := below_app hb hb3 hb.size
        have hne : q3 ≠ w1.heap.size := by have h1 := o3.1; have h2 := hr.2.1; omega
        rcases hr3.rd with h9 | ⟨o9, e9, h9⟩
        · omega
        simp only [Option.some.injEq, Addr.mk.injEq, and_true, true_and] at e9
        subst e9
        obtain ⟨c0, c1, c2⟩ : At3 w3 w1.heap.size (0 + k * 3) _ := At3_of (h9 k hlt)
        rw [Nat.zero_add] at c0 c1 c2
        have z0 := hr3.2.2.2 (k * 3)
        have z1 := hr3.2.2.2 (k * 3 + 1)
        have z2 := hr3.2.2.2 (k * 3 + 2)
        have R := hr3.putE sdC_len k hlt (gtF n f at' k)
        rw [tilE_step k (gtF n f at'), HF.out, Nat.zero_add] at R
        have hB4 := below_setCells' (g := w1.heap.size) hs1 (sdC ⟨gnL n f y 0, gnL n f y 1, gnL n f y 2 == 1⟩) (k * 3) w3 hB3
        generalize gnL n f y 0 = x0 at e0 R hB4 HF
        generalize gnL n f y 1 = x1 at e1 R hB4 HF
        generalize gnL n f y 2 = x2 at e2 R hB4 HF
        have HR2 : Hid (OwnE sdC 3 (((w3.setCell ⟨w1.heap.size, k * 3, none⟩ (.int .i64 x0)).setCell ⟨w1.heap.size, k * 3 + 1, none⟩ (.int .i64 x1)).setCell ⟨w1.heap.size, k * 3 + 2, none⟩ (.bool (x2 == 1))) w.heap.size w1.heap.size (some ⟨w1.heap.size, 0, none⟩) N (tilE (k + 1) (gtF n f at') (fun _ => zS))) := R
        have HB2 : Hid (Below w.heap.size w (((w3.setCell ⟨w1.heap.size, k * 3, none⟩ (.int .i64 x0)).setCell ⟨w1.heap.size, k * 3 + 1, none⟩ (.int .i64 x1)).setCell ⟨w1.heap.size, k * 3 + 2, none⟩ (.bool (x2 == 1)))) := hB4
        have y1 : (0 : Int) ≤ (k : Int) := by omega
        have y2 : (k : Int) < (N : Int) := by omega
        clear hall hy hp hr hb hb3 hr3 h9 R hB4 o3 HF
        have SK0 : Hid (w3.cell? ⟨q3, 0, none⟩ = some (.int .i64 x0) ∧ w3.cell? ⟨q3, 1, none⟩ = some (.int .i64 x1) ∧ w3.cell? ⟨q3, 2, none⟩ = some (.int .i64 x2)) := show _ ∧ _ from ⟨e0, e1, e2⟩
        have SK4 : ∀ (u : World) (v0 v1 v2 : Value), (u.cell? ⟨q3, 0, none⟩ = some (.int .i64 x0) ∧ u.cell? ⟨q3, 1, none⟩ = some (.int .i64 x1) ∧ u.cell? ⟨q3, 2, none⟩ = some (.int .i64 x2)) → (((u.setCell ⟨w1.heap.size, k * 3, none⟩ v0).setCell ⟨w1.heap.size, k * 3 + 1, none⟩ v1).setCell ⟨w1.heap.size, k * 3 + 2, none⟩ v2).cell? ⟨q3, 0, none⟩ = some (.int .i64 x0) ∧ (((u.setCell ⟨w1.heap.size, k * 3, none⟩ v0).setCell ⟨w1.heap.size, k * 3 + 1, none⟩ v1).setCell ⟨w1.heap.size, k * 3 + 2, none⟩ v2).cell? ⟨q3, 1, none⟩ = some (.int .i64 x1) ∧ (((u.setCell ⟨w1.heap.size, k * 3, none⟩ v0).setCell ⟨w1.heap.size, k * 3 + 1, none⟩ v1).setCell ⟨w1.heap.size, k * 3 + 2, none⟩ v2).cell? ⟨q3, 2, none⟩ = some (.int .i64 x2) := fun u v0 v1 v2 hS => by
          obtain ⟨p0, p1, p2⟩ := hS
          refine ⟨?_, ?_, ?_⟩
          all_goals (rw [World.cell?_setCell_other _ _ _ _ (by intro e; simp at e; try omega), World.cell?_setCell_other _ _ _ _ (by intro e; simp at e; try omega), World.cell?_setCell_other _ _ _ _ (by intro e; simp at e; try omega)]; assumption)
        go_wp2_with fail
        go_region_held (fun u : World => u.cell? ⟨q3, 0, none⟩ = some (.int .i64 x0) ∧ u.cell? ⟨q3, 1, none⟩ = some (.int .i64 x1) ∧ u.cell? ⟨q3, 2, none⟩ = some (.int .i64 x2)) (first | exact SK0.out | exact SK4 _ _ _ _ (by assumption) | go_keep) (fail)
        all_goals
          clear SK0 SK4 e0 e1 e2 c0 c1 c2 z0 z1 z2
          go_wp2
          go_roundw
          case rel => first | exact ⟨k + 1, by omega, by go_num, by rw [← HY.out]; rfl, HB2.out, HR2.out, HA⟩ | exact ⟨k + 1, by omega, by go_num, by rw [← HY.out]; rfl, HB2.out.drew, HR2.out, HA⟩ | ((repeat apply Exists.intro); exact ⟨⟨k + 1, by omega, by go_num, by rw [← HY.out]; rfl, HB2.out.drew, HR2.out, HA⟩, rfl⟩)
          case measure => simp [intOf]; omega
    · obtain rfl : k = N := by omega
      have HN : Hid (gtOk n f at' = true) := by
        show gtOk n f at' = true
        unfold gtOk
        rw [HK.out, HN0.out, allg_yes (f := fun i => gnOkK 3 n f (gtA at' i)) hall.out]
        rfl
      have ho := hr.congr (tilE_all (gtF n f at') (fun _ => zS) (Nat.le_refl k))
      clear hr hall
      go_wp2
      go_ret3
      exact ⟨hb, .inl ⟨HN.out, w1.heap.size, by rw [HN0.out]; rfl, by rw [HN0.out]; exact ho⟩⟩
end Go.Proofs.Ytpdoefcdajcloap
