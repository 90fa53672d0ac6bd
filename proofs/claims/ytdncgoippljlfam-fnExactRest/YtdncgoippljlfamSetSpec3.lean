/-
  Contracts of chapter 3's specification: Meet, Rest, Without. Own work.
-/
import Derived.Test.YtdncgoippljlfamSetSpec2
namespace Go.Proofs.Ytdncgoippljlfam
open Go.ChangeShapes Go.WideShapes Go.ChangeAt Go.RowKit

theorem filt_keep {n : Nat} {f : Nat → Int} {p : Int → Bool} (h : p (f n) = true) : (lst (n + 1) f).filter p = (lst n f).filter p ++ [f n] := by
  rw [lst_succ, List.filter_append]; simp [h]
theorem filt_drop {n : Nat} {f : Nat → Int} {p : Int → Bool} (h : p (f n) = false) : (lst (n + 1) f).filter p = (lst n f).filter p := by
  rw [lst_succ, List.filter_append]; simp [h]
theorem vals_snoc_list (L : List Int) (x : Int) : vals .i64 (L.length + 1) (el (L ++ [x])) = vals .i64 L.length (el L) ++ [.int .i64 x] := by
  rw [vals_one_snoc']
  congr 1
  · exact vals_congr fun i hi => el_left hi
  · rw [el_right (Nat.le_refl _), Nat.sub_self]; rfl
set_option maxHeartbeats 1000000 in
theorem specMeet_any (a a' : Option Addr) (b b' n c m c' : Nat) (f g : Nat → Int) (w : World) (hn : n ≤ 1048576) (hm : m ≤ 9223372036854775807) (h : Rd .i64 w b a n f) (h' : Rd .i64 w b' a' m g) :
    Calls Try.prog 14 #[.slice a n c, .slice a' m c'] w fun e w' => SetPost (mtL n f m g) w e w' := by
  obtain ⟨i0, hi, hz0, hz1, hz2⟩ := info_parts Try.infoInt
  go_enter Try.func14, Try.ntmps14
  go_wp2
  go_loopw [5, 6] (fun v i wr => ∃ k N : Nat, ∃ L : List Int, k ≤ n ∧ N ≤ k ∧ i = .int .i64 k ∧ Hid (L = (lst k f).filter (fun x => hs m g x) ∧ N = L.length) ∧ wr.ownsRow w.heap.size 3 1 v N (vals .i64 N (el L)) ∧ v ≠ .slice none 0 0 ∧ Below w.heap.size w wr) (fun _ i _ => n - (intOf i).toNat)
  case atStart => exact ⟨0, 0, [], Nat.zero_le _, Nat.le_refl _, rfl, ⟨rfl, rfl⟩, World.ownsRow_lit w #[] 0 (Nat.le_refl _) (by decide) rfl, by simp, (Below.refl _ _).alloc (Nat.le_refl _) _⟩
  case round =>
    obtain ⟨k, N, L, hk, hNk, rfl, HL, hown, hnil, hb⟩ := hrel
    by_cases hlt : k < n
    · rcases h.grew hb with h3 | ⟨o1, rfl, h3⟩
      · omega
      have e1 := h3 k hlt
      clear h3
      cases hh : hs m g (f k) with
      | false =>
        have HT : Hid (L = (lst (k + 1) f).filter (fun x => hs m g x) ∧ N = L.length) := ⟨by rw [filt_drop (by simp [hh])]; exact HL.out.1, HL.out.2⟩
        go_wp2_with fail
        refine (specHas_any a' b' m c' (f k) g _ hm (h'.grew hb)).mono ?_
        rintro e w' ⟨rfl, rfl⟩
        clear HL e1
        go_wp2
        go_roundw
        case rel => exact ⟨k + 1, N, L, by omega, by omega, by go_num, HT, hown, hnil, hb⟩
        case measure => simp [intOf]; omega
      | true =>
        have HT : Hid (L ++ [f k] = (lst (k + 1) f).filter (fun x => hs m g x) ∧ N + 1 = (L ++ [f k]).length) := ⟨by rw [filt_keep (by simp [hh]), ← HL.out.1], by rw [List.length_append, ← HL.out.2]; rfl⟩
        have HV : Hid (vals .i64 (N + 1) (el (L ++ [f k])) = vals .i64 N (el L) ++ [.int .i64 (f k)]) := show _ = _ by rw [HL.out.2]; exact vals_snoc_list L (f k)
        go_wp2_with fail
        refine (specHas_any a' b' m c' (f k) g _ hm (h'.grew hb)).mono ?_
        rintro e w' ⟨rfl, rfl⟩
        clear HL
        go_wp2_with (at_builtin; refine wpList_append_own _ rfl (.tmp 20) (.tmp 25) 22 rfl w.heap.size 3 i0 (.int .i64 0) 1 8 Try.underlying22 hi hz0 hz1 hz2 rfl (by decide) _ _ _ rfl (hown.alloc _) ⟨w'.heap.size, 0, none⟩ 1 1 [_] rfl rfl (news_one _ _ _) (by intro u hu; simp at hu; subst hu; rfl) (by unfold maxLen; omega) (by omega) (by have := hb.size; simp; omega) ?_)
        intro v4 w4 hown4 hgr4 hnil4
        have hb4 : Below w.heap.size w w4 := (hb.alloc hb.size _).grown hgr4 (by have := hb.size; simp; omega) (fun k hk => (hown.lt k hk).1)
        have hown5 : w4.ownsRow w.heap.size 3 1 v4 (N + 1) (vals .i64 (N + 1) (el (L ++ [f k]))) := by rw [HV.out]; exact hown4
        have hnil5 : v4 ≠ .slice none 0 0 := hnil4
        clear hown4 hgr4 hnil4 hown hnil hb e1 HV
        go_wp2
        go_roundw
        case rel => first | exact ⟨k + 1, N + 1, _, by omega, by omega, by go_num, HT, hown5, hnil5, hb4⟩ | ((repeat apply Exists.intro); exact ⟨⟨k + 1, N + 1, _, by omega, by omega, by go_num, HT, hown5, hnil5, hb4⟩, rfl⟩)
        case measure => simp [intOf]; omega
    · obtain rfl : k = n := by omega
      obtain ⟨q, cap, rfl, ho⟩ := own_of hown hnil
      have hl : lst N (el L) = mtL k f m g := by rw [HL.out.2, lst_el]; exact HL.out.1
      have HLL : Hid (lst N (el L) = mtL k f m g) := hl
      clear hown hnil HL hl
      go_wp2_with fail
      refine (specSetOf_list _ q N cap _ wr (by omega) ho.rd).mono ?_
      rintro e w3 hpost
      rw [HLL.out] at hpost
      obtain ⟨q3, c3, rfl, hb3, ho3⟩ := hpost.up hb
      go_wp2
      go_ret
      exact ⟨q3, c3, rfl, hb3, ho3⟩
set_option maxHeartbeats 1000000 in
theorem specRest_any (a a' : Option Addr) (b b' n c m c' : Nat) (f g : Nat → Int) (w : World) (hn : n ≤ 1048576) (hm : m ≤ 9223372036854775807) (h : Rd .i64 w b a n f) (h' : Rd .i64 w b' a' m g) :
    Calls Try.prog 16 #[.slice a n c, .slice a' m c'] w fun e w' => SetPost (rsL n f m g) w e w' := by
  obtain ⟨i0, hi, hz0, hz1, hz2⟩ := info_parts Try.infoInt
  go_enter Try.func16, Try.ntmps16
  go_wp2
  go_loopw [5, 6] (fun v i wr => ∃ k N : Nat, ∃ L : List Int, k ≤ n ∧ N ≤ k ∧ i = .int .i64 k ∧ Hid (L = (lst k f).filter (fun x => !hs m g x) ∧ N = L.length) ∧ wr.ownsRow w.heap.size 3 1 v N (vals .i64 N (el L)) ∧ v ≠ .slice none 0 0 ∧ Below w.heap.size w wr) (fun _ i _ => n - (intOf i).toNat)
  case atStart => exact ⟨0, 0, [], Nat.zero_le _, Nat.le_refl _, rfl, ⟨rfl, rfl⟩, World.ownsRow_lit w #[] 0 (Nat.le_refl _) (by decide) rfl, by simp, (Below.refl _ _).alloc (Nat.le_refl _) _⟩
  case round =>
    obtain ⟨k, N, L, hk, hNk, rfl, HL, hown, hnil, hb⟩ := hrel
    by_cases hlt : k < n
    · rcases h.grew hb with h3 | ⟨o1, rfl, h3⟩
      · omega
      have e1 := h3 k hlt
      clear h3
      cases hh : hs m g (f k) with
      | true =>
        have HT : Hid (L = (lst (k + 1) f).filter (fun x => !hs m g x) ∧ N = L.length) := ⟨by rw [filt_drop (by simp [hh])]; exact HL.out.1, HL.out.2⟩
        go_wp2_with fail
        refine (specHas_any a' b' m c' (f k) g _ hm (h'.grew hb)).mono ?_
        rintro e w' ⟨rfl, rfl⟩
        clear HL e1
        go_wp2
        go_roundw
        case rel => exact ⟨k + 1, N, L, by omega, by omega, by go_num, HT, hown, hnil, hb⟩
        case measure => simp [intOf]; omega
      | false =>
        have HT : Hid (L ++ [f k] = (lst (k + 1) f).filter (fun x => !hs m g x) ∧ N + 1 = (L ++ [f k]).length) := ⟨by rw [filt_keep (by simp [hh]), ← HL.out.1], by rw [List.length_append, ← HL.out.2]; rfl⟩
        have HV : Hid (vals .i64 (N + 1) (el (L ++ [f k])) = vals .i64 N (el L) ++ [.int .i64 (f k)]) := show _ = _ by rw [HL.out.2]; exact vals_snoc_list L (f k)
        go_wp2_with fail
        refine (specHas_any a' b' m c' (f k) g _ hm (h'.grew hb)).mono ?_
        rintro e w' ⟨rfl, rfl⟩
        clear HL
        go_wp2_with (at_builtin; refine wpList_append_own _ rfl (.tmp 21) (.tmp 26) 22 rfl w.heap.size 3 i0 (.int .i64 0) 1 8 Try.underlying22 hi hz0 hz1 hz2 rfl (by decide) _ _ _ rfl (hown.alloc _) ⟨w'.heap.size, 0, none⟩ 1 1 [_] rfl rfl (news_one _ _ _) (by intro u hu; simp at hu; subst hu; rfl) (by unfold maxLen; omega) (by omega) (by have := hb.size; simp; omega) ?_)
        intro v4 w4 hown4 hgr4 hnil4
        have hb4 : Below w.heap.size w w4 := (hb.alloc hb.size _).grown hgr4 (by have := hb.size; simp; omega) (fun k hk => (hown.lt k hk).1)
        have hown5 : w4.ownsRow w.heap.size 3 1 v4 (N + 1) (vals .i64 (N + 1) (el (L ++ [f k]))) := by rw [HV.out]; exact hown4
        have hnil5 : v4 ≠ .slice none 0 0 := hnil4
        clear hown4 hgr4 hnil4 hown hnil hb e1 HV
        go_wp2
        go_roundw
        case rel => first | exact ⟨k + 1, N + 1, _, by omega, by omega, by go_num, HT, hown5, hnil5, hb4⟩ | ((repeat apply Exists.intro); exact ⟨⟨k + 1, N + 1, _, by omega, by omega, by go_num, HT, hown5, hnil5, hb4⟩, rfl⟩)
        case measure => simp [intOf]; omega
    · obtain rfl : k = n := by omega
      obtain ⟨q, cap, rfl, ho⟩ := own_of hown hnil
      have hl : lst N (el L) = rsL k f m g := by rw [HL.out.2, lst_el]; exact HL.out.1
      have HLL : Hid (lst N (el L) = rsL k f m g) := hl
      clear hown hnil HL hl
      go_wp2_with fail
      refine (specSetOf_list _ q N cap _ wr (by omega) ho.rd).mono ?_
      rintro e w3 hpost
      rw [HLL.out] at hpost
      obtain ⟨q3, c3, rfl, hb3, ho3⟩ := hpost.up hb
      go_wp2
      go_ret
      exact ⟨q3, c3, rfl, hb3, ho3⟩
/-- the list without one number -/
def woL (n : Nat) (f : Nat → Int) (x : Int) : List Int := rsL n f 1 (fun _ => x)
end Go.Proofs.Ytdncgoippljlfam
