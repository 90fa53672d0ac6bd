/-
  Contracts of chapter 3's specification: With, Without, Union, Meet, Rest, Within. Contracts of chapter 3's specification: Meet, Rest, Without. What the laws of chapter 3 need: which numbers are in the sets, how many, and two lists held against each other. Own work.
-/
import Derived.Test.YtnlnledijpcjpabSetsA
namespace Go.Proofs.Ytnlnledijpcjpab
open Go.ChangeShapes Go.WideShapes Go.ChangeAt Go.RowKit
set_option maxRecDepth 100000

def sLen (L : List Int) : Nat := (setL L).length
def sEl (L : List Int) : Nat → Int := el (setL L)
theorem sLen_le (L : List Int) : sLen L ≤ L.length := setL_len L
/-- what a function answers that answers a set: of the numbers of L -/
def SetPost (L : List Int) (w : World) (e : Ending) (w' : World) : Prop :=
  ∃ q cap, e = .returned (.slice (some ⟨q, 0, none⟩) (sLen L) cap) ∧ Below w.heap.size w w' ∧ Own .i64 w' w.heap.size q (some ⟨q, 0, none⟩) (sLen L) (sEl L)
theorem SetPost.up {L : List Int} {w w1 : World} {e : Ending} {w' : World} (h : SetPost L w1 e w') (hb : Below w.heap.size w w1) : SetPost L w e w' := by
  obtain ⟨q, cap, h1, h2, h3⟩ := h
  exact ⟨q, cap, h1, below_app hb h2 hb.size, Nat.le_trans hb.size h3.1, h3.2⟩
def wtL (n : Nat) (f : Nat → Int) (x : Int) : List Int := lst n f ++ [x]
def unL (n : Nat) (f : Nat → Int) (m : Nat) (g : Nat → Int) : List Int := lst n f ++ lst m g
def mtL (n : Nat) (f : Nat → Int) (m : Nat) (g : Nat → Int) : List Int := (lst n f).filter (fun x => hs m g x)
def rsL (n : Nat) (f : Nat → Int) (m : Nat) (g : Nat → Int) : List Int := (lst n f).filter (fun x => !hs m g x)
def wn (n : Nat) (f : Nat → Int) (m : Nat) (g : Nat → Int) : Bool := (lst n f).all (fun x => hs m g x)
theorem specSetOf_list (a : Option Addr) (b n c : Nat) (f : Nat → Int) (w : World) (hn : n ≤ 3000000) (h : Rd .i64 w b a n f) :
    Calls Try.prog 73 #[.slice a n c] w fun e w' => SetPost (lst n f) w e w' := specSetOf_any a b n c f w hn h
theorem post_of_list {L : List Int} {w : World} {e : Ending} {w' : World} (h : SetPost (lst L.length (el L)) w e w') : SetPost L w e w' := by rw [lst_el] at h; exact h
theorem news_one (w : World) (L : List Value) (t : TypeId) : ∀ j u, L[j]? = some u → (w.alloc (.cells L.toArray t)).cell? ((⟨w.heap.size, 0, none⟩ : Addr).add j) = some u := news_row (heap_alloc_new w _)

set_option maxHeartbeats 1000000 in
theorem specUnion_any (ad bd' : Addr) (b b' n c m c' : Nat) (f g : Nat → Int) (w : World) (hn : n ≤ 1048576) (hm : m ≤ 1048576) (h : Rd .i64 w b (some ad) n f) (h' : Rd .i64 w b' (some bd') m g) :
    Calls Try.prog 16 #[.slice (some ad) n c, .slice (some bd') m c'] w fun e w' => SetPost (unL n f m g) w e w' := by
  obtain ⟨i0, hi, hz0, hz1, hz2⟩ := info_parts Try.infoInt
  have hb0 : Below w.heap.size w (w.alloc (.cells #[] 3)) := (Below.refl _ _).alloc (Nat.le_refl _) _
  have hown0 : (w.alloc (.cells #[] 3)).ownsRow w.heap.size 3 1 (.slice (some ⟨w.heap.size, 0, none⟩) 0 0) 0 [] := World.ownsRow_lit w #[] 0 (Nat.le_refl _) (by decide) rfl
  have hnews := (h.grew hb0).news'
  go_enter Try.func16, Try.ntmps16
  go_wp2_with (at_builtin; refine wpList_append_own _ rfl (.tmp 5) (.tmp 6) 24 rfl w.heap.size 3 i0 (.int .i64 0) 1 8 Try.underlying24 hi hz0 hz1 hz2 rfl (by decide) _ _ _ rfl hown0 ad n c (vals .i64 n f) rfl (by rw [vals_len, Nat.mul_one]) hnews (vals_one _ _ _) (by unfold maxLen; omega) (by omega) hb0.size ?_)
  intro v1 w1 hown1 hgr1 hnil1
  have hb1 : Below w.heap.size w w1 := hb0.grown hgr1 hb0.size (by intro k hk; simp [Value.ownBlock] at hk; omega)
  have hnews1 := (h'.grew hb1).news'
  clear hown0 hgr1 hnews h hb0 h'
  go_wp2_with (at_builtin; refine wpList_append_own _ rfl (.tmp 7) (.tmp 8) 24 rfl w.heap.size 3 i0 (.int .i64 0) 1 8 Try.underlying24 hi hz0 hz1 hz2 rfl (by decide) _ _ _ rfl hown1 bd' m c' (vals .i64 m g) rfl (by rw [vals_len, Nat.mul_one]) hnews1 (vals_one _ _ _) (by unfold maxLen; omega) (by omega) hb1.size ?_)
  intro v2 w2 hown2 hgr2 hnil2
  have hb2 : Below w.heap.size w w2 := hb1.grown hgr2 hb1.size (fun k hk => (hown1.lt k hk).1)
  have hown3 : w2.ownsRow w.heap.size 3 1 v2 (n + m) (vals .i64 (n + m) (cat n f g)) := by
    rw [← vals_cat]; exact hown2
  have hnil3 : v2 ≠ .slice none 0 0 := fun e => by first | exact hnil2 e | exact hnil1 (hnil2.1 e).1
  obtain ⟨q, cap, rfl, ho⟩ := own_of hown3 hnil3
  clear hown2 hown3 hgr2 hnil2 hown1 hnil1 hb1 hnil3 hnews1
  go_wp2_with fail
  refine (specSetOf_list _ q (n + m) cap _ w2 (by omega) ho.rd).mono ?_
  rintro e w3 hpost
  rw [lst_cat] at hpost
  obtain ⟨q3, c3, rfl, hb3, ho3⟩ := (show SetPost (unL n f m g) w2 e w3 from hpost).up hb2
  go_wp2
  go_ret
  exact ⟨q3, c3, rfl, hb3, ho3⟩
theorem wn_no {n m i : Nat} {f g : Nat → Int} (hi : i < n) (h : hs m g (f i) = false) : wn n f m g = false := by
  unfold wn
  rw [List.all_eq_false]
  exact ⟨f i, mem_lst.2 ⟨i, hi, rfl⟩, by simp [h]⟩
theorem wn_yes {n m : Nat} {f g : Nat → Int} (h : ∀ i, i < n → hs m g (f i) = true) : wn n f m g = true := by
  unfold wn
  rw [List.all_eq_true]
  intro x hx
  obtain ⟨i, hi, rfl⟩ := mem_lst.1 hx
  exact h i hi
set_option maxHeartbeats 400000 in
theorem specWithin_any (a a' : Option Addr) (b b' n c m c' : Nat) (f g : Nat → Int) (w : World) (hn : n ≤ 9223372036854775807) (hm : m ≤ 9223372036854775807) (h : Rd .i64 w b a n f) (h' : Rd .i64 w b' a' m g) :
    Calls Try.prog 20 #[.slice a n c, .slice a' m c'] w fun e w' => e = .returned (.bool (wn n f m g)) ∧ w' = w := by
  go_enter Try.func20, Try.ntmps20
  go_wp2
  go_loop [5] (fun i => ∃ k : Nat, k ≤ n ∧ i = .int .i64 k ∧ Hid (∀ j, j < k → hs m g (f j) = true)) (fun i => n - (intOf i).toNat)
  case atStart => exact ⟨0, Nat.zero_le _, rfl, fun j hj => by omega⟩
  case round =>
    obtain ⟨k, hk, rfl, hall⟩ := hrel
    by_cases hlt : k < n
    · rcases h with h3 | ⟨o1, rfl, h3⟩
      · omega
      have e1 := h3 k hlt
      clear h3
      cases hh : hs m g (f k) with
      | true =>
        have hall2 : Hid (∀ j, j < k + 1 → hs m g (f j) = true) := fun j hj => by
          by_cases e : j = k
          · subst e; exact hh
          · exact hall j (by omega)
        clear hall
        go_wp2_with fail
        refine (specHas_any a' b' m c' (f k) g _ hm h').mono ?_
        rintro e w' ⟨rfl, rfl⟩
        go_wp2
        go_round
        case rel => exact ⟨k + 1, by omega, by go_num, hall2⟩
        case measure => simp [intOf]; omega
      | false =>
        have HN : Hid (wn n f m g = false) := wn_no hlt hh
        clear hall
        go_wp2_with fail
        refine (specHas_any a' b' m c' (f k) g _ hm h').mono ?_
        rintro e w' ⟨rfl, rfl⟩
        go_wp2
        go_ret
        exact ⟨ret_bool HN.out.symm, rfl⟩
    · have HY : Hid (wn n f m g = true) := wn_yes (fun i hi => hall i (by omega))
      clear hall h h'
      go_wp2
      go_ret
      exact ⟨ret_bool HY.out.symm, rfl⟩
end Go.Proofs.Ytnlnledijpcjpab
namespace Go.Proofs.Ytnlnledijpcjpab
open Go.ChangeShapes Go.WideShapes Go.ChangeAt Go.RowKit
set_option maxRecDepth 100000

theorem filt_keep {n : Nat} {f : Nat → Int} {p : Int → Bool} (h : p (f n) = true) : (lst (n + 1) f).filter p = (lst n f).filter p ++ [f n] := by
  rw [lst_succ, List.filter_append]; simp [h]
theorem filt_drop {n : Nat} {f : Nat → Int} {p : Int → Bool} (h : p (f n) = false) : (lst (n + 1) f).filter p = (lst n f).filter p := by
  rw [lst_succ, List.filter_append]; simp [h]
theorem vals_snoc_list (L : List Int) (x : Int) : vals .i64 (L.length + 1) (el (L ++ [x])) = vals .i64 L.length (el L) ++ [.int .i64 x] := by
  rw [vals_one_snoc']
  congr 1
  · exact vals_congr fun i hi => el_left hi
  · rw [el_right (Nat.le_refl _), Nat.sub_self]; rfl
set_option maxHeartbeats 1000000 in
theorem specMeet_any (a a' : Option Addr) (b b' n c m c' : Nat) (f g : Nat → Int) (w : World) (hn : n ≤ 1048576) (hm : m ≤ 9223372036854775807) (h : Rd .i64 w b a n f) (h' : Rd .i64 w b' a' m g) :
    Calls Try.prog 17 #[.slice a n c, .slice a' m c'] w fun e w' => SetPost (mtL n f m g) w e w' := by
  obtain ⟨i0, hi, hz0, hz1, hz2⟩ := info_parts Try.infoInt
  go_enter Try.func17, Try.ntmps17
  go_wp2
  go_loopw [5, 6] (fun v i wr => ∃ k N : Nat, ∃ L : List Int, k ≤ n ∧ N ≤ k ∧ i = .int .i64 k ∧ Hid (L = (lst k f).filter (fun x => hs m g x) ∧ N = L.length) ∧ wr.ownsRow w.heap.size 3 1 v N (vals .i64 N (el L)) ∧ v ≠ .slice none 0 0 ∧ Below w.heap.size w wr) (fun _ i _ => n - (intOf i).toNat)
  case atStart => exact ⟨0, 0, [], Nat.zero_le _, Nat.le_refl _, rfl, ⟨rfl, rfl⟩, World.ownsRow_lit w #[] 0 (Nat.le_refl _) (by decide) rfl, by simp, (Below.refl _ _).alloc (Nat.le_refl _) _⟩
  case round =>
    obtain ⟨k, N, L, hk, hNk, rfl, HL, hown, hnil, hb⟩ := hrel
    by_cases hlt : k < n
    · rcases h.grew hb with h3 | ⟨o1, rfl, h3⟩
      · omega
      have e1 := h3 k hlt
      clear h3
      cases hh : hs m g (f k) with
      | false =>
        have HT : Hid (L = (lst (k + 1) f).filter (fun x => hs m g x) ∧ N = L.length) := ⟨by rw [filt_drop (by simp [hh])]; exact HL.out.1, HL.out.2⟩
        go_wp2_with fail
        refine (specHas_any a' b' m c' (f k) g _ hm (h'.grew hb)).mono ?_
        rintro e w' ⟨rfl, rfl⟩
        clear HL e1
        go_wp2
        go_roundw
        case rel => exact ⟨k + 1, N, L, by omega, by omega, by go_num, HT, hown, hnil, hb⟩
        case measure => simp [intOf]; omega
      | true =>
        have HT : Hid (L ++ [f k] = (lst (k + 1) f).filter (fun x => hs m g x) ∧ N + 1 = (L ++ [f k]).length) := ⟨by rw [filt_keep (by simp [hh]), ← HL.out.1], by rw [List.length_append, ← HL.out.2]; rfl⟩
        have HV : Hid (vals .i64 (N + 1) (el (L ++ [f k])) = vals .i64 N (el L) ++ [.int .i64 (f k)]) := show _ = _ by rw [HL.out.2]; exact vals_snoc_list L (f k)
        go_wp2_with fail
        refine (specHas_any a' b' m c' (f k) g _ hm (h'.grew hb)).mono ?_
        rintro e w' ⟨rfl, rfl⟩
        clear HL
        go_wp2_with (at_builtin; refine wpList_append_own _ rfl (.tmp 20) (.tmp 25) 24 rfl w.heap.size 3 i0 (.int .i64 0) 1 8 Try.underlying24 hi hz0 hz1 hz2 rfl (by decide) _ _ _ rfl (hown.alloc _) ⟨w'.heap.size, 0, none⟩ 1 1 [_] rfl rfl (news_one _ _ _) (by intro u hu; simp at hu; subst hu; rfl) (by unfold maxLen; omega) (by omega) (by have := hb.size; simp; omega) ?_)
        intro v4 w4 hown4 hgr4 hnil4
        have hb4 : Below w.heap.size w w4 := (hb.alloc hb.size _).grown hgr4 (by have := hb.size; simp; omega) (fun k hk => (hown.lt k hk).1)
        have hown5 : w4.ownsRow w.heap.size 3 1 v4 (N + 1) (vals .i64 (N + 1) (el (L ++ [f k]))) := by rw [HV.out]; exact hown4
        have hnil5 : v4 ≠ .slice none 0 0 := hnil4
        clear hown4 hgr4 hnil4 hown hnil hb e1 HV
        go_wp2
        go_roundw
        case rel => first | exact ⟨k + 1, N + 1, _, by omega, by omega, by go_num, HT, hown5, hnil5, hb4⟩ | ((repeat apply Exists.intro); exact ⟨⟨k + 1, N + 1, _, by omega, by omega, by go_num, HT, hown5, hnil5, hb4⟩, rfl⟩)
        case measure => simp [intOf]; omega
    · obtain rfl : k = n := by omega
      obtain ⟨q, cap, rfl, ho⟩ := own_of hown hnil
      have hl : lst N (el L) = mtL k f m g := by rw [HL.out.2, lst_el]; exact HL.out.1
      have HLL : Hid (lst N (el L) = mtL k f m g) := hl
      clear hown hnil HL hl
      go_wp2_with fail
      refine (specSetOf_list _ q N cap _ wr (by omega) ho.rd).mono ?_
      rintro e w3 hpost
      rw [HLL.out] at hpost
      obtain ⟨q3, c3, rfl, hb3, ho3⟩ := hpost.up hb
      go_wp2
      go_ret
      exact ⟨q3, c3, rfl, hb3, ho3⟩
set_option maxHeartbeats 1000000 in
theorem specRest_any (a a' : Option Addr) (b b' n c m c' : Nat) (f g : Nat → Int) (w : World) (hn : n ≤ 1048576) (hm : m ≤ 9223372036854775807) (h : Rd .i64 w b a n f) (h' : Rd .i64 w b' a' m g) :
    Calls Try.prog 18 #[.slice a n c, .slice a' m c'] w fun e w' => SetPost (rsL n f m g) w e w' := by
  obtain ⟨i0, hi, hz0, hz1, hz2⟩ := info_parts Try.infoInt
  go_enter Try.func18, Try.ntmps18
  go_wp2
  go_loopw [5, 6] (fun v i wr => ∃ k N : Nat, ∃ L : List Int, k ≤ n ∧ N ≤ k ∧ i = .int .i64 k ∧ Hid (L = (lst k f).filter (fun x => !hs m g x) ∧ N = L.length) ∧ wr.ownsRow w.heap.size 3 1 v N (vals .i64 N (el L)) ∧ v ≠ .slice none 0 0 ∧ Below w.heap.size w wr) (fun _ i _ => n - (intOf i).toNat)
  case atStart => exact ⟨0, 0, [], Nat.zero_le _, Nat.le_refl _, rfl, ⟨rfl, rfl⟩, World.ownsRow_lit w #[] 0 (Nat.le_refl _) (by decide) rfl, by simp, (Below.refl _ _).alloc (Nat.le_refl _) _⟩
  case round =>
    obtain ⟨k, N, L, hk, hNk, rfl, HL, hown, hnil, hb⟩ := hrel
    by_cases hlt : k < n
    · rcases h.grew hb with h3 | ⟨o1, rfl, h3⟩
      · omega
      have e1 := h3 k hlt
      clear h3
      cases hh : hs m g (f k) with
      | true =>
        have HT : Hid (L = (lst (k + 1) f).filter (fun x => !hs m g x) ∧ N = L.length) := ⟨by rw [filt_drop (by simp [hh])]; exact HL.out.1, HL.out.2⟩
        go_wp2_with fail
        refine (specHas_any a' b' m c' (f k) g _ hm (h'.grew hb)).mono ?_
        rintro e w' ⟨rfl, rfl⟩
        clear HL e1
        go_wp2
        go_roundw
        case rel => exact ⟨k + 1, N, L, by omega, by omega, by go_num, HT, hown, hnil, hb⟩
        case measure => simp [intOf]; omega
      | false =>
        have HT : Hid (L ++ [f k] = (lst (k + 1) f).filter (fun x => !hs m g x) ∧ N + 1 = (L ++ [f k]).length) := ⟨by rw [filt_keep (by simp [hh]), ← HL.out.1], by rw [List.length_append, ← HL.out.2]; rfl⟩
        have HV : Hid (vals .i64 (N + 1) (el (L ++ [f k])) = vals .i64 N (el L) ++ [.int .i64 (f k)]) := show _ = _ by rw [HL.out.2]; exact vals_snoc_list L (f k)
        go_wp2_with fail
        refine (specHas_any a' b' m c' (f k) g _ hm (h'.grew hb)).mono ?_
        rintro e w' ⟨rfl, rfl⟩
        clear HL
        go_wp2_with (at_builtin; refine wpList_append_own _ rfl (.tmp 21) (.tmp 26) 24 rfl w.heap.size 3 i0 (.int .i64 0) 1 8 Try.underlying24 hi hz0 hz1 hz2 rfl (by decide) _ _ _ rfl (hown.alloc _) ⟨w'.heap.size, 0, none⟩ 1 1 [_] rfl rfl (news_one _ _ _) (by intro u hu; simp at hu; subst hu; rfl) (by unfold maxLen; omega) (by omega) (by have := hb.size; simp; omega) ?_)
        intro v4 w4 hown4 hgr4 hnil4
        have hb4 : Below w.heap.size w w4 := (hb.alloc hb.size _).grown hgr4 (by have := hb.size; simp; omega) (fun k hk => (hown.lt k hk).1)
        have hown5 : w4.ownsRow w.heap.size 3 1 v4 (N + 1) (vals .i64 (N + 1) (el (L ++ [f k]))) := by rw [HV.out]; exact hown4
        have hnil5 : v4 ≠ .slice none 0 0 := hnil4
        clear hown4 hgr4 hnil4 hown hnil hb e1 HV
        go_wp2
        go_roundw
        case rel => first | exact ⟨k + 1, N + 1, _, by omega, by omega, by go_num, HT, hown5, hnil5, hb4⟩ | ((repeat apply Exists.intro); exact ⟨⟨k + 1, N + 1, _, by omega, by omega, by go_num, HT, hown5, hnil5, hb4⟩, rfl⟩)
        case measure => simp [intOf]; omega
    · obtain rfl : k = n := by omega
      obtain ⟨q, cap, rfl, ho⟩ := own_of hown hnil
      have hl : lst N (el L) = rsL k f m g := by rw [HL.out.2, lst_el]; exact HL.out.1
      have HLL : Hid (lst N (el L) = rsL k f m g) := hl
      clear hown hnil HL hl
      go_wp2_with fail
      refine (specSetOf_list _ q N cap _ wr (by omega) ho.rd).mono ?_
      rintro e w3 hpost
      rw [HLL.out] at hpost
      obtain ⟨q3, c3, rfl, hb3, ho3⟩ := hpost.up hb
      go_wp2
      go_ret
      exact ⟨q3, c3, rfl, hb3, ho3⟩
/-- the list without one number -/
def woL (n : Nat) (f : Nat → Int) (x : Int) : List Int := rsL n f 1 (fun _ => x)
end Go.Proofs.Ytnlnledijpcjpab
namespace Go.Proofs.Ytnlnledijpcjpab
open Go.ChangeShapes Go.WideShapes Go.ChangeAt Go.RowKit
set_option maxRecDepth 100000

/-- whether two lists are the same -/
def sm (n : Nat) (f : Nat → Int) (m : Nat) (g : Nat → Int) : Bool := lst n f == lst m g
theorem lst_s (L : List Int) : lst (sLen L) (sEl L) = setL L := lst_el (setL L)
theorem hs_iff {n : Nat} {f : Nat → Int} {x : Int} : hs n f x = true ↔ x ∈ lst n f := by unfold hs; exact List.contains_iff_mem
theorem hs_not {n : Nat} {f : Nat → Int} {x : Int} : hs n f x = false ↔ x ∉ lst n f := by
  rw [← hs_iff]; cases hs n f x <;> simp
theorem mem_s {L : List Int} {x : Int} : x ∈ lst (sLen L) (sEl L) ↔ x ∈ L := by rw [lst_s]; exact mem_setL
theorem mem_wt {n : Nat} {f : Nat → Int} {x y : Int} : y ∈ wtL n f x ↔ y ∈ lst n f ∨ y = x := by unfold wtL; simp
theorem mem_un {n m : Nat} {f g : Nat → Int} {y : Int} : y ∈ unL n f m g ↔ y ∈ lst n f ∨ y ∈ lst m g := by unfold unL; simp
theorem mem_mt {n m : Nat} {f g : Nat → Int} {y : Int} : y ∈ mtL n f m g ↔ y ∈ lst n f ∧ y ∈ lst m g := by unfold mtL; rw [List.mem_filter, hs_iff]
theorem mem_rs {n m : Nat} {f g : Nat → Int} {y : Int} : y ∈ rsL n f m g ↔ y ∈ lst n f ∧ y ∉ lst m g := by
  unfold rsL
  rw [List.mem_filter]
  constructor
  · rintro ⟨h1, h2⟩
    exact ⟨h1, hs_not.1 (by simpa using h2)⟩
  · rintro ⟨h1, h2⟩
    exact ⟨h1, by rw [hs_not.2 h2]; rfl⟩
theorem mem_wo {n : Nat} {f : Nat → Int} {x y : Int} : y ∈ woL n f x ↔ y ∈ lst n f ∧ y ≠ x := by
  unfold woL
  rw [mem_rs]
  have e : lst 1 (fun _ => x) = [x] := rfl
  rw [e]; simp
theorem s_congr {L M : List Int} (h : ∀ x, x ∈ L ↔ x ∈ M) : sLen L = sLen M ∧ sEl L = sEl M := by
  unfold sLen sEl
  rw [setL_congr h]
  exact ⟨rfl, rfl⟩
theorem sLen_of (n : Nat) (f : Nat → Int) : sLen (lst n f) ≤ n := by have := sLen_le (lst n f); rwa [lst_len] at this
theorem sLen_wt (n : Nat) (f : Nat → Int) (x : Int) : sLen (wtL n f x) ≤ n + 1 := by
  have := sLen_le (wtL n f x)
  unfold wtL at this ⊢
  rw [List.length_append, lst_len] at this
  exact this
theorem sLen_un (n m : Nat) (f g : Nat → Int) : sLen (unL n f m g) ≤ n + m := by
  have := sLen_le (unL n f m g)
  unfold unL at this ⊢
  rw [List.length_append, lst_len, lst_len] at this
  exact this
theorem sLen_mt (n m : Nat) (f g : Nat → Int) : sLen (mtL n f m g) ≤ n := by
  have h1 := sLen_le (mtL n f m g)
  have h2 : (mtL n f m g).length ≤ (lst n f).length := List.length_filter_le _ _
  rw [lst_len] at h2
  omega
theorem sLen_rs (n m : Nat) (f g : Nat → Int) : sLen (rsL n f m g) ≤ n := by
  have h1 := sLen_le (rsL n f m g)
  have h2 : (rsL n f m g).length ≤ (lst n f).length := List.length_filter_le _ _
  rw [lst_len] at h2
  omega
theorem sLen_wo (n : Nat) (f : Nat → Int) (x : Int) : sLen (woL n f x) ≤ n := sLen_rs n 1 f _
theorem wn_iff {n m : Nat} {f g : Nat → Int} : wn n f m g = true ↔ ∀ x, x ∈ lst n f → x ∈ lst m g := by
  unfold wn
  rw [List.all_eq_true]
  exact ⟨fun h x hx => hs_iff.1 (h x hx), fun h x hx => hs_iff.2 (h x hx)⟩
theorem s_asc (L : List Int) {i j : Nat} (hij : i < j) (hj : j < sLen L) : sEl L i < sEl L j := asc_lt (asc_setL L) hij hj
theorem asc_filter {L : List Int} (h : Asc L) (p : Int → Bool) : Asc (L.filter p) := List.Pairwise.sublist List.filter_sublist h
theorem len_parts (L : List Int) (p : Int → Bool) : (L.filter p).length + (L.filter (fun x => !p x)).length = L.length := by
  induction L with
  | nil => rfl
  | cons a L ih =>
    cases h : p a with
    | true => simp [h]; omega
    | false => simp [h]; omega
/-- how many are in two sets together -/
theorem s_sum (n m : Nat) (f g : Nat → Int) : sLen (unL n f m g) + sLen (mtL n f m g) = sLen (lst n f) + sLen (lst m g) := by
  have h1 := len_parts (setL (unL n f m g)) (fun x => hs n f x)
  have h2 := len_parts (setL (lst m g)) (fun x => hs n f x)
  have e1 : (setL (unL n f m g)).filter (fun x => hs n f x) = setL (lst n f) := setL_eq (asc_filter (asc_setL _) _) fun x => by
    rw [List.mem_filter, mem_setL, mem_un, hs_iff]
    exact ⟨fun h => h.2, fun h => ⟨.inl h, h⟩⟩
  have e2 : (setL (unL n f m g)).filter (fun x => !hs n f x) = (setL (lst m g)).filter (fun x => !hs n f x) := asc_unique (asc_filter (asc_setL _) _) (asc_filter (asc_setL _) _) fun x => by
    rw [List.mem_filter, List.mem_filter, mem_setL, mem_setL, mem_un]
    constructor
    · rintro ⟨h | h, k⟩
      · rw [hs_iff.2 h] at k; cases k
      · exact ⟨h, k⟩
    · rintro ⟨h, k⟩
      exact ⟨.inr h, k⟩
  have e3 : (setL (lst m g)).filter (fun x => hs n f x) = setL (mtL n f m g) := setL_eq (asc_filter (asc_setL _) _) fun x => by
    rw [List.mem_filter, mem_setL, mem_mt, hs_iff]
    exact ⟨fun h => ⟨h.2, h.1⟩, fun h => ⟨h.2, h.1⟩⟩
  rw [e1, e2] at h1
  rw [e3] at h2
  unfold sLen
  omega
theorem SetPost.congr {L M : List Int} {w : World} {e : Ending} {w' : World} (h : SetPost L w e w') (hm : ∀ x, x ∈ L ↔ x ∈ M) : SetPost M w e w' := by
  obtain ⟨e1, e2⟩ := s_congr hm
  unfold SetPost at h ⊢
  rw [← e1, ← e2]
  exact h
theorem wo_wt {n : Nat} {f : Nat → Int} {x : Int} : ∀ y, y ∈ woL (sLen (wtL n f x)) (sEl (wtL n f x)) x ↔ y ∈ woL n f x := fun y => by
  rw [mem_wo, mem_wo, mem_s, mem_wt]
  constructor
  · rintro ⟨h | h, k⟩
    · exact ⟨h, k⟩
    · exact absurd h k
  · rintro ⟨h, k⟩
    exact ⟨.inl h, k⟩
theorem wt_wo {n : Nat} {f : Nat → Int} {x : Int} : ∀ y, y ∈ wtL (sLen (woL n f x)) (sEl (woL n f x)) x ↔ y ∈ wtL n f x := fun y => by
  rw [mem_wt, mem_wt, mem_s, mem_wo]
  constructor
  · rintro (⟨h, _⟩ | h)
    · exact .inl h
    · exact .inr h
  · rintro (h | h)
    · by_cases e : y = x
      · exact .inr e
      · exact .inl ⟨h, e⟩
    · exact .inr h
theorem un_parts {n m : Nat} {f g : Nat → Int} : ∀ y, y ∈ unL (sLen (mtL n f m g)) (sEl (mtL n f m g)) (sLen (rsL n f m g)) (sEl (rsL n f m g)) ↔ y ∈ lst n f := fun y => by
  rw [mem_un, mem_s, mem_s, mem_mt, mem_rs]
  constructor
  · rintro (⟨h, _⟩ | ⟨h, _⟩) <;> exact h
  · intro h
    by_cases e : y ∈ lst m g
    · exact .inl ⟨h, e⟩
    · exact .inr ⟨h, e⟩
theorem has_wt (n : Nat) (f : Nat → Int) (x : Int) : hs (sLen (wtL n f x)) (sEl (wtL n f x)) x = true := hs_iff.2 (mem_s.2 (mem_wt.2 (.inr rfl)))
theorem has_wo (n : Nat) (f : Nat → Int) (x : Int) : hs (sLen (woL n f x)) (sEl (woL n f x)) x = false := hs_not.2 fun h => (mem_wo.1 (mem_s.1 h)).2 rfl
theorem in_set (n : Nat) (f : Nat → Int) : wn n f (sLen (lst n f)) (sEl (lst n f)) = true := wn_iff.2 fun _ h => mem_s.2 h
theorem set_in (n : Nat) (f : Nat → Int) : wn (sLen (lst n f)) (sEl (lst n f)) n f = true := wn_iff.2 fun _ h => mem_s.1 h
theorem mt_left (n m : Nat) (f g : Nat → Int) : wn (sLen (mtL n f m g)) (sEl (mtL n f m g)) n f = true := wn_iff.2 fun _ h => (mem_mt.1 (mem_s.1 h)).1
theorem mt_right (n m : Nat) (f g : Nat → Int) : wn (sLen (mtL n f m g)) (sEl (mtL n f m g)) m g = true := wn_iff.2 fun _ h => (mem_mt.1 (mem_s.1 h)).2
theorem left_un (n m : Nat) (f g : Nat → Int) : wn n f (sLen (unL n f m g)) (sEl (unL n f m g)) = true := wn_iff.2 fun _ h => mem_s.2 (mem_un.2 (.inl h))
theorem right_un (n m : Nat) (f g : Nat → Int) : wn m g (sLen (unL n f m g)) (sEl (unL n f m g)) = true := wn_iff.2 fun _ h => mem_s.2 (mem_un.2 (.inr h))
theorem rs_mt (n m : Nat) (f g : Nat → Int) : sLen (mtL (sLen (rsL n f m g)) (sEl (rsL n f m g)) m g) = 0 := by
  have e : setL (mtL (sLen (rsL n f m g)) (sEl (rsL n f m g)) m g) = [] := by
    apply List.eq_nil_iff_forall_not_mem.2
    intro x hx
    have h1 := mem_mt.1 (mem_setL.1 hx)
    exact (mem_rs.1 (mem_s.1 h1.1)).2 h1.2
  unfold sLen
  unfold sLen at e
  rw [e]; rfl
theorem sm_wn (n m : Nat) (f g : Nat → Int) : sm (sLen (mtL n f m g)) (sEl (mtL n f m g)) (sLen (lst n f)) (sEl (lst n f)) = wn n f m g := by
  unfold sm
  rw [lst_s, lst_s]
  cases h : wn n f m g with
  | true =>
    have e : setL (mtL n f m g) = setL (lst n f) := setL_congr fun x => by
      rw [mem_mt]
      exact ⟨fun h => h.1, fun k => ⟨k, wn_iff.1 h x k⟩⟩
    rw [e]; simp
  | false =>
    cases e : (setL (mtL n f m g) == setL (lst n f)) with
    | false => rfl
    | true =>
      have e2 : setL (mtL n f m g) = setL (lst n f) := by simpa using e
      have : wn n f m g = true := wn_iff.2 fun x hx => (mem_mt.1 (mem_setL.1 (by rw [e2]; exact mem_setL.2 hx))).2
      rw [h] at this; cases this
theorem specHas_b (a : Option Addr) (b n c : Nat) (x : Int) (f : Nat → Int) (w : World) (hn : n ≤ 9223372036854775807) (h : Rd .i64 w b a n f) :
    Calls Try.prog 74 #[.slice a n c, .int .i64 x] w fun e w' => e = .returned (.bool (hs n f x)) ∧ Below w.heap.size w w' :=
  (specHas_any a b n c x f w hn h).mono (by rintro e w' ⟨h1, rfl⟩; exact ⟨h1, Below.refl _ _⟩)
theorem specWithin_b (a a' : Option Addr) (b b' n c m c' : Nat) (f g : Nat → Int) (w : World) (hn : n ≤ 9223372036854775807) (hm : m ≤ 9223372036854775807) (h : Rd .i64 w b a n f) (h' : Rd .i64 w b' a' m g) :
    Calls Try.prog 20 #[.slice a n c, .slice a' m c'] w fun e w' => e = .returned (.bool (wn n f m g)) ∧ Below w.heap.size w w' :=
  (specWithin_any a a' b b' n c m c' f g w hn hm h h').mono (by rintro e w' ⟨h1, rfl⟩; exact ⟨h1, Below.refl _ _⟩)
set_option maxHeartbeats 1000000 in
theorem sameInts_any (a1 a2 : Option Addr) (b1 b2 n m c1 c2 : Nat) (f g : Nat → Int) (w : World) (hn : n ≤ 9223372036854775807) (h1 : Rd .i64 w b1 a1 n f) (h2 : Rd .i64 w b2 a2 m g) :
    Calls Try.prog 15 #[.slice a1 n c1, .slice a2 m c2] w fun e w' => e = .returned (.bool (sm n f m g)) ∧ Below w.heap.size w w' := by
  by_cases hnm : n = m
  · subst hnm
    go_enter Try.func15, Try.ntmps15
    go_wp2
    go_loopw [5] (fun i wr => ∃ k : Nat, k ≤ n ∧ i = .int .i64 k ∧ Below w.heap.size w wr ∧ Hid (∀ j, j < k → f j = g j)) (fun i _ => n - (intOf i).toNat)
    case atStart => exact ⟨0, Nat.zero_le _, rfl, Below.refl _ _, fun j hj => by omega⟩
    case round =>
      obtain ⟨k, hk, rfl, hb, hall⟩ := hrel
      by_cases hlt : k < n
      · rcases h1.grew hb with h3 | ⟨o1, rfl, h3⟩
        · omega
        rcases h2.grew hb with h4 | ⟨o2, rfl, h4⟩
        · omega
        have e1 := h3 k hlt
        have e2 := h4 k hlt
        clear h1 h2 h3 h4
        by_cases he : f k = g k
        · have hall2 : Hid (∀ j, j < k + 1 → f j = g j) := fun j hj => by
            by_cases e : j = k
            · subst e; exact he
            · exact hall j (by omega)
          have e3 : (f k != g k) = false := by simpa using he
          clear he hall
          go_wp2
          go_quiet (fail)
          go_wp2
          go_roundw
          case rel => exact ⟨k + 1, by omega, by go_num, below_drewN hb _, hall2⟩
          case measure => simp [intOf]; omega
        · have HN : Hid (sm n f n g = false) := show _ = _ by
            cases e : sm n f n g with
            | false => rfl
            | true =>
              have e2 : lst n f = lst n g := by simpa [sm] using e
              have e3 : el (lst n f) k = el (lst n g) k := by rw [e2]
              rw [el_lst hlt, el_lst hlt] at e3
              exact absurd e3 he
          have e3 : (f k != g k) = true := by simpa using he
          clear he hall
          go_wp2
          go_quiet (fail)
          go_wp2
          go_ret
          exact ⟨ret_bool HN.out.symm, below_drewN hb _⟩
      · have HY : Hid (sm n f n g = true) := show _ = _ by
          unfold sm
          rw [lst_congr (fun i hi => hall i (by omega))]
          simp
        clear hall h1 h2
        go_wp2
        go_ret
        exact ⟨ret_bool HY.out.symm, hb⟩
  · have HN : Hid (sm n f m g = false) := show _ = _ by
      cases e : sm n f m g with
      | false => rfl
      | true =>
        have e2 : lst n f = lst m g := by simpa [sm] using e
        have e3 := congrArg List.length e2
        rw [lst_len, lst_len] at e3
        exact absurd e3 hnm
    have e3 : ((n : Int) != (m : Int)) = true := by simp; omega
    clear h1 h2
    go_enter Try.func15, Try.ntmps15
    go_wp2
    go_ret
    exact ⟨ret_bool HN.out.symm, Below.refl _ _⟩
end Go.Proofs.Ytnlnledijpcjpab
