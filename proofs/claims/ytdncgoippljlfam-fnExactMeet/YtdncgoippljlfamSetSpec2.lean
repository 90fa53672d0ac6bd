/-
  Contracts of chapter 3's specification: With, Without, Union, Meet, Rest, Within. Own work.
-/
import Derived.Test.YtdncgoippljlfamSetOf2
namespace Go.Proofs.Ytdncgoippljlfam
open Go.ChangeShapes Go.WideShapes Go.ChangeAt Go.RowKit

def sLen (L : List Int) : Nat := (setL L).length
def sEl (L : List Int) : Nat → Int := el (setL L)
theorem sLen_le (L : List Int) : sLen L ≤ L.length := setL_len L
/-- what a function answers that answers a set: of the numbers of L -/
def SetPost (L : List Int) (w : World) (e : Ending) (w' : World) : Prop :=
  ∃ q cap, e = .returned (.slice (some ⟨q, 0, none⟩) (sLen L) cap) ∧ Below w.heap.size w w' ∧ Own .i64 w' w.heap.size q (some ⟨q, 0, none⟩) (sLen L) (sEl L)
theorem SetPost.up {L : List Int} {w w1 : World} {e : Ending} {w' : World} (h : SetPost L w1 e w') (hb : Below w.heap.size w w1) : SetPost L w e w' := by
  obtain ⟨q, cap, h1, h2, h3⟩ := h
  exact ⟨q, cap, h1, below_app hb h2 hb.size, Nat.le_trans hb.size h3.1, h3.2⟩
def wtL (n : Nat) (f : Nat → Int) (x : Int) : List Int := lst n f ++ [x]
def unL (n : Nat) (f : Nat → Int) (m : Nat) (g : Nat → Int) : List Int := lst n f ++ lst m g
def mtL (n : Nat) (f : Nat → Int) (m : Nat) (g : Nat → Int) : List Int := (lst n f).filter (fun x => hs m g x)
def rsL (n : Nat) (f : Nat → Int) (m : Nat) (g : Nat → Int) : List Int := (lst n f).filter (fun x => !hs m g x)
def wn (n : Nat) (f : Nat → Int) (m : Nat) (g : Nat → Int) : Bool := (lst n f).all (fun x => hs m g x)
theorem specSetOf_list (a : Option Addr) (b n c : Nat) (f : Nat → Int) (w : World) (hn : n ≤ 3000000) (h : Rd .i64 w b a n f) :
    Calls Try.prog 23 #[.slice a n c] w fun e w' => SetPost (lst n f) w e w' := specSetOf_any a b n c f w hn h
theorem post_of_list {L : List Int} {w : World} {e : Ending} {w' : World} (h : SetPost (lst L.length (el L)) w e w') : SetPost L w e w' := by rw [lst_el] at h; exact h
theorem news_one (w : World) (L : List Value) (t : TypeId) : ∀ j u, L[j]? = some u → (w.alloc (.cells L.toArray t)).cell? ((⟨w.heap.size, 0, none⟩ : Addr).add j) = some u := news_row (heap_alloc_new w _)

set_option maxHeartbeats 1000000 in
theorem specUnion_any (ad bd' : Addr) (b b' n c m c' : Nat) (f g : Nat → Int) (w : World) (hn : n ≤ 1048576) (hm : m ≤ 1048576) (h : Rd .i64 w b (some ad) n f) (h' : Rd .i64 w b' (some bd') m g) :
    Calls Try.prog 8 #[.slice (some ad) n c, .slice (some bd') m c'] w fun e w' => SetPost (unL n f m g) w e w' := by
  obtain ⟨i0, hi, hz0, hz1, hz2⟩ := info_parts Try.infoInt
  have hb0 : Below w.heap.size w (w.alloc (.cells #[] 3)) := (Below.refl _ _).alloc (Nat.le_refl _) _
  have hown0 : (w.alloc (.cells #[] 3)).ownsRow w.heap.size 3 1 (.slice (some ⟨w.heap.size, 0, none⟩) 0 0) 0 [] := World.ownsRow_lit w #[] 0 (Nat.le_refl _) (by decide) rfl
  have hnews := (h.grew hb0).news'
  go_enter Try.func8, Try.ntmps8
  go_wp2_with (at_builtin; refine wpList_append_own _ rfl (.tmp 5) (.tmp 6) 22 rfl w.heap.size 3 i0 (.int .i64 0) 1 8 Try.underlying22 hi hz0 hz1 hz2 rfl (by decide) _ _ _ rfl hown0 ad n c (vals .i64 n f) rfl (by rw [vals_len, Nat.mul_one]) hnews (vals_one _ _ _) (by unfold maxLen; omega) (by omega) hb0.size ?_)
  intro v1 w1 hown1 hgr1 hnil1
  have hb1 : Below w.heap.size w w1 := hb0.grown hgr1 hb0.size (by intro k hk; simp [Value.ownBlock] at hk; omega)
  have hnews1 := (h'.grew hb1).news'
  clear hown0 hgr1 hnews h hb0 h'
  go_wp2_with (at_builtin; refine wpList_append_own _ rfl (.tmp 7) (.tmp 8) 22 rfl w.heap.size 3 i0 (.int .i64 0) 1 8 Try.underlying22 hi hz0 hz1 hz2 rfl (by decide) _ _ _ rfl hown1 bd' m c' (vals .i64 m g) rfl (by rw [vals_len, Nat.mul_one]) hnews1 (vals_one _ _ _) (by unfold maxLen; omega) (by omega) hb1.size ?_)
  intro v2 w2 hown2 hgr2 hnil2
  have hb2 : Below w.heap.size w w2 := hb1.grown hgr2 hb1.size (fun k hk => (hown1.lt k hk).1)
  have hown3 : w2.ownsRow w.heap.size 3 1 v2 (n + m) (vals .i64 (n + m) (cat n f g)) := by
    rw [← vals_cat]; exact hown2
  have hnil3 : v2 ≠ .slice none 0 0 := fun e => by first | exact hnil2 e | exact hnil1 (hnil2.1 e).1
  obtain ⟨q, cap, rfl, ho⟩ := own_of hown3 hnil3
  clear hown2 hown3 hgr2 hnil2 hown1 hnil1 hb1 hnil3 hnews1
  go_wp2_with fail
  refine (specSetOf_list _ q (n + m) cap _ w2 (by omega) ho.rd).mono ?_
  rintro e w3 hpost
  rw [lst_cat] at hpost
  obtain ⟨q3, c3, rfl, hb3, ho3⟩ := (show SetPost (unL n f m g) w2 e w3 from hpost).up hb2
  go_wp2
  go_ret
  exact ⟨q3, c3, rfl, hb3, ho3⟩
theorem wn_no {n m i : Nat} {f g : Nat → Int} (hi : i < n) (h : hs m g (f i) = false) : wn n f m g = false := by
  unfold wn
  rw [List.all_eq_false]
  exact ⟨f i, mem_lst.2 ⟨i, hi, rfl⟩, by simp [h]⟩
theorem wn_yes {n m : Nat} {f g : Nat → Int} (h : ∀ i, i < n → hs m g (f i) = true) : wn n f m g = true := by
  unfold wn
  rw [List.all_eq_true]
  intro x hx
  obtain ⟨i, hi, rfl⟩ := mem_lst.1 hx
  exact h i hi
set_option maxHeartbeats 400000 in
theorem specWithin_any (a a' : Option Addr) (b b' n c m c' : Nat) (f g : Nat → Int) (w : World) (hn : n ≤ 9223372036854775807) (hm : m ≤ 9223372036854775807) (h : Rd .i64 w b a n f) (h' : Rd .i64 w b' a' m g) :
    Calls Try.prog 18 #[.slice a n c, .slice a' m c'] w fun e w' => e = .returned (.bool (wn n f m g)) ∧ w' = w := by
  go_enter Try.func18, Try.ntmps18
  go_wp2
  go_loop [5] (fun i => ∃ k : Nat, k ≤ n ∧ i = .int .i64 k ∧ Hid (∀ j, j < k → hs m g (f j) = true)) (fun i => n - (intOf i).toNat)
  case atStart => exact ⟨0, Nat.zero_le _, rfl, fun j hj => by omega⟩
  case round =>
    obtain ⟨k, hk, rfl, hall⟩ := hrel
    by_cases hlt : k < n
    · rcases h with h3 | ⟨o1, rfl, h3⟩
      · omega
      have e1 := h3 k hlt
      clear h3
      cases hh : hs m g (f k) with
      | true =>
        have hall2 : Hid (∀ j, j < k + 1 → hs m g (f j) = true) := fun j hj => by
          by_cases e : j = k
          · subst e; exact hh
          · exact hall j (by omega)
        clear hall
        go_wp2_with fail
        refine (specHas_any a' b' m c' (f k) g _ hm h').mono ?_
        rintro e w' ⟨rfl, rfl⟩
        go_wp2
        go_round
        case rel => exact ⟨k + 1, by omega, by go_num, hall2⟩
        case measure => simp [intOf]; omega
      | false =>
        have HN : Hid (wn n f m g = false) := wn_no hlt hh
        clear hall
        go_wp2_with fail
        refine (specHas_any a' b' m c' (f k) g _ hm h').mono ?_
        rintro e w' ⟨rfl, rfl⟩
        go_wp2
        go_ret
        exact ⟨ret_bool HN.out.symm, rfl⟩
    · have HY : Hid (wn n f m g = true) := wn_yes (fun i hi => hall i (by omega))
      clear hall h h'
      go_wp2
      go_ret
      exact ⟨ret_bool HY.out.symm, rfl⟩
end Go.Proofs.Ytdncgoippljlfam
