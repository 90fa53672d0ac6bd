/-
  Contracts of chapter 3's draws (l3Draw, DrawSetOf, DrawWith, DrawWithout, DrawMeet, DrawWithin). Own work.
-/
import Derived.Test.YtdncgoippljlfabDrawL
import Derived.Test.YtdncgoippljlfabSetSpec3
namespace Go.Proofs.Ytdncgoippljlfab
open Go.ChangeShapes Go.WideShapes Go.ChangeAt Go.RowKit

set_option maxHeartbeats 1000000 in
theorem l3Draw_any (p : Nat) (a : Option Addr) (len cap : Nat) (w : World) {B : Nat} (hc : Code w a len B) (hB : B ≤ p) (hcur : Cur w p a len cap) :
    Calls Try.prog 18 #[.pointer (some ⟨p, 0, none⟩)] w fun e w' => DrawnL p a len cap w 6 e w' := by
  obtain ⟨i0, hi, hz0, hz1, hz2⟩ := info_parts Try.infoInt
  have ho0 : Only p w (w.alloc (.cells #[] 3)) := (Only.refl _ _).alloc _
  have ho1 : Only w.heap.size w (w.alloc (.cells #[] 3)) := (Only.refl _ _).alloc _
  have hown0 : (w.alloc (.cells #[] 3)).ownsRow w.heap.size 3 1 (.slice (some ⟨w.heap.size, 0, none⟩) 0 0) 0 [] := World.ownsRow_lit w #[] 0 (Nat.le_refl _) (by decide) rfl
  have hcur0 := hcur.only ho1 (Nat.ne_of_lt hcur.1)
  have hp : p < w.heap.size := hcur.1
  clear hcur ho1
  go_enter Try.func18, Try.ntmps18
  go_wp2_with fail
  refine (l1Below_any p a len cap _ _ (hc.only ho0 hB) hB hcur0).mono ?_
  rintro e w2 ⟨y, hy0, hy1, rfl, ho, hk2⟩
  have hy2 := hy1 (by omega)
  obtain ⟨n, rfl⟩ := Int.eq_ofNat_of_zero_le hy0
  have hown2 := owns_only hown0 ho hp
  have hoo := ho0.trans ho
  clear hown0 ho0 ho hcur0 hy1
  go_wp2
  go_loopw [3, 4] (fun v i wr => ∃ k : Nat, ∃ f : Nat → Int, k ≤ n ∧ i = .int .i64 (n - k) ∧ I64 k f ∧ wr.ownsRow w.heap.size 3 1 v k (vals .i64 k f) ∧ v ≠ .slice none 0 0 ∧ Only p w wr ∧ Cur wr p a len cap) (fun _ i _ => (intOf i).toNat)
  case atStart => exact ⟨0, fun _ => 0, Nat.zero_le _, by simp, fun i hi => by omega, hown2, by simp, hoo, hk2⟩
  case round =>
    clear hown2 hoo hk2
    obtain ⟨k, f, hk, rfl, hu, hown, hnil, ho, hcu⟩ := hrel
    by_cases hlt : k < n
    · have hcc := hc.only ho hB
      go_wp2_with fail
      refine (l1Below_any p a len cap _ wr hcc hB hcu).mono ?_
      rintro e w3 ⟨x', hx0, hx1, rfl, ho3, hcu3⟩
      have hx2 := hx1 (by omega)
      obtain ⟨x, hxx⟩ : ∃ x, x = x' - 1 := ⟨_, rfl⟩
      have hx : inI64 x := by unfold inI64; omega
      have HX : Hid (x = x' - 1) := hxx
      clear hxx hx1
      have hoo := ho.trans ho3
      have hown3 := owns_only hown ho3 hp
      have hs3 : w.heap.size ≤ w3.heap.size := hoo.size
      clear hown ho ho3 hcu hcc
      go_wp2_with (at_builtin; refine wpList_append_own _ rfl (.tmp 12) (.tmp 16) 24 rfl w.heap.size 3 i0 (.int .i64 0) 1 8 Try.underlying24 hi hz0 hz1 hz2 rfl (by decide) _ _ _ rfl (hown3.alloc _) ⟨w3.heap.size, 0, none⟩ 1 1 [_] rfl rfl (cells_new _ _ _) (by intro u hu; simp at hu; subst hu; rfl) (by unfold maxLen; omega) (by omega) (by simp; omega) ?_)
      intro v4 w4 hown4 hgr4 hnil4
      have ho4 : Only p w w4 := (hoo.alloc _).grown hgr4 (fun k hk => (hown3.lt k hk).1)
      have hown5 : w4.ownsRow w.heap.size 3 1 v4 (k + 1) (vals .i64 (k + 1) (fun j => if j = k then x else f j)) := by
        rw [vals_one_snoc', vals_congr (g := f) (fun i hi => by rw [if_neg (by omega)]), if_pos rfl, HX.out]
        exact hown4
      have hu5 : I64 (k + 1) (fun j => if j = k then x else f j) := fun i hi => by
        show inI64 (if i = k then x else f i)
        split
        · exact hx
        · exact hu i (by omega)
      have hcu4 : Cur w4 p a len cap := hcu3.same ((hgr4.block p (by simp; have := hcu3.1; omega) (fun e => by have := (hown3.lt p e.symm).1; omega)).trans (Below.heap_alloc w3 _ p hcu3.1)) (by have := hgr4.size; simp at this; omega)
      have hnil5 : v4 ≠ .slice none 0 0 := hnil4
      clear hown4 hgr4 hown3 hnil4 hnil hcu3 hoo hx hu
      go_wp2
      go_roundw
      case rel => first | exact ⟨k + 1, _, by omega, by go_num, hu5, hown5, hnil5, ho4, hcu4⟩ | ((repeat apply Exists.intro); exact ⟨⟨k + 1, _, by omega, by go_num, hu5, hown5, hnil5, ho4, hcu4⟩, rfl⟩)
      case measure => simp [intOf]; omega
    · obtain rfl : k = n := by omega
      obtain ⟨q, cp, rfl, hcp, hoq⟩ := own_of_cap hown hnil
      clear hnil
      go_wp2
      go_ret
      exact ⟨q, cp, k, f, rfl, by omega, hcp, hu, hoq, ho, hcu, hown⟩
/-- a list that was drawn, beside nothing -/
def DrawnS (w : World) (q n _c : Nat) (f : Nat → Int) (w' : World) : Prop := n ≤ 7 ∧ Own .i64 w' w.heap.size q (some ⟨q, 0, none⟩) n f ∧ Below w.heap.size w w'
/-- two lists that were drawn -/
def DrawnS2 (w : World) (e : Ending) (w' : World) : Prop :=
  ∃ q n c f q' n' c' f', e = .returned (.tuple #[.slice (some ⟨q, 0, none⟩) n c, .slice (some ⟨q', 0, none⟩) n' c']) ∧ n ≤ 7 ∧ n' ≤ 7 ∧ Own .i64 w' w.heap.size q (some ⟨q, 0, none⟩) n f ∧ Own .i64 w' w.heap.size q' (some ⟨q', 0, none⟩) n' f' ∧ Below w.heap.size w w'
set_option maxHeartbeats 1000000 in
theorem drawMeet_any (a : Option Addr) (len cap : Nat) (w : World) (hc : Code w a len w.heap.size) :
    Calls Try.prog 5 #[.slice a len cap] w fun e w' => DrawnS2 w e w' := by
  go_enter Try.func5, Try.ntmps5
  go_wp2_with fail
  refine (l1New_any a len cap _ hc).mono ?_
  rintro e w1 ⟨h, rfl, hw⟩
  have hb : Below w.heap.size w w1 := by rw [hw]; exact (Below.refl _ _).alloc (Nat.le_refl _) _
  have hk : Cur w1 w.heap.size a len cap := by rw [hw]; exact Cur.made w a len cap h _
  clear hw
  go_wp2_with fail
  refine (l3Draw_any w.heap.size a len cap _ (hc.below hb) (Nat.le_refl _) hk).mono ?_
  rintro e w2 ⟨q, c, n, f, rfl, hn, hcp, hi, hoq, ho, hk2, hown⟩
  have hb2 := hb.trans (ho.below (Nat.le_refl _) hb.size)
  have hq : w.heap.size < q := by have h1 := hoq.1; have h2 := hk.1; omega
  have hw12 : w.heap.size < w1.heap.size := hk.1
  clear hb hk ho hi
  clear hown
  go_wp2_with fail
  refine (l3Draw_any w.heap.size a len cap _ (hc.below hb2) (Nat.le_refl _) hk2).mono ?_
  rintro e w3 ⟨q', c', n', f', rfl, hn', _, _, hoq', ho, hk3, _⟩
  have hoq3 := hoq.only ho (by omega)
  have hb3 := hb2.trans (ho.below (Nat.le_refl _) hb2.size)
  have hq' : w.heap.size ≤ q' := by have h1 := hoq'.1; have h2 := hb2.size; omega
  clear hoq ho hb2 hk2 hk3
  go_wp2
  go_ret2
  exact ⟨q, n, c, f, q', n', c', f', rfl, by omega, by omega, ⟨by omega, hoq3.2⟩, ⟨hq', hoq'.2⟩, hb3⟩
set_option maxHeartbeats 1000000 in
theorem drawWithin_any (a : Option Addr) (len cap : Nat) (w : World) (hc : Code w a len w.heap.size) :
    Calls Try.prog 9 #[.slice a len cap] w fun e w' => DrawnS2 w e w' := by
  go_enter Try.func9, Try.ntmps9
  go_wp2_with fail
  refine (l1New_any a len cap _ hc).mono ?_
  rintro e w1 ⟨h, rfl, hw⟩
  have hb : Below w.heap.size w w1 := by rw [hw]; exact (Below.refl _ _).alloc (Nat.le_refl _) _
  have hk : Cur w1 w.heap.size a len cap := by rw [hw]; exact Cur.made w a len cap h _
  clear hw
  go_wp2_with fail
  refine (l3Draw_any w.heap.size a len cap _ (hc.below hb) (Nat.le_refl _) hk).mono ?_
  rintro e w2 ⟨q, c, n, f, rfl, hn, hcp, hi, hoq, ho, hk2, hown⟩
  have hb2 := hb.trans (ho.below (Nat.le_refl _) hb.size)
  have hq : w.heap.size < q := by have h1 := hoq.1; have h2 := hk.1; omega
  have hw12 : w.heap.size < w1.heap.size := hk.1
  clear hb hk ho hi
  clear hown
  go_wp2_with fail
  refine (l1Once_any w.heap.size a len cap _ _ (hc.below hb2) (Nat.le_refl _) hk2).mono ?_
  rintro e w3 ⟨t, rfl, ho, hk3⟩
  have hb3 := hb2.trans (ho.below (Nat.le_refl _) hb2.size)
  have hoq3 := hoq.only ho (by omega)
  clear hb2 ho hk2 hoq
  cases t with
  | false =>
    go_wp2_with fail
    refine (l3Draw_any w.heap.size a len cap _ (hc.below hb3) (Nat.le_refl _) hk3).mono ?_
    rintro e w4 ⟨q', c', n', f', rfl, hn', _, _, hoq', ho, hk4, _⟩
    have hoq4 := hoq3.only ho (by omega)
    have hb4 := hb3.trans (ho.below (Nat.le_refl _) hb3.size)
    have hq' : w.heap.size ≤ q' := by have h1 := hoq'.1; have h2 := hb3.size; omega
    clear hoq3 ho hb3 hk3 hk4
    go_wp2
    go_ret2
    exact ⟨q, n, c, f, q', n', c', f', rfl, by omega, by omega, ⟨by omega, hoq4.2⟩, ⟨hq', hoq'.2⟩, hb4⟩
  | true =>
    go_wp2_with fail
    refine (l3Draw_any w.heap.size a len cap _ (hc.below hb3) (Nat.le_refl _) hk3).mono ?_
    rintro e w4 ⟨q', c', n', f', rfl, hn', _, _, hoq', ho, hk4, _⟩
    have hoq4 := hoq3.only ho (by omega)
    have hb4 := hb3.trans (ho.below (Nat.le_refl _) hb3.size)
    clear hoq3 ho hb3 hk3 hk4
    go_wp2_with fail
    refine (specMeet_any _ _ q q' n c n' c' f f' _ (by omega) (by omega) hoq4.rd hoq'.rd).mono ?_
    rintro e w5 ⟨q5, c5, rfl, hb, hoq5⟩
    have hb5 := below_app hb4 hb hb4.size
    have hoq6 := hoq4.grew hb
    have hl5 : sLen (mtL n f n' f') ≤ 7 := by
      have h1 := sLen_le (mtL n f n' f')
      have h2 : (mtL n f n' f').length ≤ (lst n f).length := List.length_filter_le _ _
      rw [lst_len] at h2
      omega
    have hq5 : w.heap.size ≤ q5 := by have h1 := hoq5.1; have h2 := hb4.size; omega
    clear hoq4 hb hb4 hoq'
    go_wp2
    go_ret2
    exact ⟨q5, _, c5, _, q, n, c, f, rfl, hl5, by omega, ⟨hq5, hoq5.2⟩, ⟨by omega, hoq6.2⟩, hb5⟩
end Go.Proofs.Ytdncgoippljlfab
