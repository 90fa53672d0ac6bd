/-
  Contracts of chapter 3's draws (l3Draw, DrawSetOf, DrawWith, DrawWithout, DrawMeet, DrawWithin). Own work.
-/
import Derived.Test.YtdncgoippljlfaaDrawL
import Derived.Test.YtdncgoippljlfaaSetSpec3
namespace Go.Proofs.Ytdncgoippljlfaa
open Go.ChangeShapes Go.WideShapes Go.ChangeAt Go.RowKit

set_option maxHeartbeats 1000000 in
theorem l3Draw_any (p : Nat) (a : Option Addr) (len cap : Nat) (w : World) {B : Nat} (hc : Code w a len B) (hB : B ≤ p) (hcur : Cur w p a len cap) :
    Calls Try.prog 64 #[.pointer (some ⟨p, 0, none⟩)] w fun e w' => DrawnL p a len cap w 6 e w' := by
  obtain ⟨i0, hi, hz0, hz1, hz2⟩ := info_parts Try.infoInt
  have ho0 : Only p w (w.alloc (.cells #[] 3)) := (Only.refl _ _).alloc _
  have ho1 : Only w.heap.size w (w.alloc (.cells #[] 3)) := (Only.refl _ _).alloc _
  have hown0 : (w.alloc (.cells #[] 3)).ownsRow w.heap.size 3 1 (.slice (some ⟨w.heap.size, 0, none⟩) 0 0) 0 [] := World.ownsRow_lit w #[] 0 (Nat.le_refl _) (by decide) rfl
  have hcur0 := hcur.only ho1 (Nat.ne_of_lt hcur.1)
  have hp : p < w.heap.size := hcur.1
  clear hcur ho1
  go_enter Try.func64, Try.ntmps64
  go_wp2_with fail
  refine (l1Below_any p a len cap _ _ (hc.only ho0 hB) hB hcur0).mono ?_
  rintro e w2 ⟨y, hy0, hy1, rfl, ho, hk2⟩
  have hy2 := hy1 (by omega)
  obtain ⟨n, rfl⟩ := Int.eq_ofNat_of_zero_le hy0
  have hown2 := owns_only hown0 ho hp
  have hoo := ho0.trans ho
  clear hown0 ho0 ho hcur0 hy1
  go_wp2
  go_loopw [3, 4] (fun v i wr => ∃ k : Nat, ∃ f : Nat → Int, k ≤ n ∧ i = .int .i64 (n - k) ∧ I64 k f ∧ wr.ownsRow w.heap.size 3 1 v k (vals .i64 k f) ∧ v ≠ .slice none 0 0 ∧ Only p w wr ∧ Cur wr p a len cap) (fun _ i _ => (intOf i).toNat)
  case atStart => exact ⟨0, fun _ => 0, Nat.zero_le _, by simp, fun i hi => by omega, hown2, by simp, hoo, hk2⟩
  case round =>
    clear hown2 hoo hk2
    obtain ⟨k, f, hk, rfl, hu, hown, hnil, ho, hcu⟩ := hrel
    by_cases hlt : k < n
    · have hcc := hc.only ho hB
      go_wp2_with fail
      refine (l1Below_any p a len cap _ wr hcc hB hcu).mono ?_
      rintro e w3 ⟨x', hx0, hx1, rfl, ho3, hcu3⟩
      have hx2 := hx1 (by omega)
      obtain ⟨x, hxx⟩ : ∃ x, x = x' - 1 := ⟨_, rfl⟩
      have hx : inI64 x := by unfold inI64; omega
      have HX : Hid (x = x' - 1) := hxx
      clear hxx hx1
      have hoo := ho.trans ho3
      have hown3 := owns_only hown ho3 hp
      have hs3 : w.heap.size ≤ w3.heap.size := hoo.size
      clear hown ho ho3 hcu hcc
      go_wp2_with (at_builtin; refine wpList_append_own _ rfl (.tmp 12) (.tmp 16) 35 rfl w.heap.size 3 i0 (.int .i64 0) 1 8 Try.underlying35 hi hz0 hz1 hz2 rfl (by decide) _ _ _ rfl (hown3.alloc _) ⟨w3.heap.size, 0, none⟩ 1 1 [_] rfl rfl (cells_new _ _ _) (by intro u hu; simp at hu; subst hu; rfl) (by unfold maxLen; omega) (by omega) (by simp; omega) ?_)
      intro v4 w4 hown4 hgr4 hnil4
      have ho4 : Only p w w4 := (hoo.alloc _).grown hgr4 (fun k hk => (hown3.lt k hk).1)
      have hown5 : w4.ownsRow w.heap.size 3 1 v4 (k + 1) (vals .i64 (k + 1) (fun j => if j = k then x else f j)) := by
        rw [vals_one_snoc', vals_congr (g := f) (fun i hi => by rw [if_neg (by omega)]), if_pos rfl, HX.out]
        exact hown4
      have hu5 : I64 (k + 1) (fun j => if j = k then x else f j) := fun i hi => by
        show inI64 (if i = k then x else f i)
        split
        · exact hx
        · exact hu i (by omega)
      have hcu4 : Cur w4 p a len cap := hcu3.same ((hgr4.block p (by simp; have := hcu3.1; omega) (fun e => by have := (hown3.lt p e.symm).1; omega)).trans (Below.heap_alloc w3 _ p hcu3.1)) (by have := hgr4.size; simp at this; omega)
      have hnil5 : v4 ≠ .slice none 0 0 := hnil4
      clear hown4 hgr4 hown3 hnil4 hnil hcu3 hoo hx hu
      go_wp2
      go_roundw
      case rel => first | exact ⟨k + 1, _, by omega, by go_num, hu5, hown5, hnil5, ho4, hcu4⟩ | ((repeat apply Exists.intro); exact ⟨⟨k + 1, _, by omega, by go_num, hu5, hown5, hnil5, ho4, hcu4⟩, rfl⟩)
      case measure => simp [intOf]; omega
    · obtain rfl : k = n := by omega
      obtain ⟨q, cp, rfl, hcp, hoq⟩ := own_of_cap hown hnil
      clear hnil
      go_wp2
      go_ret
      exact ⟨q, cp, k, f, rfl, by omega, hcp, hu, hoq, ho, hcu, hown⟩
/-- a list that was drawn, beside nothing -/
def DrawnS (w : World) (q n _c : Nat) (f : Nat → Int) (w' : World) : Prop := n ≤ 7 ∧ Own .i64 w' w.heap.size q (some ⟨q, 0, none⟩) n f ∧ Below w.heap.size w w'
set_option maxHeartbeats 1000000 in
theorem drawSetOf_any (a : Option Addr) (len cap : Nat) (w : World) (hc : Code w a len w.heap.size) :
    Calls Try.prog 40 #[.slice a len cap] w fun e w' => ∃ q n c f, e = .returned (.slice (some ⟨q, 0, none⟩) n c) ∧ DrawnS w q n c f w' := by
  obtain ⟨i0, hi0, hz0, hz1, hz2⟩ := info_parts Try.infoInt
  go_enter Try.func40, Try.ntmps40
  go_wp2_with fail
  refine (l1New_any a len cap _ hc).mono ?_
  rintro e w1 ⟨h, rfl, hw⟩
  have hb : Below w.heap.size w w1 := by rw [hw]; exact (Below.refl _ _).alloc (Nat.le_refl _) _
  have hk : Cur w1 w.heap.size a len cap := by rw [hw]; exact Cur.made w a len cap h _
  clear hw
  go_wp2_with fail
  refine (l3Draw_any w.heap.size a len cap _ (hc.below hb) (Nat.le_refl _) hk).mono ?_
  rintro e w2 ⟨q, c, n, f, rfl, hn, hcp, hi, hoq, ho, hk2, hown⟩
  have hb2 := hb.trans (ho.below (Nat.le_refl _) hb.size)
  have hq : w.heap.size < q := by have h1 := hoq.1; have h2 := hk.1; omega
  have hw12 : w.heap.size < w1.heap.size := hk.1
  clear hb hk ho hi
  go_wp2_with fail
  refine (l1Once_any w.heap.size a len cap _ _ (hc.below hb2) (Nat.le_refl _) hk2).mono ?_
  rintro e w3 ⟨t, rfl, ho, hk3⟩
  have hb3 := hb2.trans (ho.below (Nat.le_refl _) hb2.size)
  have hoq3 := hoq.only ho (by omega)
  have hown3 := owns_only hown ho hw12
  clear hb2 ho hk2 hoq hown
  cases t with
  | false =>
    clear hown3
    go_wp2
    go_ret
    exact ⟨q, n, c, f, rfl, by omega, ⟨by omega, hoq3.2⟩, hb3⟩
  | true =>
    go_wp2_with fail
    refine (l1Raw_any w.heap.size a len cap _ (hc.below hb3) (Nat.le_refl _) hk3).mono ?_
    rintro e w4 ⟨x, hx, rfl, ho, hk4⟩
    have hb4 := hb3.trans (ho.below (Nat.le_refl _) hb3.size)
    have hown4 := owns_only hown3 ho hw12
    have hs4 : w1.heap.size ≤ w4.heap.size := by
      have h1 := hown4.lt q rfl
      omega
    clear hb3 ho hk3 hoq3 hown3 hk4 hx
    go_wp2_with (at_builtin; refine wpList_append_own _ rfl (.tmp 11) (.tmp 14) 35 rfl w1.heap.size 3 i0 (.int .i64 0) 1 8 Try.underlying35 hi0 hz0 hz1 hz2 rfl (by decide) _ _ _ rfl (hown4.alloc _) ⟨w4.heap.size, 0, none⟩ 1 1 [_] rfl rfl (cells_new _ _ _) (by intro u hu; simp at hu; subst hu; rfl) (by unfold maxLen; omega) (by omega) (by simp; omega) ?_)
    intro v5 w5 hown5 hgr5 hnil5
    have hb5 : Below w.heap.size w w5 := (hb4.alloc hb4.size _).grown hgr5 (by have := hb4.size; simp; omega) (fun k hk => by have := (hown4.lt k hk).1; omega)
    have hown6 : w5.ownsRow w1.heap.size 3 1 v5 (n + 1) (vals .i64 (n + 1) (fun j => if j = n then x else f j)) := by
      rw [vals_one_snoc', vals_congr (g := f) (fun i hi => by rw [if_neg (by omega)]), if_pos rfl]
      exact hown5
    have hnil6 : v5 ≠ .slice none 0 0 := hnil5
    obtain ⟨q6, c6, rfl, ho6⟩ := own_of hown6 hnil6
    have hq6 : w.heap.size ≤ q6 := by have := ho6.1; omega
    clear hown5 hgr5 hnil5 hown6 hnil6 hown4 hb4
    go_wp2
    go_ret
    exact ⟨q6, n + 1, c6, _, rfl, by omega, ⟨hq6, ho6.2⟩, hb5⟩
set_option maxHeartbeats 1000000 in
theorem drawWith_any (a : Option Addr) (len cap : Nat) (w : World) (hc : Code w a len w.heap.size) :
    Calls Try.prog 42 #[.slice a len cap] w fun e w' => ∃ q n c f x, e = .returned (.tuple #[.slice (some ⟨q, 0, none⟩) n c, .int .i64 x]) ∧ DrawnS w q n c f w' := by
  go_enter Try.func42, Try.ntmps42
  go_wp2_with fail
  refine (l1New_any a len cap _ hc).mono ?_
  rintro e w1 ⟨h, rfl, hw⟩
  have hb : Below w.heap.size w w1 := by rw [hw]; exact (Below.refl _ _).alloc (Nat.le_refl _) _
  have hk : Cur w1 w.heap.size a len cap := by rw [hw]; exact Cur.made w a len cap h _
  clear hw
  go_wp2_with fail
  refine (l3Draw_any w.heap.size a len cap _ (hc.below hb) (Nat.le_refl _) hk).mono ?_
  rintro e w2 ⟨q, c, n, f, rfl, hn, hcp, hi, hoq, ho, hk2, hown⟩
  have hb2 := hb.trans (ho.below (Nat.le_refl _) hb.size)
  have hq : w.heap.size < q := by have h1 := hoq.1; have h2 := hk.1; omega
  have hw12 : w.heap.size < w1.heap.size := hk.1
  clear hb hk ho hi
  clear hown
  go_wp2_with fail
  refine (l1Below_any w.heap.size a len cap _ _ (hc.below hb2) (Nat.le_refl _) hk2).mono ?_
  rintro e w3 ⟨y, hy0, hy1, rfl, ho, hk3⟩
  have hy2 := hy1 (by omega)
  have hoq3 := hoq.only ho (by omega)
  have hb3 := hb2.trans (ho.below (Nat.le_refl _) hb2.size)
  clear hoq ho hb2 hk2 hk3 hy1
  go_wp2
  go_ret2
  exact ⟨q, n, c, f, _, rfl, by omega, ⟨by omega, hoq3.2⟩, hb3⟩
set_option maxHeartbeats 1000000 in
theorem drawWithout_any (a : Option Addr) (len cap : Nat) (w : World) (hc : Code w a len w.heap.size) :
    Calls Try.prog 43 #[.slice a len cap] w fun e w' => ∃ q n c f x, e = .returned (.tuple #[.slice (some ⟨q, 0, none⟩) n c, .int .i64 x]) ∧ DrawnS w q n c f w' := by
  go_enter Try.func43, Try.ntmps43
  go_wp2_with fail
  refine (l1New_any a len cap _ hc).mono ?_
  rintro e w1 ⟨h, rfl, hw⟩
  have hb : Below w.heap.size w w1 := by rw [hw]; exact (Below.refl _ _).alloc (Nat.le_refl _) _
  have hk : Cur w1 w.heap.size a len cap := by rw [hw]; exact Cur.made w a len cap h _
  clear hw
  go_wp2_with fail
  refine (l3Draw_any w.heap.size a len cap _ (hc.below hb) (Nat.le_refl _) hk).mono ?_
  rintro e w2 ⟨q, c, n, f, rfl, hn, hcp, hi, hoq, ho, hk2, hown⟩
  have hb2 := hb.trans (ho.below (Nat.le_refl _) hb.size)
  have hq : w.heap.size < q := by have h1 := hoq.1; have h2 := hk.1; omega
  have hw12 : w.heap.size < w1.heap.size := hk.1
  clear hb hk ho hi
  clear hown
  go_wp2_with fail
  refine (l1Below_any w.heap.size a len cap _ _ (hc.below hb2) (Nat.le_refl _) hk2).mono ?_
  rintro e w3 ⟨y, hy0, hy1, rfl, ho, hk3⟩
  have hy2 := hy1 (by omega)
  have hoq3 := hoq.only ho (by omega)
  have hb3 := hb2.trans (ho.below (Nat.le_refl _) hb2.size)
  clear hoq ho hb2 hk2 hk3 hy1
  go_wp2
  go_ret2
  exact ⟨q, n, c, f, _, rfl, by omega, ⟨by omega, hoq3.2⟩, hb3⟩
/-- two lists that were drawn -/
def DrawnS2 (w : World) (e : Ending) (w' : World) : Prop :=
  ∃ q n c f q' n' c' f', e = .returned (.tuple #[.slice (some ⟨q, 0, none⟩) n c, .slice (some ⟨q', 0, none⟩) n' c']) ∧ n ≤ 7 ∧ n' ≤ 7 ∧ Own .i64 w' w.heap.size q (some ⟨q, 0, none⟩) n f ∧ Own .i64 w' w.heap.size q' (some ⟨q', 0, none⟩) n' f' ∧ Below w.heap.size w w'
end Go.Proofs.Ytdncgoippljlfaa
