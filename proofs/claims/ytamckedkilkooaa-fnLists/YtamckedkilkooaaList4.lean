/-
  Contracts of chapter 2's GetList: the program's. Own work.
-/
import Derived.Test.YtamckedkilkooaaList3
namespace Go.Proofs.Ytamckedkilkooaa
open Go.ChangeShapes Go.WideShapes Go.ChangeAt Go.RowKit

theorem part_shift (f : Nat → Int) (p i : Nat) : ∀ k, part (fun j => f (p + j)) i k = part f (p + i) k
  | 0 => rfl
  | k + 1 => by simp only [part]; rw [part_shift f p i k, Nat.add_assoc]
theorem gok_shift {n m p k : Nat} (f : Nat → Int) (hk : k < m) (h : p + 4 * m ≤ n) : gok (4 * m) (fun j => f (p + j)) (4 * (k : Int)) = gok n f ((p : Int) + 4 * (k : Int)) := by
  rw [gok_in (by omega), gok_in (by omega)]
  unfold num4
  rw [part_shift, show ((p : Int) + 4 * (k : Int)).toNat = p + (4 * (k : Int)).toNat by omega]
theorem gnum_shift {n m p k : Nat} (f : Nat → Int) (hk : k < m) (h : p + 4 * m ≤ n) : gnum (4 * m) (fun j => f (p + j)) (4 * (k : Int)) = gnum n f ((p : Int) + 4 * (k : Int)) := by
  unfold gnum
  rw [gok_shift f hk h]
  unfold num4
  rw [part_shift, show ((p : Int) + 4 * (k : Int)).toNat = p + (4 * (k : Int)).toNat by omega]
theorem gl_post_bad' {n s : Nat} {f : Nat → Int} {at' : Int} {w wr : World} {t : TypeId} (hs : wr.heap.size = s) (h : glOk n f at' = false) (hb : Below w.heap.size w wr) :
    GlPost n f at' w (.returned (.tuple #[.slice (some ⟨s, 0, none⟩) 0 0, .int .i64 0, .bool false])) (wr.alloc (.cells #[] t)) := by
  subst hs; exact gl_post_bad h hb

set_option maxHeartbeats 1000000 in
theorem implGetList_run (a : Option Addr) (b n c i m : Nat) (f : Nat → Int) (w : World) (hn : n ≤ 140737488351232) (hcap : n ≤ c) (hin : i < n) (hM : Hid (f i = (m : Int))) (hm : m ≤ 255) (hu : U8 n f) (h : Rd .u8 w b a n f) :
    Calls Try.prog 33 #[.slice a n c, .int .i64 i] w fun e w' => GlPost n f i w e w' := by
  obtain ⟨i0, hi, hz0, hz1, hz2⟩ := info_parts Try.infoInt
  have HC : Hid (glC f (i : Int) = m) := show _ = _ by unfold glC; rw [Int.toNat_natCast, hM.out]; omega
  go_enter Try.func33, Try.ntmps33
  go_wp2_with fail
  refine (cut_any a b n c i 1 f w hn hcap (by omega) (by omega) (by omega) h).mono ?_
  rintro e w' ⟨rfl, ⟨hne, rfl⟩ | ⟨i', m1, hi', hm1, hle, a1, rfl, hrd1⟩⟩
  · omega
  · obtain rfl : i = i' := by omega
    obtain rfl : m1 = 1 := by omega
    rcases hrd1 with hrd1 | ⟨off1, rfl, hrd1⟩
    · omega
    have e1 := hrd1 0 (by omega)
    simp only [Nat.add_zero, hM.out] at e1
    clear hrd1 hi' hm1 hle
    go_wp2_with fail
    refine (cut_any a b n c (i + 1) (4 * m) f w' hn hcap (by omega) (by omega) (by omega) h).mono ?_
    rintro e w2 ⟨rfl, ⟨hne, rfl⟩ | ⟨p, m4, hp, hm4, hle, a2, rfl, hrd2⟩⟩
    · have hbad : Hid (glOk n f (i : Int) = false) := gl_no (j := m - 1) (by rw [HC.out]; omega) (gok_out (by omega))
      clear e1 hne
      go_wp2
      go_ret3
      exact gl_post_bad hbad.out (Below.refl _ _)
    · obtain rfl : p = i + 1 := by omega
      obtain rfl : m4 = 4 * m := by omega
      clear hp hm4
      go_wp2_with (at_make; refine wpList_make_full _ rfl _ _ 35 rfl w2.heap.size 3 i0 (.int .i64 0) 1 Try.underlying35 hi hz0 hz1 _ _ _ _ m rfl rfl rfl rfl (by rw [hz2]; omega) (by unfold maxLen; omega) (Nat.le_refl _) ?_)
      intro w1 hown hgr
      rw [made_vals] at hown
      have ho := own_row (B := w2.heap.size) (row_made hown) (Nat.le_refl _)
      have hb1 : Below w2.heap.size w2 w1 := (Below.refl _ _).grown hgr (Nat.le_refl _) (by simp)
      clear hown hgr e1
      have hun : U8 (4 * m) (fun j => f (i + 1 + j)) := fun j hj => hu (i + 1 + j) (by omega)
      go_wp2
      go_loopw [42] (fun k wr => ∃ j : Nat, j ≤ m ∧ k = .int .i64 j ∧ Below w2.heap.size w2 wr ∧ Own .i64 wr w2.heap.size w2.heap.size (some ⟨w2.heap.size, 0, none⟩) m (til j (glF n f i) (fun _ => 0)) ∧ Hid (∀ j', j' < j → gok n f ((i : Int) + 1 + 4 * (j' : Int)) = true)) (fun k _ => m - (intOf k).toNat)
      case atStart => exact ⟨0, Nat.zero_le _, rfl, hb1, by rw [til_zero]; exact ho, fun j hj => by omega⟩
      case round =>
        clear ho hb1
        obtain ⟨j, hj, rfl, hb, ho, hall⟩ := hrel
        by_cases hlt : j < m
        · have hs1 := gok_shift (n := n) (p := i + 1) f hlt hle
          have hs2 := gnum_shift (n := n) (p := i + 1) f hlt hle
          have ec : ((i + 1 : Nat) : Int) = (i : Int) + 1 := by omega
          rw [ec] at hs1 hs2
          clear ec
          cases hgk : gok n f ((i : Int) + 1 + 4 * (j : Int)) with
          | false =>
            rw [hgk] at hs1
            have hbad : Hid (glOk n f (i : Int) = false) := gl_no (j := j) (by rw [HC.out]; exact hlt) hgk
            clear hgk
            go_wp2_with fail
            refine (implGetNum_any a2 b (4 * m) (4 * m) (4 * j) (fun j => f (i + 1 + j)) wr (by omega) (Nat.le_refl _) (by omega) hun (hrd2.grew hb)).mono ?_
            rintro e w3 ⟨rfl, hb3⟩
            have hB := below_app hb hb3 hb.size
            replace ho := ho.grew hb3
            have e2 := ho.cell j hlt
            have e3 := ho.2.2.2 j
            simp only [Nat.zero_add] at e2
            have hB2 := hB.setCell (p := ⟨w2.heap.size, j, none⟩) (Nat.le_refl _) (.int .i64 (gnum n f ((i : Int) + 1 + 4 * (j : Int))))
            clear ho hb3 hb
            go_wp2
            go_ret3
            exact gl_post_bad' (by simp) hbad.out hB2
          | true =>
            rw [hgk] at hs1
            have hall5 : Hid (∀ j', j' < j + 1 → gok n f ((i : Int) + 1 + 4 * (j' : Int)) = true) := fun j' hj' => by
              by_cases e : j' = j
              · subst e; exact hgk
              · exact hall j' (by omega)
            clear hgk hall
            go_wp2_with fail
            refine (implGetNum_any a2 b (4 * m) (4 * m) (4 * j) (fun j => f (i + 1 + j)) wr (by omega) (Nat.le_refl _) (by omega) hun (hrd2.grew hb)).mono ?_
            rintro e w3 ⟨rfl, hb3⟩
            have hB := below_app hb hb3 hb.size
            replace ho := ho.grew hb3
            have e2 := ho.cell j hlt
            have e3 := ho.2.2.2 j
            simp only [Nat.zero_add] at e2
            have hB2 := hB.setCell (p := ⟨w2.heap.size, j, none⟩) (Nat.le_refl _) (.int .i64 (gnum n f ((i : Int) + 1 + 4 * (j : Int))))
            have R := ho.put j (glF n f i j)
            rw [til_step] at R
            simp only [Nat.zero_add] at R
            have R2 : Own .i64 (w3.setCell ⟨w2.heap.size, j, none⟩ (.int .i64 (gnum n f ((i : Int) + 1 + 4 * (j : Int))))) w2.heap.size w2.heap.size (some ⟨w2.heap.size, 0, none⟩) m (til (j + 1) (glF n f i) (fun _ => 0)) := R
            clear ho hb3 hb R
            go_wp2
            go_roundw
            case rel => exact ⟨j + 1, by omega, by go_num, hB2, R2, hall5⟩
            case measure => simp [intOf]; omega
        · obtain rfl : j = m := by omega
          have hgood : Hid (glOk n f (i : Int) = true) := gl_yes (by omega) (fun j' hj' => hall j' (by rw [HC.out] at hj'; exact hj'))
          have hend : GlPost n f i w2 (.returned (.tuple #[.slice (some ⟨w2.heap.size, 0, none⟩) j j, .int .i64 ((i : Int) + 1 + 4 * (j : Int)), .bool true])) wr := by
            refine ⟨w2.heap.size, j, ?_, hb, ?_⟩
            · rw [← gl_good hgood.out, HC.out]
            · have e : glN n f (i : Int) = j := by unfold glN; rw [if_pos hgood.out, HC.out]
              rw [e]; exact ho.congr (til_all (glF n f i) _ (Nat.le_refl _))
          clear hall ho
          go_wp2
          go_ret3
          exact hend
theorem implGetList_any (a : Option Addr) (b n c : Nat) (at' : Int) (f : Nat → Int) (w : World) (hn : n ≤ 140737488351232) (hcap : n ≤ c) (ha : -9223372036854775808 ≤ at' ∧ at' ≤ 9223372036854775807) (hu : U8 n f) (h : Rd .u8 w b a n f) :
    Calls Try.prog 33 #[.slice a n c, .int .i64 at'] w fun e w' => GlPost n f at' w e w' := by
  by_cases hr : 0 ≤ at' ∧ at' < (n : Int)
  · obtain ⟨h1, h2⟩ := hr
    obtain ⟨i, rfl⟩ := Int.eq_ofNat_of_zero_le h1
    have hin : i < n := by omega
    have hv := hu i hin
    exact implGetList_run a b n c i (f i).toNat f w hn hcap hin (show _ = _ by omega) (by omega) hu h
  · have hbad : Hid (glOk n f at' = false) := gl_out hr
    go_enter Try.func33, Try.ntmps33
    go_wp2_with fail
    refine (cut_any a b n c at' 1 f w hn hcap (by omega) (by omega) ha h).mono ?_
    rintro e w' ⟨rfl, ⟨hne, rfl⟩ | ⟨i', m1, hi', hm1, hle, a1, rfl, hrd1⟩⟩
    · clear hne h
      go_wp2
      go_ret3
      exact gl_post_bad hbad.out (Below.refl _ _)
    · omega
end Go.Proofs.Ytamckedkilkooaa
