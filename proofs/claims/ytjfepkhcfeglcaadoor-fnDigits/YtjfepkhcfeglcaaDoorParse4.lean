/-
  Contracts of chapter 1's reading of amounts: the specification's ParseNum of a text without a sign, and of every text. Own work.
-/
import Derived.Test.YtjfepkhcfeglcaaDoorParse3
namespace Go.Proofs.YtjfepkhcfeglcaaDoor
open Go.ChangeShapes Go.WideShapes Go.ChangeAt Go.RowKit

theorem byte_eq45 (c : UInt8) (h : (c.toNat : Int) = 45) : c = 45 := UInt8.toNat_inj.1 (by simp; omega)
theorem int_ne0 {n : Nat} (h : 0 < n) : ((n : Int) == 0) = false := by simp; omega
theorem psB_bad (s : ByteArray) (h : ∀ hpos : 0 < s.size, s[0] ≠ 45) (hb : good s.data.toList = false) : psN s.data.toList = 0 ∧ psOk s.data.toList = false := by
  obtain ⟨e1, e2⟩ := psN_plain s h
  rw [e1, e2, hb, rdN_bad hb]; exact ⟨rfl, rfl⟩
theorem psB_good (s : ByteArray) (h : ∀ hpos : 0 < s.size, s[0] ≠ 45) (hg : good s.data.toList = true) : psN s.data.toList = val s.data.toList ∧ psOk s.data.toList = true := by
  obtain ⟨e1, e2⟩ := psN_plain s h
  rw [e1, e2, hg, rdN_good hg]; exact ⟨rfl, rfl⟩
/-- the text's bytes, under a name that the walk does not open -/
def alL (s : ByteArray) : List UInt8 := s.data.toList

set_option maxHeartbeats 1000000 in
theorem specParse_loop (s : ByteArray) (w : World) (hpos : 0 < s.size) (h0' : s.size ≤ 10) (h : ∀ hpos : 0 < s.size, s[0] ≠ 45) (hg : ¬ (1 < s.size ∧ s[0] = 48)) :
    Calls Tryd.prog 9 #[.string s] w fun e w' => e = .returned (.tuple #[.int .i64 (psN s.data.toList), .bool (psOk s.data.toList)]) ∧ w' = w := by
  have h1 : ((s[0].toNat : Int) == 45) = false := by
    cases e : ((s[0].toNat : Int) == 45) with
    | false => rfl
    | true => exact absurd (byte_eq45 _ (by simpa using e)) (h hpos)
  have hp : (0 : Int) < (s.size : Int) := by omega
  have hx : ((s.size : Int) == 0) = false := int_ne0 hpos
  have hy : (s.size : Int) ≤ 10 := by omega
  have H : Hid (∀ hpos : 0 < s.size, s[0] ≠ 45) := h
  have hgg : ¬ (1 < s.data.toList.length ∧ s.data.toList.head? = some 48) := by
    rintro ⟨a, b⟩
    rw [data_len] at a
    rw [data_cons s hpos] at b
    simp at b
    exact hg ⟨a, b⟩
  have HG : Hid (¬ (1 < s.data.toList.length ∧ s.data.toList.head? = some 48)) := hgg
  have hq : (((s[0].toNat : Int) == 48) = false) ∨ (((s[0].toNat : Int) == 48) = true ∧ (s.toList == [48]) = true) := by
    by_cases e : s[0] = 48
    · right
      have hs1 : s.size = 1 := by
        have : ¬ 1 < s.size := fun h1 => hg ⟨h1, e⟩
        omega
      refine ⟨by rw [e]; rfl, ?_⟩
      have e2 : s.data.toList.drop 1 = [] := List.length_eq_zero_iff.1 (by rw [List.length_drop, data_len]; omega)
      rw [ByteArray.toList_eq, data_cons s hpos, e2, e]; rfl
    · left
      cases e1 : ((s[0].toNat : Int) == 48) with
      | false => rfl
      | true => exact absurd (byte_eq _ (by simpa using e1)) e
  have hself : (s.toList == s.toList) = true := by simp
  clear h hgg hg
  rcases hq with hz1 | ⟨hz1, hz2⟩
  all_goals
    go_enter Tryd.func9, Tryd.ntmps9
    go_wp2
    go_loop [5, 6] (fun n i => ∃ k : Nat, k ≤ s.size ∧ i = .int .i64 k ∧ n = .int .i64 (val ((alL s).take k)) ∧ Hid (((alL s).take k).all isDig = true)) (fun _ i => s.size - (intOf i).toNat)
    case atStart => exact ⟨0, Nat.zero_le _, rfl, rfl, rfl⟩
    case round =>
      obtain ⟨k, hk, rfl, rfl, HD⟩ := hrel
      have hv0 : 0 ≤ val ((alL s).take k) := val_nonneg _ HD.out
      have hv1 : val ((alL s).take k) < 10000000000 := take_bd _ _ h0' HD.out
      by_cases hlt : k < s.size
      · by_cases hd : 48 ≤ (s[k].toNat : Int) ∧ (s[k].toNat : Int) ≤ 57
        · obtain ⟨hd1, hd2⟩ := hd
          have HV : Hid (val ((alL s).take (k + 1)) = 10 * val ((alL s).take k) + ((s[k].toNat : Int) - 48)) := by
            show val (s.data.toList.take (k + 1)) = 10 * val (s.data.toList.take k) + _
            rw [data_take _ k hlt, val_snoc]
          have HA : Hid (((alL s).take (k + 1)).all isDig = true) := by
            show (s.data.toList.take (k + 1)).all isDig = true
            have hd0 : (s.data.toList.take k).all isDig = true := HD.out
            rw [data_take _ k hlt, List.all_append, hd0]; simp [dig_of _ hd1 hd2]
          go_wp2_with (go_at_call 19; refine (l1In_any _ _ _ _).mono ?_; rintro e w' ⟨rfl, rfl⟩)
          go_round
          case rel => exact ⟨k + 1, by omega, by go_num, by rw [HV.out], HA⟩
          case measure => simp [intOf]; omega
        · have hb := psB_bad s H.out (bad_byte _ k hlt (not_dig_of _ (by omega)))
          have HB : Hid (psN s.data.toList = 0 ∧ psOk s.data.toList = false) := hb
          clear hb
          have hd' : (s[k].toNat : Int) < 48 ∨ 57 < (s[k].toNat : Int) := by omega
          clear hd
          have hub : (s[k].toNat : Int) ≤ 255 := by have := s[k].toNat_lt; omega
          go_wp2_with (go_at_call 19; refine (l1In_no _ _ _ _ hd').mono ?_; rintro e w' ⟨rfl, rfl⟩)
          go_ret2
          exact ⟨ret2 HB.out.1.symm HB.out.2.symm, rfl⟩
      · have hke : (alL s).take k = alL s := List.take_of_length_le (by show s.data.toList.length ≤ k; rw [data_len]; omega)
        have HK : Hid ((alL s).take k = alL s) := hke
        clear hke
        by_cases hbig : 2147483647 < val ((alL s).take k)
        · have hb := psB_bad s H.out (by have := hbig; rw [HK.out] at this; exact good_big this)
          have HB : Hid (psN s.data.toList = 0 ∧ psOk s.data.toList = false) := hb
          clear hb
          go_wp2
          go_ret2
          exact ⟨ret2 HB.out.1.symm HB.out.2.symm, rfl⟩
        · have hb := psB_good s H.out (good_mk (by rw [data_cons s hpos]; simp) HG.out (by have := HD.out; rw [HK.out] at this; exact this) (by have := hbig; rw [HK.out] at this; exact Int.not_lt.1 this))
          have HB : Hid (psN s.data.toList = val (alL s) ∧ psOk s.data.toList = true) := hb
          clear hb
          go_wp2
          go_ret2
          exact ⟨ret2 (by rw [HB.out.1, HK.out]) HB.out.2.symm, rfl⟩

set_option maxHeartbeats 1000000 in
theorem specParse_plain (s : ByteArray) (w : World) (hs : s.size ≤ 9223372036854775807) (h : ∀ hpos : 0 < s.size, s[0] ≠ 45) :
    Calls Tryd.prog 9 #[.string s] w fun e w' => e = .returned (.tuple #[.int .i64 (psN s.data.toList), .bool (psOk s.data.toList)]) ∧ w' = w := by
  by_cases hpos : 0 < s.size
  · have h1 : ((s[0].toNat : Int) == 45) = false := by
      cases e : ((s[0].toNat : Int) == 45) with
      | false => rfl
      | true => exact absurd (byte_eq45 _ (by simpa using e)) (h hpos)
    have hp : (0 : Int) < (s.size : Int) := by omega
    have hx : ((s.size : Int) == 0) = false := int_ne0 hpos
    by_cases h10 : 10 < s.size
    · have hy : (10 : Int) < (s.size : Int) := by omega
      have hb := psB_bad s h (good_long _ (by rw [data_len]; exact h10))
      have HB : Hid (psN s.data.toList = 0 ∧ psOk s.data.toList = false) := hb
      clear hb h
      go_enter Tryd.func9, Tryd.ntmps9
      go_wp2
      go_ret2
      exact ⟨ret2 HB.out.1.symm HB.out.2.symm, rfl⟩
    · by_cases hg : 1 < s.size ∧ s[0] = 48
      · have hy : (s.size : Int) ≤ 10 := by omega
        obtain ⟨hg1, hg2⟩ := hg
        have hz1 : ((s[0].toNat : Int) == 48) = true := by rw [hg2]; rfl
        have hd : s.data.toList.drop 1 ≠ [] := by
          intro e
          have := congrArg List.length e
          rw [List.length_drop, data_len] at this
          simp at this; omega
        have hne : (s.toList == [48]) = false := by
          rw [ByteArray.toList_eq, data_cons s hpos]
          cases e : (s[0] :: s.data.toList.drop 1 == [48]) with
          | false => rfl
          | true => exact absurd (by simpa using (List.cons.inj (eq_of_beq e)).2) hd
        have hb := psB_bad s h (by rw [data_cons s hpos]; exact good_zero _ _ hg2 hd)
        have HB : Hid (psN s.data.toList = 0 ∧ psOk s.data.toList = false) := hb
        clear hb h hg2 hd
        go_enter Tryd.func9, Tryd.ntmps9
        go_wp2
        go_ret2
        exact ⟨ret2 HB.out.1.symm HB.out.2.symm, rfl⟩
      · exact specParse_loop s w hpos (by omega) h hg
  · have e : s = ByteArray.empty := by
      apply (toList_nil_iff_emptyBytes s).1
      rw [ByteArray.toList_eq]
      exact List.length_eq_zero_iff.1 (by rw [data_len]; omega)
    subst e
    clear h
    go_enter Tryd.func9, Tryd.ntmps9
    go_wp2
    go_ret2
    exact ⟨rfl, rfl⟩

theorem specParseNum_any (s : ByteArray) (w : World) (hs : s.size ≤ maxLen) :
    Calls Tryd.prog 9 #[.string s] w fun e w' => e = .returned (.tuple #[.int .i64 (psN s.data.toList), .bool (psOk s.data.toList)]) ∧ w' = w := by
  unfold maxLen at hs
  by_cases hm : ∃ hpos : 0 < s.size, s[0] = 45
  · obtain ⟨hpos, h⟩ := hm
    exact specParse_minus s w hs hpos h
  · exact specParse_plain s w hs (fun hp e => hm ⟨hp, e⟩)
end Go.Proofs.YtjfepkhcfeglcaaDoor
