/-
  Contracts of chapter 1's reading of amounts: the specification's ParseNum. Own work.
-/
import Derived.Test.YtjfepkhcfeglcaaDoorParse2
namespace Go.Proofs.YtjfepkhcfeglcaaDoor
open Go.ChangeShapes Go.WideShapes Go.ChangeAt Go.RowKit

theorem good_long (l : List UInt8) (h : 10 < l.length) : good l = false := by
  cases l with
  | nil => simp at h
  | cons c r =>
    by_cases hc : c = 48
    · exact good_zero c r hc (by intro e; subst e; simp at h)
    · cases hd : (c :: r).all isDig with
      | false => exact good_digs hd
      | true =>
        simp only [List.all_cons, Bool.and_eq_true] at hd
        exact good_big (val_long c r hd.1 hc hd.2 (by simp at h; omega))
theorem val_pos (c : UInt8) (r : List UInt8) (h : (c :: r).all isDig = true) (hne : c ≠ 48) : 0 < val (c :: r) := by
  simp only [List.all_cons, Bool.and_eq_true] at h
  have b := isDig_bd h.1
  have hc0 : c.toNat ≠ 48 := fun e => hne (UInt8.toNat_inj.1 (by simpa using e))
  have e : val (c :: r) = r.foldl (fun n c => 10 * n + ((c.toNat : Int) - 48)) ((c.toNat : Int) - 48) := by simp [val]
  rw [e]
  have h1 := fold_ge r h.2 ((c.toNat : Int) - 48) (by omega)
  have h2 := pow10_pos r.length
  have h3 : (1 : Int) * (10 : Int) ^ r.length ≤ ((c.toNat : Int) - 48) * (10 : Int) ^ r.length := Int.mul_le_mul_of_nonneg_right (by omega) (by omega)
  omega
theorem take_bd (t : ByteArray) (k : Nat) (hk : t.size ≤ 10) (hd : (t.data.toList.take k).all isDig = true) : val (t.data.toList.take k) < 10000000000 := by
  have h1 := val_lt _ hd
  have h2 : (10 : Int) ^ (t.data.toList.take k).length ≤ (10 : Int) ^ 10 := pow10_mono (by rw [List.length_take, data_len]; omega)
  have h4 : (10 : Int) ^ 10 = 10000000000 := by decide
  omega
theorem head_eq (t : ByteArray) (h : 0 < t.size) : t.data.toList.head? = some t[0] := by rw [data_cons t h]; rfl

/-- the text begins with a '-' : what is answered, by what is read behind it -/
theorem psA_bad (s : ByteArray) (hpos : 0 < s.size) (h : s[0] = 45) (hb : good (s.extract 1 s.size).data.toList = false) : psN s.data.toList = 0 ∧ psOk s.data.toList = false := by
  obtain ⟨e1, e2⟩ := psN_minus s hpos h
  rw [e1, e2, hb, rdN_bad hb]; exact ⟨rfl, rfl⟩
theorem psA_zero (s : ByteArray) (hpos : 0 < s.size) (h : s[0] = 45) (ht : 0 < (s.extract 1 s.size).size) (hz : (s.extract 1 s.size)[0] = 48) : psN s.data.toList = 0 ∧ psOk s.data.toList = false := by
  obtain ⟨e1, e2⟩ := psN_minus s hpos h
  generalize s.extract 1 s.size = t at *
  have hr : rdN t.data.toList = 0 := by
    rw [data_cons t ht, hz]
    by_cases hd : t.data.toList.drop 1 = []
    · rw [hd]; decide
    · exact rdN_bad (good_zero _ _ rfl hd)
  rw [e1, e2, hr]; simp
theorem psA_good (s : ByteArray) (hpos : 0 < s.size) (h : s[0] = 45) (ht : 0 < (s.extract 1 s.size).size) (hz : (s.extract 1 s.size)[0] ≠ 48) (hd : (s.extract 1 s.size).data.toList.all isDig = true)
    (hv : val (s.extract 1 s.size).data.toList ≤ 2147483647) : psN s.data.toList = -(val (s.extract 1 s.size).data.toList) ∧ psOk s.data.toList = true := by
  obtain ⟨e1, e2⟩ := psN_minus s hpos h
  generalize s.extract 1 s.size = t at *
  have hg : good t.data.toList = true := good_mk (by rw [data_cons t ht]; simp) (by rintro ⟨_, b⟩; rw [head_eq t ht] at b; exact hz (by simpa using b)) hd hv
  have hp : 0 < val t.data.toList := by
    rw [data_cons t ht] at hd ⊢
    exact val_pos _ _ hd hz
  rw [e1, e2, hg, rdN_good hg]
  exact ⟨rfl, by simp; omega⟩

/-- the bytes behind the first, under a name that the walk does not open -/
def tlL (s : ByteArray) : List UInt8 := (s.extract 1 s.size).data.toList

set_option maxHeartbeats 1000000 in
theorem specParse_minus (s : ByteArray) (w : World) (hs : s.size ≤ 9223372036854775807) (hpos : 0 < s.size) (h : s[0] = 45) :
    Calls Tryd.prog 9 #[.string s] w fun e w' => e = .returned (.tuple #[.int .i64 (psN s.data.toList), .bool (psOk s.data.toList)]) ∧ w' = w := by
  have h1 : ((s[0].toNat : Int) == 45) = true := by rw [h]; rfl
  have hp : (0 : Int) < (s.size : Int) := by omega
  have H : Hid (s[0] = 45) := h
  have ht : (s.extract 1 s.size).size = s.size - 1 := by rw [ByteArray.size_extract]; omega
  have HT : Hid ((s.extract 1 s.size).size = s.size - 1) := ht
  clear h ht
  rcases (show s.size - 1 = 0 ∨ 10 < s.size - 1 ∨ (0 < s.size - 1 ∧ s.size - 1 ≤ 10) from by omega) with h0 | h0 | ⟨h0, h0'⟩
  · have hx : (((s.size - 1 : Nat) : Int) == 0) = true := by rw [h0]; rfl
    have hb := psA_bad s hpos H.out (by
      have e : (s.extract 1 s.size).data.toList = [] := List.length_eq_zero_iff.1 (by rw [data_len, HT.out]; exact h0)
      rw [e]; rfl)
    have HB : Hid (psN s.data.toList = 0 ∧ psOk s.data.toList = false) := hb
    clear hb h0
    go_enter Tryd.func9, Tryd.ntmps9
    go_wp2
    go_ret2
    exact ⟨ret2 HB.out.1.symm HB.out.2.symm, rfl⟩
  · have hx : (((s.size - 1 : Nat) : Int) == 0) = false := by simp; omega
    have hy : (10 : Int) < ((s.size - 1 : Nat) : Int) := by omega
    have hb := psA_bad s hpos H.out (good_long _ (by rw [data_len, HT.out]; exact h0))
    have HB : Hid (psN s.data.toList = 0 ∧ psOk s.data.toList = false) := hb
    clear hb h0
    go_enter Tryd.func9, Tryd.ntmps9
    go_wp2
    go_ret2
    exact ⟨ret2 HB.out.1.symm HB.out.2.symm, rfl⟩
  · have hx : (((s.size - 1 : Nat) : Int) == 0) = false := by simp; omega
    have hy : ((s.size - 1 : Nat) : Int) ≤ 10 := by omega
    have hq : 0 < (s.extract 1 s.size).size := by rw [HT.out]; exact h0
    by_cases hz : (s.extract 1 s.size)[0] = 48
    · have hz1 : (((s.extract 1 s.size)[0].toNat : Int) == 48) = true := by rw [hz]; rfl
      have hne : (s.toList == [48]) = false := by
        rw [ByteArray.toList_eq, data_cons s hpos, H.out]; simp
      have hb := psA_zero s hpos H.out hq hz
      have HB : Hid (psN s.data.toList = 0 ∧ psOk s.data.toList = false) := hb
      clear hb hz
      go_enter Tryd.func9, Tryd.ntmps9
      go_wp2
      go_ret2
      exact ⟨ret2 HB.out.1.symm HB.out.2.symm, rfl⟩
    · have hz1 : (((s.extract 1 s.size)[0].toNat : Int) == 48) = false := by
        cases e : (((s.extract 1 s.size)[0].toNat : Int) == 48) with
        | false => rfl
        | true => exact absurd (byte_eq _ (by simpa using e)) hz
      have hne : ((s.extract 1 s.size).toList == s.toList) = false := by
        cases e : ((s.extract 1 s.size).toList == s.toList) with
        | false => rfl
        | true =>
          have e2 := congrArg List.length (eq_of_beq e)
          rw [ByteArray.toList_eq, ByteArray.toList_eq, data_len, data_len, HT.out] at e2
          omega
      have HZ : Hid ((s.extract 1 s.size)[0] ≠ 48) := hz
      clear hz
      go_enter Tryd.func9, Tryd.ntmps9
      go_wp2
      go_loop [5, 6] (fun n i => ∃ k : Nat, k ≤ s.size - 1 ∧ i = .int .i64 k ∧ n = .int .i64 (val ((tlL s).take k)) ∧ Hid (((tlL s).take k).all isDig = true)) (fun _ i => s.size - 1 - (intOf i).toNat)
      case atStart => exact ⟨0, Nat.zero_le _, rfl, rfl, rfl⟩
      case round =>
        obtain ⟨k, hk, rfl, rfl, HD⟩ := hrel
        have hv0 : 0 ≤ val ((tlL s).take k) := val_nonneg _ HD.out
        have hv1 : val ((tlL s).take k) < 10000000000 := take_bd _ _ (by rw [HT.out]; exact h0') HD.out
        by_cases hlt : k < s.size - 1
        · have hlt' : k < (s.extract 1 s.size).size := by rw [HT.out]; exact hlt
          by_cases hd : 48 ≤ ((s.extract 1 s.size)[k].toNat : Int) ∧ ((s.extract 1 s.size)[k].toNat : Int) ≤ 57
          · obtain ⟨hd1, hd2⟩ := hd
            have HV : Hid (val ((tlL s).take (k + 1)) = 10 * val ((tlL s).take k) + (((s.extract 1 s.size)[k].toNat : Int) - 48)) := by
              show val ((s.extract 1 s.size).data.toList.take (k + 1)) = 10 * val ((s.extract 1 s.size).data.toList.take k) + _
              rw [data_take _ k hlt', val_snoc]
            have HA : Hid (((tlL s).take (k + 1)).all isDig = true) := by
              show ((s.extract 1 s.size).data.toList.take (k + 1)).all isDig = true
              have hd0 : ((s.extract 1 s.size).data.toList.take k).all isDig = true := HD.out
              rw [data_take _ k hlt', List.all_append, hd0]; simp [dig_of _ hd1 hd2]
            go_wp2_with (go_at_call 19; refine (l1In_any _ _ _ _).mono ?_; rintro e w' ⟨rfl, rfl⟩)
            go_round
            case rel => exact ⟨k + 1, by omega, by go_num, by rw [HV.out], HA⟩
            case measure => simp [intOf]; omega
          · have hb := psA_bad s hpos H.out (bad_byte _ k hlt' (not_dig_of _ (by omega)))
            have HB : Hid (psN s.data.toList = 0 ∧ psOk s.data.toList = false) := hb
            clear hb
            have hd' : ((s.extract 1 s.size)[k].toNat : Int) < 48 ∨ 57 < ((s.extract 1 s.size)[k].toNat : Int) := by omega
            clear hd
            have hub : ((s.extract 1 s.size)[k].toNat : Int) ≤ 255 := by have := (s.extract 1 s.size)[k].toNat_lt; omega
            go_wp2_with (go_at_call 19; refine (l1In_no _ _ _ _ hd').mono ?_; rintro e w' ⟨rfl, rfl⟩)
            go_ret2
            exact ⟨ret2 HB.out.1.symm HB.out.2.symm, rfl⟩
        · have hke : (tlL s).take k = tlL s := List.take_of_length_le (by show (s.extract 1 s.size).data.toList.length ≤ k; rw [data_len, HT.out]; omega)
          have HK : Hid ((tlL s).take k = tlL s) := hke
          clear hke
          by_cases hbig : 2147483647 < val ((tlL s).take k)
          · have hb := psA_bad s hpos H.out (by have := hbig; rw [HK.out] at this; exact good_big this)
            have HB : Hid (psN s.data.toList = 0 ∧ psOk s.data.toList = false) := hb
            clear hb
            go_wp2
            go_ret2
            exact ⟨ret2 HB.out.1.symm HB.out.2.symm, rfl⟩
          · have hb := psA_good s hpos H.out hq HZ.out (by have := HD.out; rw [HK.out] at this; exact this) (by have := hbig; rw [HK.out] at this; exact Int.not_lt.1 this)
            have HB : Hid (psN s.data.toList = -(val (tlL s)) ∧ psOk s.data.toList = true) := hb
            clear hb
            go_wp2
            go_ret2
            exact ⟨ret2 (by rw [HB.out.1, HK.out]) HB.out.2.symm, rfl⟩
end Go.Proofs.YtjfepkhcfeglcaaDoor
