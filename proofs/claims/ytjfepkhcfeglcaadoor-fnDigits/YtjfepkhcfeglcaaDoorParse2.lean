/-
  Contracts of chapter 1's reading of amounts: the program's ParseNum and the specification's ParseNum. Own work.
-/
import Derived.Test.YtjfepkhcfeglcaaDoorParse
import Derived.Lib.Strings
namespace Go.Proofs.YtjfepkhcfeglcaaDoor
open Go.ChangeShapes Go.WideShapes Go.ChangeAt Go.RowKit

theorem l1In_any (x a b : Int) (w : World) :
    Calls Tryd.prog 19 #[.int .i64 x, .int .i64 a, .int .i64 b] w fun e w' => e = .returned (.bool (decide (a ≤ x) && decide (x ≤ b))) ∧ w' = w := by
  by_cases h1 : a ≤ x
  all_goals by_cases h2 : x ≤ b
  all_goals go_enter Tryd.func19, Tryd.ntmps19
  all_goals go_wp2
  all_goals go_ret
  all_goals exact ⟨by simp [h1, h2], rfl⟩

theorem l1In_no (x a b : Int) (w : World) (h : x < a ∨ b < x) :
    Calls Tryd.prog 19 #[.int .i64 x, .int .i64 a, .int .i64 b] w fun e w' => e = .returned (.bool false) ∧ w' = w := by
  refine (l1In_any x a b w).mono ?_
  rintro e w' ⟨rfl, rfl⟩
  refine ⟨?_, rfl⟩
  rcases h with h | h
  · have : ¬ a ≤ x := by omega
    simp [this]
  · have : ¬ x ≤ b := by omega
    simp [this]

theorem head_one (s : ByteArray) (hpos : 0 < s.size) : (s.extract 0 1).toList = [s[0]] := by
  rw [Lib.extract_toList, data_cons s hpos]; simp

set_option maxHeartbeats 400000 in
theorem cut_yes (s : ByteArray) (w : World) (hpos : 0 < s.size) (h : s[0] = 45) :
    Calls Tryd.prog 15 #[.string s, .string ⟨#[45]⟩] w fun e w' => e = .returned (.tuple #[.string (s.extract 1 s.size), .bool true]) ∧ w' = w := by
  have h1 := head_one s hpos
  rw [h] at h1
  have hp : (1 : Int) ≤ (s.size : Int) := by omega
  go_enter Tryd.func15, Tryd.ntmps15
  go_wp2
  go_ret2
  exact ⟨rfl, rfl⟩
set_option maxHeartbeats 400000 in
theorem cut_no (s : ByteArray) (w : World) (h : ∀ hpos : 0 < s.size, s[0] ≠ 45) :
    Calls Tryd.prog 15 #[.string s, .string ⟨#[45]⟩] w fun e w' => e = .returned (.tuple #[.string s, .bool false]) ∧ w' = w := by
  by_cases hpos : 0 < s.size
  · have h1 := head_one s hpos
    have h2 : ((s.extract 0 1).toList == [45]) = false := by
      rw [h1]; have := h hpos; simp [this]
    have hp : (1 : Int) ≤ (s.size : Int) := by omega
    clear h h1
    go_enter Tryd.func15, Tryd.ntmps15
    go_wp2
    go_ret2
    exact ⟨rfl, rfl⟩
  · have hp : (s.size : Int) < 1 := by omega
    clear h
    go_enter Tryd.func15, Tryd.ntmps15
    go_wp2
    go_ret2
    exact ⟨rfl, rfl⟩

theorem psN_minus (s : ByteArray) (hpos : 0 < s.size) (h : s[0] = 45) : psN s.data.toList = -(rdN (s.extract 1 s.size).data.toList) ∧ psOk s.data.toList = (good (s.extract 1 s.size).data.toList && decide (rdN (s.extract 1 s.size).data.toList ≠ 0)) := by
  have e : (s.extract 1 s.size).data.toList = s.data.toList.drop 1 := by
    rw [Lib.extract_data]
    exact List.take_of_length_le (by rw [List.length_drop, data_len]; omega)
  rw [e, data_cons s hpos, h]
  refine ⟨rfl, ?_⟩
  show (good (s.data.toList.drop 1) && decide (val (s.data.toList.drop 1) ≠ 0)) = _
  simp only [List.drop_succ_cons, List.drop_zero]
  cases hg : good (s.data.toList.drop 1) with
  | false => rfl
  | true => rw [rdN_good hg]
theorem psN_plain (s : ByteArray) (h : ∀ hpos : 0 < s.size, s[0] ≠ 45) : psN s.data.toList = rdN s.data.toList ∧ psOk s.data.toList = good s.data.toList := by
  by_cases hpos : 0 < s.size
  · rw [data_cons s hpos]
    have := h hpos
    constructor
    · show (if s[0] = 45 then _ else _) = _
      rw [if_neg this]
    · show (if s[0] = 45 then _ else _) = _
      rw [if_neg this]
  · have e : s.data.toList = [] := List.length_eq_zero_iff.1 (by rw [data_len]; omega)
    rw [e]
    exact ⟨rfl, rfl⟩
theorem rdN_rng (l : List UInt8) : 0 ≤ rdN l ∧ rdN l ≤ 2147483647 := by
  cases hg : good l with
  | false => rw [rdN_bad hg]; omega
  | true =>
    rw [rdN_good hg]
    simp only [good, Bool.and_eq_true, decide_eq_true_eq] at hg
    exact ⟨val_nonneg _ hg.1.2, hg.2⟩

set_option maxHeartbeats 400000 in
theorem implParseNum_any (s : ByteArray) (w : World) (hs : s.size ≤ maxLen) :
    Calls Tryd.prog 7 #[.string s] w fun e w' => e = .returned (.tuple #[.int .i64 (psN s.data.toList), .bool (psOk s.data.toList)]) ∧ GB w w' := by
  by_cases hm : ∃ hpos : 0 < s.size, s[0] = 45
  · obtain ⟨hpos, h⟩ := hm
    obtain ⟨e1, e2⟩ := psN_minus s hpos h
    rw [e1, e2]
    clear e1 e2
    have hs' : (s.extract 1 s.size).size ≤ maxLen := by rw [ByteArray.size_extract]; omega
    obtain ⟨r1, r2⟩ := rdN_rng (s.extract 1 s.size).data.toList
    generalize hR : rdN (s.extract 1 s.size).data.toList = R at *
    cases hG : good (s.extract 1 s.size).data.toList with
    | false =>
      go_enter Tryd.func7, Tryd.ntmps7
      go_wp2_with (first | (go_at_call 15; refine (cut_yes s _ hpos h).mono ?_; rintro e w' ⟨rfl, rfl⟩) | (go_at_call 16; refine (readDigits_any _ _ hs').mono ?_; rintro e w' ⟨rfl, hg⟩; rw [hR, hG]))
      go_ret2
      exact ⟨by simp, hg⟩
    | true =>
      by_cases hz : R = 0
      all_goals
        go_enter Tryd.func7, Tryd.ntmps7
        go_wp2_with (first | (go_at_call 15; refine (cut_yes s _ hpos h).mono ?_; rintro e w' ⟨rfl, rfl⟩) | (go_at_call 16; refine (readDigits_any _ _ hs').mono ?_; rintro e w' ⟨rfl, hg⟩; rw [hR, hG]))
        go_ret2
        exact ⟨by simp [hz], hg⟩
  · have h : ∀ hpos : 0 < s.size, s[0] ≠ 45 := fun hp e => hm ⟨hp, e⟩
    clear hm
    obtain ⟨e1, e2⟩ := psN_plain s h
    rw [e1, e2]
    clear e1 e2
    go_enter Tryd.func7, Tryd.ntmps7
    go_wp2_with (first | (go_at_call 15; refine (cut_no s _ h).mono ?_; rintro e w' ⟨rfl, rfl⟩) | (go_at_call 16; refine (readDigits_any _ _ hs).mono ?_; rintro e w' ⟨rfl, hg⟩))
    go_ret2
    exact ⟨rfl, hg⟩
end Go.Proofs.YtjfepkhcfeglcaaDoor
