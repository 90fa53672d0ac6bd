/-
  Contracts of chapter 1's digits: the specification's NumText answers the decimal digits of its argument ('Lib.itoa'). Own work.
-/
import Derived.Test.YtgaodfjmehofgacDoorRows
import Derived.WalkKit
import Derived.ProofKit
import Derived.OpenShut
import Derived.WalkLawsBesides
import Derived.WalkSpells
import Derived.Lib.ItoaNum
import Derived.Laws.BytesArg
namespace Go.Proofs.YtgaodfjmehofgacDoor
open Go.ChangeShapes Go.WideShapes Go.ChangeAt Go.RowKit
set_option maxRecDepth 100000

def numRel (n X : Int) (l : List UInt8) : Prop := (X = 0 ∧ l = Lib.decDigits n.natAbs) ∨ (X ≠ 0 ∧ Lib.decDigits X.natAbs ++ l = Lib.decDigits n.natAbs)
theorem numRel_step (n X : Int) (l : List UInt8) (h : numRel n X l) (hX : X ≠ 0) : numRel n (X.tdiv 10) (UInt8.ofNat (48 + X.natAbs % 10) :: l) := by
  rcases h with ⟨h, _⟩ | ⟨_, h⟩
  · exact absurd h hX
  · by_cases hs : X.natAbs < 10
    · have e : X.tdiv 10 = 0 := by
        apply Int.natAbs_eq_zero.1
        rw [Int.natAbs_tdiv]
        exact Nat.div_eq_of_lt (by simpa using hs)
      refine .inl ⟨e, ?_⟩
      rw [← h, Lib.decDigits_one hs, Nat.mod_eq_of_lt hs]; rfl
    · have hd : (X.tdiv 10).natAbs = X.natAbs / 10 := by rw [Int.natAbs_tdiv]; rfl
      refine .inr ⟨?_, ?_⟩
      · intro e
        rw [e] at hd
        simp at hd
        omega
      · rw [hd, ← h, Lib.decDigits.eq_def X.natAbs, dif_neg hs]
        simp

theorem dig_len (k : Nat) : ∀ u : Nat, u < 10 ^ (k + 1) → (Lib.decDigits u).length ≤ k + 1 := by
  induction k with
  | zero => intro u hu; rw [Lib.decDigits_one (by simpa using hu)]; simp
  | succ k ih =>
    intro u hu
    by_cases hs : u < 10
    · rw [Lib.decDigits_one hs]; simp
    · rw [Lib.decDigits.eq_def, dif_neg hs, List.length_append]
      have := ih (u / 10) (by rw [Nat.div_lt_iff_lt_mul (by omega)]; rw [Nat.pow_succ] at hu; exact hu)
      simp; omega
theorem numRel_len {n X : Int} {l : List UInt8} (h : numRel n X l) (h0 : -9223372036854775808 ≤ n) (h1 : n ≤ 9223372036854775807) : l.length ≤ 20 := by
  have hb := dig_len 19 n.natAbs (by have : (10 : Nat) ^ (19 + 1) = 100000000000000000000 := by decide
                                     omega)
  rcases h with ⟨_, e⟩ | ⟨_, e⟩
  · rw [e]; exact hb
  · have := congrArg List.length e
    rw [List.length_append] at this
    omega
theorem one_size (c : Int) : (strOfNums [c]).size = 1 := rfl
theorem one_cat (c : Int) (l : List UInt8) : strOfNums [c] ++ (⟨l.toArray⟩ : ByteArray) = ⟨(UInt8.ofNat c.toNat :: l).toArray⟩ := by
  apply ByteArray.ext
  rw [ByteArray.data_append]
  simp [strOfNums]
theorem minus_cat (l : List UInt8) : (⟨#[45]⟩ : ByteArray) ++ (⟨l.toArray⟩ : ByteArray) = ⟨(45 :: l).toArray⟩ := by
  apply ByteArray.ext
  rw [ByteArray.data_append]
  simp
theorem ret_str {a b : ByteArray} (h : a = b) : Ending.returned (.string a) = .returned (.string b) := by rw [h]
theorem conv_one (w : World) (c : Int) : (convert 22 9 (.slice (some ⟨w.heap.size, 0, none⟩) 1 1)).run Tryd.prog (w.alloc (.cells #[.int .u8 c] 5)) = .ok (.string (strOfNums [c])) (w.alloc (.cells #[.int .u8 c] 5)) :=
  run_convert_bytes_arg _ _ _ Tryd.underlying22 Tryd.underlying5 w.heap.size 0 1 1 [c] rfl (fun i hi => by
    have : i = 0 := by omega
    subst this
    simp) _ Tryd.underlying9

set_option maxRecDepth 100000 in
set_option maxHeartbeats 400000 in
theorem specNumText_any (n : Int) (w : World) (hn0 : -9223372036854775808 ≤ n) (hn1 : n ≤ 9223372036854775807) :
    Calls Tryd.prog 35 #[.int .i64 n] w fun e w' => e = .returned (.string ⟨(Lib.itoa n).toArray⟩) ∧ Below w.heap.size w w' := by
  by_cases hz : n = 0
  · have hz' : (n == 0) = true := by simpa using hz
    have HZ : Hid (n = 0) := hz
    clear hz
    go_enter Tryd.func35, Tryd.ntmps35
    go_wp2
    go_ret
    have h48 : Lib.itoa n = [48] := by rw [HZ.out]; unfold Lib.itoa; rw [if_neg (by omega)]; exact Lib.decDigits_one (by decide)
    exact ⟨ret_str (by rw [h48]), Below.refl _ _⟩
  · have hz' : (n == 0) = false := by simpa using hz
    have HZ : Hid (n ≠ 0) := hz
    clear hz
    go_enter Tryd.func35, Tryd.ntmps35
    go_wp2
    go_loopw [3, 4] (fun s x wr => ∃ (X : Int) (l : List UInt8), s = .string ⟨l.toArray⟩ ∧ x = .int .i64 X ∧ -9223372036854775808 ≤ X ∧ X ≤ 9223372036854775807 ∧ Hid (numRel n X l) ∧ Below w.heap.size w wr) (fun _ x _ => (intOf x).natAbs)
    case atStart => exact ⟨n, [], rfl, rfl, hn0, hn1, Or.inr ⟨HZ.out, by simp⟩, Below.refl _ _⟩
    case round =>
      obtain ⟨X, l, rfl, rfl, hX0, hX1, HR, hb⟩ := hrel
      by_cases hXz : X = 0
      · have hx' : (X == 0) = true := by simpa using hXz
        have hx2 : (X != 0) = false := by simpa using hXz
        have hl := numRel_len HR.out hn0 hn1
        have HL : Hid (l = Lib.decDigits n.natAbs) := by
          rcases HR.out with ⟨_, e⟩ | ⟨e, _⟩
          · exact e
          · exact absurd hXz e
        clear hXz
        by_cases hneg : n < 0
        · have HI : Hid (Lib.itoa n = 45 :: Lib.decDigits n.natAbs) := by show Lib.itoa n = _; unfold Lib.itoa; rw [if_pos hneg]
          go_wp2
          go_ret
          exact ⟨ret_str (by rw [minus_cat, HI.out, HL.out]), hb⟩
        · have HI : Hid (Lib.itoa n = Lib.decDigits n.natAbs) := by
            show Lib.itoa n = _
            unfold Lib.itoa; rw [if_neg hneg]
            congr 1; omega
          go_wp2
          go_ret
          exact ⟨ret_str (by rw [HI.out, HL.out]), hb⟩
      · have hx' : (X == 0) = false := by simpa using hXz
        have hx2 : (X != 0) = true := by simpa using hXz
        have hcv := conv_one wr
        have hsz := one_size
        have hl := numRel_len HR.out hn0 hn1
        have hm := Int.tmod_lt_of_pos X (show (0 : Int) < 10 by omega)
        have hm' : -10 < X.tmod 10 := by have := Int.lt_tmod_of_pos X (show (0 : Int) < 10 by omega); omega
        have HS : Hid (numRel n (X.tdiv 10) (UInt8.ofNat (48 + X.natAbs % 10) :: l)) := numRel_step n X l HR.out hXz
        have hna : (X.tmod 10).natAbs = X.natAbs % 10 := by rw [Int.natAbs_tmod]; rfl
        have HN : Hid ((X.tmod 10).natAbs = X.natAbs % 10) := hna
        have hq : (X.tdiv 10).natAbs = X.natAbs / 10 := by rw [Int.natAbs_tdiv]; rfl
        have HQ : Hid ((X.tdiv 10).natAbs = X.natAbs / 10) := hq
        have HX : Hid (X ≠ 0) := hXz
        clear hna hq hXz
        have hq1 : -9223372036854775808 ≤ X.tdiv 10 ∧ X.tdiv 10 ≤ 9223372036854775807 := by have := HQ.out; omega
        obtain ⟨hq1, hq2⟩ := hq1
        by_cases hd : X.tmod 10 < 0
        all_goals
          go_wp2
          go_roundw
          case rel => exact ⟨X.tdiv 10, _, by rw [one_cat], rfl, hq1, hq2, by
            have h2 := HS.out
            have h3 := HN.out
            first
              | (have e : (48 + -X.tmod 10).toNat = 48 + X.natAbs % 10 := by omega
                 rw [e]; exact h2)
              | (have e : (48 + X.tmod 10).toNat = 48 + X.natAbs % 10 := by omega
                 rw [e]; exact h2), hb.alloc hb.size _⟩
          case measure =>
            have := HQ.out
            have := HX.out
            show (X.tdiv 10).natAbs < X.natAbs
            omega
end Go.Proofs.YtgaodfjmehofgacDoor
