/-
  What FnNums needs of numbers in bytes: a number comes back of its four bytes, and four bytes of the number that they are. Own work.
-/
import Derived.Test.YthhmfbegbhndaabDrawB2
namespace Go.Proofs.Ythhmfbegbhndaab
open Go.ChangeShapes Go.WideShapes Go.ChangeAt Go.RowKit

theorem part4 (f : Nat → Int) (i : Nat) : part f i 4 = (((0 * 256 + f (i + 0)) * 256 + f (i + 1)) * 256 + f (i + 2)) * 256 + f (i + 3) := rfl
theorem cat_at (m : Nat) (f g : Nat → Int) (j : Nat) : cat m f g (m + j) = g j := by
  unfold cat; rw [if_neg (by omega), Nat.add_sub_cancel_left]
theorem num4_enc (m : Nat) (f : Nat → Int) (n : Int) : num4 (cat m f (enc n)) m = bnd n + 2147483648 := by
  have r := bnd_rng n
  unfold num4
  rw [part4, cat_at, cat_at, cat_at, cat_at]
  have e0 : enc n 0 = (bnd n + 2147483648) / 16777216 := rfl
  have e1 : enc n 1 = (bnd n + 2147483648) / 65536 % 256 := rfl
  have e2 : enc n 2 = (bnd n + 2147483648) / 256 % 256 := rfl
  have e3 : enc n 3 = (bnd n + 2147483648) % 256 := rfl
  rw [e0, e1, e2, e3]
  omega
theorem gok_enc (m : Nat) (f : Nat → Int) (n : Int) : gok (m + 4) (cat m f (enc n)) (m : Int) = true := by
  have r := bnd_rng n
  rw [gok_in (by omega), Int.toNat_natCast, num4_enc]
  simp; omega
theorem gnum_enc (m : Nat) (f : Nat → Int) (n : Int) : gnum (m + 4) (cat m f (enc n)) (m : Int) = bd n := by
  unfold gnum
  rw [if_pos (gok_enc m f n), Int.toNat_natCast, num4_enc]
  show bnd n + 2147483648 - 2147483648 = bnd n
  omega
theorem gnext_enc (m : Nat) (f : Nat → Int) (n : Int) : gnext (m + 4) (cat m f (enc n)) (m : Int) = (m : Int) + 4 := by
  unfold gnext; rw [if_pos (gok_enc m f n)]
theorem implGetNum_back (a : Option Addr) (b m c : Nat) (n : Int) (f : Nat → Int) (w : World) (hm : m ≤ 1000) (hcap : m + 4 ≤ c) (hu : U8 m f) (h : Rd .u8 w b a (m + 4) (cat m f (enc n))) :
    Calls Try.prog 65 #[.slice a (m + 4) c, .int .i64 m] w fun e w' => e = .returned (.tuple #[.int .i64 (bd n), .int .i64 ((m : Int) + 4), .bool true]) ∧ Below w.heap.size w w' := by
  have := implGetNum_any a b (m + 4) c m (cat m f (enc n)) w (by omega) hcap (by omega) (U8.cat hu (U8.enc4 n)) h
  rw [gnum_enc, gnext_enc, gok_enc] at this
  exact this
/-- where a number stands, its four bytes are those that PutNum would lay -/
theorem enc_back {n : Nat} {f : Nat → Int} {at' : Int} (hu : U8 n f) (h : gok n f at' = true) : ∃ i : Nat, at' = i ∧ i + 4 ≤ n ∧ gnext n f at' = ((i + 4 : Nat) : Int) ∧ ∀ j, j < 4 → enc (gnum n f at') j = f (i + j) := by
  have hr : 0 ≤ at' ∧ at' ≤ (n : Int) - 4 := by
    unfold gok at h
    rw [Bool.and_eq_true] at h
    exact of_decide_eq_true h.1
  obtain ⟨i, rfl⟩ := Int.eq_ofNat_of_zero_le hr.1
  have hne : part f i 4 ≠ 0 := by
    rw [gok_in hr, Int.toNat_natCast] at h
    simpa [num4] using h
  have h4 := part_bd4 hu (show i + 4 ≤ n by omega)
  refine ⟨i, rfl, by omega, by rw [gnext_ok' h]; omega, ?_⟩
  have eg : gnum n f (i : Int) = part f i 4 - 2147483648 := by unfold gnum; rw [if_pos h, Int.toNat_natCast]; rfl
  have eb : bnd (part f i 4 - 2147483648) = part f i 4 - 2147483648 := by unfold bnd; (repeat' split) <;> omega
  have u0 := hu (i + 0) (by omega)
  have u1 := hu (i + 1) (by omega)
  have u2 := hu (i + 2) (by omega)
  have u3 := hu (i + 3) (by omega)
  intro j hj
  rw [eg]
  unfold enc
  rw [eb, part4]
  have : j = 0 ∨ j = 1 ∨ j = 2 ∨ j = 3 := by omega
  rcases this with rfl | rfl | rfl | rfl
  · rw [if_pos rfl]; omega
  · rw [if_neg (by omega), if_pos rfl]; omega
  · rw [if_neg (by omega), if_neg (by omega), if_pos rfl]; omega
  · rw [if_neg (by omega), if_neg (by omega), if_neg (by omega)]; omega
end Go.Proofs.Ythhmfbegbhndaab
