/-
  Plain mathematics of digits: the value of a list of digit bytes, which lists are the text of an amount, and what the document's ParseNum answers of a text. Nothing of the program is named here. Own work.
-/
import Derived.KernelRfl
namespace Go.Proofs.YtjfepkhcfeglcaaDoor

def isDig (c : UInt8) : Bool := decide (48 ≤ c.toNat) && decide (c.toNat ≤ 57)
def val (l : List UInt8) : Int := l.foldl (fun n c => 10 * n + ((c.toNat : Int) - 48)) 0
def good (l : List UInt8) : Bool := decide (l ≠ []) && !(decide (1 < l.length) && l.head? == some 48) && l.all isDig && decide (val l ≤ 2147483647)
def rdN (l : List UInt8) : Int := if good l then val l else 0

theorem val_snoc (l : List UInt8) (c : UInt8) : val (l ++ [c]) = 10 * val l + ((c.toNat : Int) - 48) := by simp [val]
theorem isDig_bd {c : UInt8} (h : isDig c = true) : 48 ≤ c.toNat ∧ c.toNat ≤ 57 := by simpa [isDig] using h
theorem val_append (l r : List UInt8) : val (l ++ r) = r.foldl (fun n c => 10 * n + ((c.toNat : Int) - 48)) (val l) := by simp [val]
theorem fold_ge (r : List UInt8) (h : r.all isDig = true) : ∀ n : Int, 0 ≤ n → n * (10 : Int) ^ r.length ≤ r.foldl (fun n c => 10 * n + ((c.toNat : Int) - 48)) n := by
  induction r with
  | nil => intro n _; simp
  | cons c r ih =>
    intro n hn
    simp only [List.all_cons, Bool.and_eq_true] at h
    have hc := isDig_bd h.1
    have h1 := ih h.2 (10 * n + ((c.toNat : Int) - 48)) (by omega)
    have h2 : n * (10 : Int) ^ (c :: r).length ≤ (10 * n + ((c.toNat : Int) - 48)) * (10 : Int) ^ r.length := by
      have e : n * (10 : Int) ^ (c :: r).length = (10 * n) * (10 : Int) ^ r.length := by
        rw [List.length_cons, Int.pow_succ, ← Int.mul_assoc, Int.mul_right_comm, Int.mul_comm n 10]
      rw [e]
      exact Int.mul_le_mul_of_nonneg_right (by omega) (Int.pow_nonneg (by omega))
    exact Int.le_trans h2 h1
theorem pow10_pos (k : Nat) : (1 : Int) ≤ (10 : Int) ^ k := by
  induction k with
  | zero => simp
  | succ k ih => rw [Int.pow_succ]; omega
theorem val_nonneg (l : List UInt8) (h : l.all isDig = true) : 0 ≤ val l := by
  have := fold_ge l h 0 (by omega)
  simpa [val] using this
theorem val_le_append (l r : List UInt8) (hl : l.all isDig = true) (hr : r.all isDig = true) : val l ≤ val (l ++ r) := by
  rw [val_append]
  have h0 := val_nonneg l hl
  have h1 := fold_ge r hr (val l) h0
  have h2 : val l * 1 ≤ val l * (10 : Int) ^ r.length := Int.mul_le_mul_of_nonneg_left (pow10_pos _) h0
  omega
theorem fold_lt (r : List UInt8) (h : r.all isDig = true) : ∀ n : Int, 0 ≤ n → r.foldl (fun n c => 10 * n + ((c.toNat : Int) - 48)) n + 1 ≤ (n + 1) * (10 : Int) ^ r.length := by
  induction r with
  | nil => intro n _; simp
  | cons c r ih =>
    intro n hn
    simp only [List.all_cons, Bool.and_eq_true] at h
    have hc := isDig_bd h.1
    have h1 := ih h.2 (10 * n + ((c.toNat : Int) - 48)) (by omega)
    have h2 : (10 * n + ((c.toNat : Int) - 48) + 1) * (10 : Int) ^ r.length ≤ (n + 1) * (10 : Int) ^ (c :: r).length := by
      have e : (n + 1) * (10 : Int) ^ (c :: r).length = (10 * (n + 1)) * (10 : Int) ^ r.length := by
        rw [List.length_cons, Int.pow_succ, ← Int.mul_assoc, Int.mul_right_comm, Int.mul_comm (n + 1) 10]
      rw [e]
      exact Int.mul_le_mul_of_nonneg_right (by omega) (Int.pow_nonneg (by omega))
    exact Int.le_trans h1 h2
theorem val_lt (l : List UInt8) (h : l.all isDig = true) : val l < (10 : Int) ^ l.length := by
  have := fold_lt l h 0 (by omega)
  simp only [val]
  omega
theorem pow10_mono {a b : Nat} (h : a ≤ b) : (10 : Int) ^ a ≤ (10 : Int) ^ b := by
  induction b with
  | zero => have : a = 0 := by omega
            subst this; simp
  | succ b ih =>
    by_cases e : a = b + 1
    · subst e; exact Int.le_refl _
    · have := ih (by omega)
      have p := pow10_pos b
      rw [Int.pow_succ]; omega
/-- eleven digits, the first not nought: beyond every amount -/
theorem val_long (c : UInt8) (r : List UInt8) (hc : isDig c = true) (hne : c ≠ 48) (hr : r.all isDig = true) (hl : 10 ≤ r.length) : 2147483647 < val (c :: r) := by
  have b := isDig_bd hc
  have hc0 : c.toNat ≠ 48 := fun e => hne (UInt8.toNat_inj.1 (by simpa using e))
  have e : val (c :: r) = r.foldl (fun n c => 10 * n + ((c.toNat : Int) - 48)) ((c.toNat : Int) - 48) := by simp [val]
  rw [e]
  have h1 := fold_ge r hr ((c.toNat : Int) - 48) (by omega)
  have h2 : (10 : Int) ^ 10 ≤ (10 : Int) ^ r.length := pow10_mono hl
  have h3 : (1 : Int) * (10 : Int) ^ r.length ≤ ((c.toNat : Int) - 48) * (10 : Int) ^ r.length := Int.mul_le_mul_of_nonneg_right (by omega) (by omega)
  have h4 : (10 : Int) ^ 10 = 10000000000 := by decide
  omega

/-- what the document's ParseNum answers: the number, and whether the text is an amount's -/
def psOk (s : List UInt8) : Bool := match s with
  | [] => false
  | c :: t => if c = 45 then good t && decide (val t ≠ 0) else good (c :: t)
def psN (s : List UInt8) : Int := match s with
  | [] => 0
  | c :: t => if c = 45 then -(rdN t) else rdN (c :: t)
theorem rdN_bad {l : List UInt8} (h : good l = false) : rdN l = 0 := by simp [rdN, h]
theorem rdN_good {l : List UInt8} (h : good l = true) : rdN l = val l := by simp [rdN, h]
theorem good_nil : good [] = false := rfl
theorem good_zero (c : UInt8) (t : List UInt8) (hc : c = 48) (ht : t ≠ []) : good (c :: t) = false := by
  subst hc
  cases t with
  | nil => exact absurd rfl ht
  | cons a b => simp [good]
theorem good_digs {l : List UInt8} (h : l.all isDig = false) : good l = false := by simp [good, h]
theorem good_big {l : List UInt8} (h : 2147483647 < val l) : good l = false := by
  have : ¬ val l ≤ 2147483647 := by omega
  simp [good, this]
theorem good_mk {l : List UInt8} (h0 : l ≠ []) (h1 : ¬ (1 < l.length ∧ l.head? = some 48)) (h2 : l.all isDig = true) (h3 : val l ≤ 2147483647) : good l = true := by
  have h4 : (decide (1 < l.length) && l.head? == some 48) = false := by
    cases hd : (decide (1 < l.length) && l.head? == some 48) with
    | false => rfl
    | true => exact absurd (by simpa using hd) h1
  simp only [good, h4, h2, decide_eq_true h0, decide_eq_true h3]; rfl
end Go.Proofs.YtjfepkhcfeglcaaDoor
