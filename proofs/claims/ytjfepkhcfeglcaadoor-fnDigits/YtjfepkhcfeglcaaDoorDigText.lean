/-
  Plain mathematics of digits, there and back: what is read of the digits of an amount is that amount, and a text that is read is its own digits. Nothing of the program is named here. Own work.
-/
import Derived.Test.YtjfepkhcfeglcaaDoorDig
import Derived.Lib.ItoaNum
namespace Go.Proofs.YtjfepkhcfeglcaaDoor

theorem digit_toNat (u : Nat) (h : u < 10) : (UInt8.ofNat (48 + u)).toNat = 48 + u := by
  rw [UInt8.toNat_ofNat']; omega
theorem digit_is (u : Nat) (h : u < 10) : isDig (UInt8.ofNat (48 + u)) = true := by
  have e := digit_toNat u h
  unfold isDig
  rw [e]
  simp; omega
theorem val_one (c : UInt8) : val [c] = (c.toNat : Int) - 48 := by simp [val]
theorem digs_val (k : Nat) : ∀ u : Nat, u < 10 ^ (k + 1) → (Lib.decDigits u).all isDig = true ∧ val (Lib.decDigits u) = u ∧ Lib.decDigits u ≠ [] ∧ ((Lib.decDigits u).head? = some 48 → u = 0) := by
  have one : ∀ u : Nat, u < 10 → (Lib.decDigits u).all isDig = true ∧ val (Lib.decDigits u) = u ∧ Lib.decDigits u ≠ [] ∧ ((Lib.decDigits u).head? = some 48 → u = 0) := fun u hu => by
    have e := digit_toNat u hu
    rw [Lib.decDigits_one hu]
    refine ⟨by rw [List.all_cons, digit_is u hu]; rfl, by rw [val_one, e]; omega, by simp, fun h => ?_⟩
    have h2 : UInt8.ofNat (48 + u) = 48 := by simpa using h
    have h3 := congrArg UInt8.toNat h2
    rw [e] at h3
    have h4 : (48 : UInt8).toNat = 48 := rfl
    omega
  induction k with
  | zero => intro u hu; exact one u (by simpa using hu)
  | succ k ih =>
    intro u hu
    by_cases hs : u < 10
    · exact one u hs
    · obtain ⟨h1, h2, h3, h4⟩ := ih (u / 10) (by rw [Nat.div_lt_iff_lt_mul (by omega)]; rw [Nat.pow_succ] at hu; exact hu)
      have hm : u % 10 < 10 := Nat.mod_lt _ (by omega)
      rw [Lib.decDigits.eq_def, dif_neg hs]
      refine ⟨by rw [List.all_append, h1, List.all_cons, digit_is _ hm]; rfl, by rw [val_snoc, h2, digit_toNat _ hm]; omega, by simp, fun h => ?_⟩
      have h5 : (Lib.decDigits (u / 10)).head? = some 48 := by
        cases hd : Lib.decDigits (u / 10) with
        | nil => exact absurd hd h3
        | cons a b => rw [hd] at h; simpa using h
      have := h4 h5
      omega
theorem digs_val64 (u : Nat) (h : u ≤ 9223372036854775808) : (Lib.decDigits u).all isDig = true ∧ val (Lib.decDigits u) = u ∧ Lib.decDigits u ≠ [] ∧ ((Lib.decDigits u).head? = some 48 → u = 0) :=
  digs_val 19 u (by have e : (10 : Nat) ^ (19 + 1) = 100000000000000000000 := by decide
                    omega)
theorem good_digits (u : Nat) (h : u ≤ 9223372036854775808) : good (Lib.decDigits u) = decide (u ≤ 2147483647) := by
  obtain ⟨h1, h2, h3, h4⟩ := digs_val64 u h
  by_cases hm : u ≤ 2147483647
  · rw [decide_eq_true hm]
    refine good_mk h3 ?_ h1 (by omega)
    rintro ⟨a, b⟩
    have := h4 b
    subst this
    rw [Lib.decDigits_one (by omega)] at a
    simp at a
  · rw [decide_eq_false hm]
    exact good_big (by omega)
theorem head_dig (l : List UInt8) (h : l.all isDig = true) (c : UInt8) (t : List UInt8) (e : l = c :: t) : c ≠ 45 := by
  rintro rfl
  rw [e] at h
  simp [isDig] at h
theorem ps_itoa (n : Int) (h0 : -9223372036854775808 ≤ n) (h1 : n ≤ 9223372036854775807) :
    psOk (Lib.itoa n) = (decide (-2147483647 ≤ n) && decide (n ≤ 2147483647)) ∧ (psOk (Lib.itoa n) = true → psN (Lib.itoa n) = n) := by
  unfold Lib.itoa
  by_cases hn : n < 0
  · rw [if_pos hn]
    obtain ⟨_, v, _, _⟩ := digs_val64 n.natAbs (by omega)
    have g := good_digits n.natAbs (by omega)
    have e1 : psOk (45 :: Lib.decDigits n.natAbs) = (good (Lib.decDigits n.natAbs) && decide (val (Lib.decDigits n.natAbs) ≠ 0)) := rfl
    have e2 : psN (45 :: Lib.decDigits n.natAbs) = -(rdN (Lib.decDigits n.natAbs)) := rfl
    rw [e1, e2, g, v]
    constructor
    · rw [Bool.eq_iff_iff]; simp; omega
    · intro h
      simp at h
      rw [rdN_good (by rw [g]; simpa using h.1), v]; omega
  · rw [if_neg hn]
    obtain ⟨a, v, ne, _⟩ := digs_val64 n.toNat (by omega)
    have g := good_digits n.toNat (by omega)
    cases hd : Lib.decDigits n.toNat with
    | nil => exact absurd hd ne
    | cons c t =>
      have hc := head_dig _ a c t hd
      have e1 : psOk (c :: t) = good (c :: t) := by show (if c = 45 then _ else _) = _; rw [if_neg hc]
      have e2 : psN (c :: t) = rdN (c :: t) := by show (if c = 45 then _ else _) = _; rw [if_neg hc]
      rw [hd] at g v
      rw [e1, e2, g]
      constructor
      · rw [Bool.eq_iff_iff]; simp; omega
      · intro h
        rw [rdN_good (by rw [g]; exact h), v]; omega
theorem byte_back (c : UInt8) (h : isDig c = true) : UInt8.ofNat (48 + (((c.toNat : Int) - 48).toNat)) = c := by
  have b := isDig_bd h
  apply UInt8.toNat_inj.1
  rw [UInt8.toNat_ofNat']
  omega
theorem canon (k : Nat) : ∀ l : List UInt8, l.length = k + 1 → l.all isDig = true → (k = 0 ∨ l.head? ≠ some 48) → Lib.decDigits (val l).toNat = l ∧ (l.head? ≠ some 48 → 0 < val l) := by
  induction k with
  | zero =>
    intro l hl ha _
    match l, hl with
    | [c], _ =>
      have hc : isDig c = true := by simpa using ha
      have b := isDig_bd hc
      rw [val_one]
      refine ⟨by rw [Lib.decDigits_one (by omega), byte_back c hc], fun h => ?_⟩
      have : c.toNat ≠ 48 := fun e => h (by have : c = 48 := UInt8.toNat_inj.1 (by simpa using e)
                                            rw [this]; rfl)
      omega
  | succ k ih =>
    intro l hl ha hh
    have hne : l ≠ [] := by intro e; subst e; simp at hl
    have hsp := List.dropLast_concat_getLast hne
    generalize hL : l.dropLast = L at hsp
    generalize hC : l.getLast hne = c at hsp
    have hll : L.length = k + 1 := by rw [← hL, List.length_dropLast]; omega
    have hhd : l.head? ≠ some 48 := by
      rcases hh with h | h
      · omega
      · exact h
    have hhL : L.head? ≠ some 48 := by
      intro e
      apply hhd
      rw [← hsp]
      cases hd : L with
      | nil => rw [hd] at hll; simp at hll
      | cons a b => rw [hd] at e; simpa using e
    rw [← hsp, List.all_append, Bool.and_eq_true] at ha
    have hc : isDig c = true := by simpa using ha.2
    have b := isDig_bd hc
    obtain ⟨h1, h2⟩ := ih L hll ha.1 (.inr hhL)
    have hp := h2 hhL
    have hv : val l = 10 * val L + ((c.toNat : Int) - 48) := by rw [← hsp, val_snoc]
    refine ⟨?_, fun _ => by omega⟩
    have hbig : ¬ (val l).toNat < 10 := by omega
    rw [Lib.decDigits.eq_def, dif_neg hbig]
    have e1 : (val l).toNat / 10 = (val L).toNat := by omega
    have e2 : (val l).toNat % 10 = ((c.toNat : Int) - 48).toNat := by omega
    rw [e1, e2, h1, byte_back c hc, hsp]
theorem good_parts {l : List UInt8} (h : good l = true) : l ≠ [] ∧ ¬ (1 < l.length ∧ l.head? = some 48) ∧ l.all isDig = true ∧ val l ≤ 2147483647 := by
  simp only [good, Bool.and_eq_true, decide_eq_true_eq] at h
  obtain ⟨⟨⟨a, b⟩, c⟩, d⟩ := h
  refine ⟨a, ?_, c, d⟩
  rintro ⟨e, f⟩
  simp [e, f] at b
theorem good_canon {l : List UInt8} (h : good l = true) : Lib.decDigits (val l).toNat = l := by
  obtain ⟨a, b, c, _⟩ := good_parts h
  have hl : l.length = (l.length - 1) + 1 := by
    cases l with
    | nil => exact absurd rfl a
    | cons x y => simp
  refine (canon (l.length - 1) l hl c ?_).1
  by_cases e : l.length - 1 = 0
  · exact .inl e
  · exact .inr fun f => b ⟨by omega, f⟩
theorem itoa_ps (t : List UInt8) (h : psOk t = true) : Lib.itoa (psN t) = t ∧ -2147483647 ≤ psN t ∧ psN t ≤ 2147483647 := by
  cases t with
  | nil => exact absurd h (by decide)
  | cons c t =>
    by_cases hc : c = 45
    · subst hc
      have e1 : psOk (45 :: t) = (good t && decide (val t ≠ 0)) := rfl
      have e2 : psN (45 :: t) = -(rdN t) := rfl
      rw [e1] at h
      simp only [Bool.and_eq_true, decide_eq_true_eq] at h
      obtain ⟨_, _, cc, d⟩ := good_parts h.1
      have hv := val_nonneg _ cc
      rw [e2, rdN_good h.1]
      refine ⟨?_, by omega, by omega⟩
      unfold Lib.itoa
      rw [if_pos (by have := h.2; omega)]
      have e : (-val t).natAbs = (val t).toNat := by omega
      rw [e, good_canon h.1]
    · have e1 : psOk (c :: t) = good (c :: t) := by show (if c = 45 then _ else _) = _; rw [if_neg hc]
      have e2 : psN (c :: t) = rdN (c :: t) := by show (if c = 45 then _ else _) = _; rw [if_neg hc]
      rw [e1] at h
      obtain ⟨_, _, cc, d⟩ := good_parts h
      have hv := val_nonneg _ cc
      rw [e2, rdN_good h]
      refine ⟨?_, by omega, by omega⟩
      unfold Lib.itoa
      rw [if_neg (by omega)]
      exact good_canon h
end Go.Proofs.YtjfepkhcfeglcaaDoor
