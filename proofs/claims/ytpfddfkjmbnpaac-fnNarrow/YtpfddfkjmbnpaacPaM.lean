/-
  Chapter 7: what follows of nrP alone: each asks for all that it asks for; what is asked for without whom, traits and how much; both ways: the same. Own work.
-/
import Derived.Test.YtpfddfkjmbnpaacPaJ
namespace Go.Proofs.Ytpfddfkjmbnpaac
open Go.ChangeShapes Go.WideShapes Go.ChangeAt Go.RowKit
set_option maxRecDepth 100000
set_option linter.unusedVariables false
set_option linter.unusedSimpArgs false

theorem band_is (x y : Int) : bits .and .i64 x y = (BitVec.ofInt 64 x &&& BitVec.ofInt 64 y).toInt := wrap_nat _
theorem band_comm (x y : Int) : bits .and .i64 x y = bits .and .i64 y x := by rw [band_is, band_is, BitVec.and_comm]
theorem bv_back {x : Int} (h : 0 ≤ x ∧ x ≤ 63) : (BitVec.ofInt 64 x).toInt = x := by
  rw [BitVec.toInt_ofInt]
  simp [Int.bmod]
  omega
theorem band_self {x : Int} (h : 0 ≤ x ∧ x ≤ 63) : bits .and .i64 x x = x := by rw [band_is, BitVec.and_self, bv_back h]
theorem band_zero (x : Int) : bits .and .i64 x 0 = 0 := by
  rw [band_is]
  have e : BitVec.ofInt 64 x &&& BitVec.ofInt 64 0 = 0#64 := by simp
  rw [e]
  rfl
def okQ (p : Pt) : Prop := (1 ≤ p.kd ∧ p.kd ≤ 6) ∧ (0 ≤ p.wh ∧ p.wh ≤ 2) ∧ (0 ≤ p.pi ∧ p.pi ≤ 99) ∧ (0 ≤ p.le ∧ p.le ≤ 2147483647) ∧ (0 ≤ p.sr ∧ p.sr ≤ 99) ∧ (0 ≤ p.tr ∧ p.tr ≤ 63) ∧ (0 ≤ p.zo ∧ p.zo ≤ 4) ∧ (p.kd = 1 ∨ p.sr = 0 ∧ p.tr = 0) ∧ (p.kd = 2 ∨ p.zo = 0) ∧ (p.kd ≠ 3 ∧ p.kd ≠ 4 ∨ p.pi = 0)
theorem okPt_iff (p : Pt) : okPt p = true ↔ okQ p := by
  unfold okPt okT7 ib okQ
  simp only [Bool.and_eq_true, Bool.or_eq_true, decide_eq_true_eq, Bool.not_eq_true', decide_eq_false_iff_not]
  constructor
  · intro h; omega
  · intro h; omega
theorem orS_iff (x y : Int) : orS x y = true ↔ (x = 0 ∨ x = y) := by unfold orS; simp
theorem nrP_iff (p q : Pt) : nrP p q = true ↔ okQ p ∧ okQ q ∧ (p.kd = q.kd ∧ bits .and .i64 p.tr q.tr = q.tr ∧ q.le ≤ p.le) ∧ ((q.wh = 0 ∨ q.wh = p.wh) ∧ (q.sr = 0 ∨ q.sr = p.sr) ∧ (q.pi = 0 ∨ q.pi = p.pi) ∧ (q.zo = 0 ∨ q.zo = p.zo)) := by
  unfold nrP nrA nrB
  simp only [Bool.and_eq_true, okPt_iff, orS_iff, decide_eq_true_eq, and_assoc]
theorem nrP_self (p : Pt) : nrP p p = okPt p := by
  rw [Bool.eq_iff_iff, nrP_iff, okPt_iff]
  constructor
  · exact fun h => h.1
  · intro h
    exact ⟨h, h, ⟨rfl, band_self h.2.2.2.2.2.1, Int.le_refl _⟩, .inr rfl, .inr rfl, .inr rfl, .inr rfl⟩
/-- without whom, traits and how much -/
def rP (q : Pt) : Pt := ⟨q.kd, 0, q.sr, 0, q.pi, 0, q.zo⟩
theorem okQ_r {q : Pt} (h : okQ q) : okQ (rP q) := by unfold okQ rP at *; dsimp only at *; omega
theorem nrP_r {p q : Pt} (h : nrP p q = true) : nrP p (rP q) = true ∧ nrP q (rP q) = true := by
  rw [nrP_iff] at h
  obtain ⟨hp, hq, ⟨h1, h2, h3⟩, h4, h5, h6, h7⟩ := h
  refine ⟨(nrP_iff _ _).2 ⟨hp, okQ_r hq, ⟨h1, band_zero _, hp.2.2.2.1.1⟩, .inl rfl, h5, h6, h7⟩, (nrP_iff _ _).2 ⟨hq, okQ_r hq, ⟨rfl, band_zero _, hq.2.2.2.1.1⟩, .inl rfl, .inr rfl, .inr rfl, .inr rfl⟩⟩
theorem nrP_eq {p q : Pt} (h : nrP p q = true) (k : nrP q p = true) : smPt p q = true := by
  rw [nrP_iff] at h k
  obtain ⟨_, _, ⟨h1, h2, h3⟩, h4, h5, h6, h7⟩ := h
  obtain ⟨_, _, ⟨_, k2, k3⟩, k4, k5, k6, k7⟩ := k
  have ht : p.tr = q.tr := by rw [← k2, band_comm, h2]
  unfold smPt
  simp only [Bool.and_eq_true, decide_eq_true_eq]
  exact ⟨⟨⟨⟨⟨⟨h1, by omega⟩, by omega⟩, ht⟩, by omega⟩, by omega⟩, by omega⟩
end Go.Proofs.Ytpfddfkjmbnpaac
