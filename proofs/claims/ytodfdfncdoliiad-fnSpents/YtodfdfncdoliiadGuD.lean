/-
  Chapter 8: the specification's Holds (hdG). Written by tools/gu.gen.py. Own work.
-/
import Derived.Test.YtodfdfncdoliiadGGuC2
import Derived.Test.YtodfdfncdoliiadGStSame2
import Derived.Deep.RegionHeld
namespace Go.Proofs.Ytodfdfncdoliiad
open Go.ChangeShapes Go.WideShapes Go.ChangeAt Go.RowKit
set_option maxRecDepth 100000
set_option linter.unusedVariables false
set_option linter.unusedSimpArgs false

def hdK (s : Stt) (side : Int) (g : Gd) : Bool := bif decide (g.kd = 1) then decide ((s.ss side.toNat).li ≤ g.nn) else bif decide (g.kd = 2) then decide (g.nn ≤ (mnG s side : Int)) else bif decide (g.kd = 3) then decide (s.ac = side) else bif decide (g.kd = 4) then decide (g.nn ≤ (bnG s side : Int)) else true
/-- whether it holds of this side -/
def hdG (s : Stt) (side : Int) (g : Gd) : Bool := okGd g && ib side 0 ((s.sn : Int) - 1) && hdK s side g
theorem okGd_kd {g : Gd} (h : okGd g = true) : g.kd = 0 ∨ g.kd = 1 ∨ g.kd = 2 ∨ g.kd = 3 ∨ g.kd = 4 := by
  unfold okGd at h
  by_cases h0 : g.kd = 0
  · exact .inl h0
  by_cases h1 : g.kd = 1
  · exact .inr (.inl h1)
  by_cases h3 : g.kd = 3
  · exact .inr (.inr (.inr (.inl h3)))
  simp [h0, h1, h3] at h
  omega
theorem ib_bd {x a b : Int} (h : ib x a b = true) : a ≤ x ∧ x ≤ b := by unfold ib at h; simp at h; exact h
theorem hdG_no {s : Stt} {side : Int} {g : Gd} (h : okGd g = false ∨ ib side 0 ((s.sn : Int) - 1) = false) : hdG s side g = false := by unfold hdG; rcases h with h | h <;> rw [h] <;> simp
theorem hdG_yes {s : Stt} {side : Int} {g : Gd} (h : okGd g = true) (k : ib side 0 ((s.sn : Int) - 1) = true) : hdG s side g = hdK s side g := by unfold hdG; rw [h, k]; rfl
end Go.Proofs.Ytodfdfncdoliiad
