/-
  Chapter 8: the specification's counts: l8Many (mnG), BentOf (bnG). Written by tools/gu.gen.py. Own work.
-/
import Derived.Test.YthemmhocnkpcjasGuB
import Derived.Test.YthemmhocnkpcjasState8
namespace Go.Proofs.Ythemmhocnkpcjas
open Go.ChangeShapes Go.WideShapes Go.ChangeAt Go.RowKit
set_option maxRecDepth 100000
set_option linter.unusedVariables false
set_option linter.unusedSimpArgs false

def mnP (side : Int) (p : Pc) : Bool := decide (p.zo = 2) && decide (p.si = side)
def bnP (side : Int) (p : Pc) : Bool := decide (p.zo = 2) && decide (p.si = side) && p.be
/-- how many of the first n are so -/
def cnG (f : Pc → Bool) (n : Nat) (ps : Nat → Pc) : Nat := ((List.range n).filter (fun i => f (ps i))).length
theorem cnG_yes {f : Pc → Bool} {k : Nat} {ps : Nat → Pc} (h : f (ps k) = true) : cnG f (k + 1) ps = cnG f k ps + 1 := by unfold cnG; rw [List.range_succ, List.filter_append]; simp [h]
theorem cnG_no {f : Pc → Bool} {k : Nat} {ps : Nat → Pc} (h : f (ps k) = false) : cnG f (k + 1) ps = cnG f k ps := by unfold cnG; rw [List.range_succ, List.filter_append]; simp [h]
theorem cnG_le (f : Pc → Bool) (n : Nat) (ps : Nat → Pc) : cnG f n ps ≤ n := by unfold cnG; exact Nat.le_trans (List.length_filter_le _ _) (by simp)
/-- how many pieces this side has on the field; how many of them are bent -/
def mnG (s : Stt) (side : Int) : Nat := cnG (mnP side) s.pn s.ps
def bnG (s : Stt) (side : Int) : Nat := cnG (bnP side) s.pn s.ps
end Go.Proofs.Ythemmhocnkpcjas
