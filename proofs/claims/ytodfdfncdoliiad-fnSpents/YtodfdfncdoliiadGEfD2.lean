/-
  Chapter 10: the specification's EffectOk (okEf), Lives (lvE), Near (nrE). Written by tools/ef.gen.py. The specification's PieceAt, OnField. Own work.
-/
import Derived.Test.YtodfdfncdoliiadGSpA2
import Derived.Test.YtodfdfncdoliiadAcD
import Derived.Test.YtodfdfncdoliiadGPaB2
import Derived.Deep.DeepCutAuto
import Derived.Deep.CutBlock
import Derived.Test.YtodfdfncdoliiadGState52
import Derived.Test.YtodfdfncdoliiadGEfB2
namespace Go.Proofs.Ytodfdfncdoliiad
open Go.ChangeShapes Go.WideShapes Go.ChangeAt Go.RowKit
set_option maxRecDepth 100000
set_option linter.unusedVariables false
set_option linter.unusedSimpArgs false

def hdE (a : Ef) : Bool := ib a.id 1 99 && ib a.si 0 2 && ib a.sr 0 99 && ib a.cl 0 4 && ib a.un (-1) 9999 && ib a.le (-1) 2147483647
def cdE (a : Ef) : Bool := (decide (a.cl = 0) && decide (a.sr = 0)) || (decide (a.ac.kd = 2) && decide (a.le < 0))
/-- whether an effect may be -/
def okEf (a : Ef) : Bool := hdE a && !cdE a && (okPt a.pt && okGd a.gd && okAc a.ac && fiA a.ac a.pt.kd)
/-- whether it lives -/
def lvE (a : Ef) (c : Int) : Bool := !decide (a.le = 0) && (decide (a.un = -1) || decide (c ≤ a.un))
/-- whether it is near -/
def nrE (a : Ef) (v : Ev) : Bool := !decide (a.cl = 0) || decide (a.sr = v.sr) || decide (a.sr = v.pi)
end Go.Proofs.Ytodfdfncdoliiad
namespace Go.Proofs.Ytodfdfncdoliiad
open Go.ChangeShapes Go.WideShapes Go.ChangeAt Go.RowKit
set_option maxRecDepth 100000
set_option linter.unusedVariables false
/-- the place of the first piece of this number -/
def paI (n : Nat) (f : Nat → Pc) (id : Int) : Int := match (List.range n).find? (fun i => decide ((f i).id = id)) with | some i => (i : Int) | none => -1
theorem paI_at {n k : Nat} {f : Nat → Pc} {id : Int} (hk : k < n) (h : (f k).id = id) (h0 : ∀ j, j < k → (f j).id ≠ id) : paI n f id = (k : Int) := by
  have : (List.range n).find? (fun i => decide ((f i).id = id)) = some k := by
    rw [List.find?_range_eq_some]
    exact ⟨by simpa using h, List.mem_range.2 hk, fun j hj => by simpa using h0 j hj⟩
  unfold paI
  rw [this]
theorem paI_none {n : Nat} {f : Nat → Pc} {id : Int} (h0 : ∀ j, j < n → (f j).id ≠ id) : paI n f id = -1 := by
  have : (List.range n).find? (fun i => decide ((f i).id = id)) = none := by
    rw [List.find?_eq_none]
    exact fun j hj => by simpa using h0 j (List.mem_range.1 hj)
  unfold paI
  rw [this]
/-- whether a piece is on the field, and this side's -/
def ofP (side : Int) (p : Pc) : Bool := decide (p.zo = 2) && (decide (side = -1) || decide (p.si = side))
/-- the numbers of the pieces on the field, of the first k -/
def ofL (k : Nat) (f : Nat → Pc) (side : Int) : List Int := ((List.range k).filter (fun i => ofP side (f i))).map (fun i => (f i).id)
theorem ofL_yes {k : Nat} {f : Nat → Pc} {side : Int} (h : ofP side (f k) = true) : ofL (k + 1) f side = ofL k f side ++ [(f k).id] := by
  unfold ofL; rw [List.range_succ, List.filter_append, List.map_append]; simp [h]
theorem ofL_no {k : Nat} {f : Nat → Pc} {side : Int} (h : ofP side (f k) = false) : ofL (k + 1) f side = ofL k f side := by
  unfold ofL; rw [List.range_succ, List.filter_append, List.map_append]; simp [h]
theorem ofL_len (k : Nat) (f : Nat → Pc) (side : Int) : (ofL k f side).length ≤ k := by
  unfold ofL; rw [List.length_map]; exact Nat.le_trans (List.length_filter_le _ _) (by simp)
theorem vals_list (L : List Int) : vals .i64 L.length (fun j => L.getD j 0) = L.map (Value.int .i64) := by
  symm
  refine vals_ext (by simp) (fun j hj => ?_)
  simp [hj]
end Go.Proofs.Ytodfdfncdoliiad
