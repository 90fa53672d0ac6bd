/-
  Chapter 10: the specification's EffectOk (okEf), Lives (lvE), Near (nrE). Written by tools/ef.gen.py. Own work.
-/
import Derived.Test.YtdcgobngmdhmaatEfC
import Derived.Test.YtdcgobngmdhmaatAcD
import Derived.Test.YtdcgobngmdhmaatPaB
import Derived.Test.YtdcgobngmdhmaatGuB
import Derived.Deep.DeepCutAuto
import Derived.Deep.CutBlock
namespace Go.Proofs.Ytdcgobngmdhmaat
open Go.ChangeShapes Go.WideShapes Go.ChangeAt Go.RowKit
set_option maxRecDepth 100000
set_option linter.unusedVariables false
set_option linter.unusedSimpArgs false

def hdE (a : Ef) : Bool := ib a.id 1 99 && ib a.si 0 2 && ib a.sr 0 99 && ib a.cl 0 4 && ib a.un (-1) 9999 && ib a.le (-1) 2147483647
def cdE (a : Ef) : Bool := (decide (a.cl = 0) && decide (a.sr = 0)) || (decide (a.ac.kd = 2) && decide (a.le < 0))
/-- whether an effect may be -/
def okEf (a : Ef) : Bool := hdE a && !cdE a && (okPt a.pt && okGd a.gd && okAc a.ac && fiA a.ac a.pt.kd)
/-- whether it lives -/
def lvE (a : Ef) (c : Int) : Bool := !decide (a.le = 0) && (decide (a.un = -1) || decide (c ≤ a.un))
/-- whether it is near -/
def nrE (a : Ef) (v : Ev) : Bool := !decide (a.cl = 0) || decide (a.sr = v.sr) || decide (a.sr = v.pi)
set_option maxHeartbeats 2000000 in
theorem specNear_any (a : Ef) (v : Ev) (w : World) : Calls Try.prog 6 #[(.agg #[.int .i64 a.id, .int .i64 a.si, .int .i64 a.sr, .int .i64 a.cl, .int .i64 a.pt.kd, .int .i64 a.pt.wh, .int .i64 a.pt.sr, .int .i64 a.pt.tr, .int .i64 a.pt.pi, .int .i64 a.pt.le, .int .i64 a.pt.zo, .int .i64 a.gd.kd, .int .i64 a.gd.nn, .int .i64 a.ac.kd, .int .i64 a.ac.nn, .int .i64 a.ac.pi, .int .i64 a.ac.si, .int .i64 a.ac.zo, .bool a.ac.be, .slice a.ac.la a.ac.ln a.ac.lcap, .int .i64 a.un, .int .i64 a.le]), (.agg #[.int .i64 v.kd, .int .i64 v.sr, .int .i64 v.pi, .int .i64 v.si, .int .i64 v.nn, .int .i64 v.zo, .bool v.be])] w fun e w' => e = .returned (.bool (nrE a v)) ∧ Below w.heap.size w w' := by
  have HB := ((Below.refl _ w).alloc (Nat.le_refl _) (.cells #[.int .i64 a.id, .int .i64 a.si, .int .i64 a.sr, .int .i64 a.cl, .int .i64 a.pt.kd, .int .i64 a.pt.wh, .int .i64 a.pt.sr, .int .i64 a.pt.tr, .int .i64 a.pt.pi, .int .i64 a.pt.le, .int .i64 a.pt.zo, .int .i64 a.gd.kd, .int .i64 a.gd.nn, .int .i64 a.ac.kd, .int .i64 a.ac.nn, .int .i64 a.ac.pi, .int .i64 a.ac.si, .int .i64 a.ac.zo, .bool a.ac.be, .slice a.ac.la a.ac.ln a.ac.lcap, .int .i64 a.un, .int .i64 a.le] 41)).alloc (by simp) (.cells #[.int .i64 v.kd, .int .i64 v.sr, .int .i64 v.pi, .int .i64 v.si, .int .i64 v.nn, .int .i64 v.zo, .bool v.be] 43)
  have bx := (boxR_new w 41 #[.int .i64 a.id, .int .i64 a.si, .int .i64 a.sr, .int .i64 a.cl, .int .i64 a.pt.kd, .int .i64 a.pt.wh, .int .i64 a.pt.sr, .int .i64 a.pt.tr, .int .i64 a.pt.pi, .int .i64 a.pt.le, .int .i64 a.pt.zo, .int .i64 a.gd.kd, .int .i64 a.gd.nn, .int .i64 a.ac.kd, .int .i64 a.ac.nn, .int .i64 a.ac.pi, .int .i64 a.ac.si, .int .i64 a.ac.zo, .bool a.ac.be, .slice a.ac.la a.ac.ln a.ac.lcap, .int .i64 a.un, .int .i64 a.le]).alloc (.cells #[.int .i64 v.kd, .int .i64 v.sr, .int .i64 v.pi, .int .i64 v.si, .int .i64 v.nn, .int .i64 v.zo, .bool v.be] 43)
  have by_ : BoxR ((w.alloc (.cells #[.int .i64 a.id, .int .i64 a.si, .int .i64 a.sr, .int .i64 a.cl, .int .i64 a.pt.kd, .int .i64 a.pt.wh, .int .i64 a.pt.sr, .int .i64 a.pt.tr, .int .i64 a.pt.pi, .int .i64 a.pt.le, .int .i64 a.pt.zo, .int .i64 a.gd.kd, .int .i64 a.gd.nn, .int .i64 a.ac.kd, .int .i64 a.ac.nn, .int .i64 a.ac.pi, .int .i64 a.ac.si, .int .i64 a.ac.zo, .bool a.ac.be, .slice a.ac.la a.ac.ln a.ac.lcap, .int .i64 a.un, .int .i64 a.le] 41)).alloc (.cells #[.int .i64 v.kd, .int .i64 v.sr, .int .i64 v.pi, .int .i64 v.si, .int .i64 v.nn, .int .i64 v.zo, .bool v.be] 43)) (w.heap.size + 1) 43 #[.int .i64 v.kd, .int .i64 v.sr, .int .i64 v.pi, .int .i64 v.si, .int .i64 v.nn, .int .i64 v.zo, .bool v.be] := heap_alloc2_new _ _ _
  generalize hW : (w.alloc (.cells #[.int .i64 a.id, .int .i64 a.si, .int .i64 a.sr, .int .i64 a.cl, .int .i64 a.pt.kd, .int .i64 a.pt.wh, .int .i64 a.pt.sr, .int .i64 a.pt.tr, .int .i64 a.pt.pi, .int .i64 a.pt.le, .int .i64 a.pt.zo, .int .i64 a.gd.kd, .int .i64 a.gd.nn, .int .i64 a.ac.kd, .int .i64 a.ac.nn, .int .i64 a.ac.pi, .int .i64 a.ac.si, .int .i64 a.ac.zo, .bool a.ac.be, .slice a.ac.la a.ac.ln a.ac.lcap, .int .i64 a.un, .int .i64 a.le] 41)).alloc (.cells #[.int .i64 v.kd, .int .i64 v.sr, .int .i64 v.pi, .int .i64 v.si, .int .i64 v.nn, .int .i64 v.zo, .bool v.be] 43) = W at HB bx by_
  obtain ⟨c0, c1, c2, c3, c4, c5, c6, c7, c8, c9, c10, c11, c12, c13, c14, c15, c16, c17, c18, c19, c20, c21⟩ := bx.cells22
  have e1 := by_.cell 1
  have e2 := by_.cell 2
  simp at e1 e2
  go_enter Try.func6, Try.ntmps6
  go_wp2
  all_goals go_ret
  all_goals exact ⟨ret_bool' (by unfold nrE; first | (simp_all; done) | (rw [Bool.eq_iff_iff]; simp_all; done) | (rw [Bool.eq_iff_iff]; simp_all; omega)), HB⟩
end Go.Proofs.Ytdcgobngmdhmaat
