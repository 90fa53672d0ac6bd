/-
  Chapter 10, the program: standing, and what it is asked. Written by tools/efi.gen.py. Chapter 7: the specification's Narrower (nrP). Written by tools/pa.gen.py. Own work.
-/
import Derived.Test.YtdcgobngmdhmaadGAcC7
import Derived.Deep.DeepCutAuto
import Derived.Deep.CutBlock
import Derived.Deep.RegionHeld
import Derived.Test.YtdcgobngmdhmaadGEvW11
namespace Go.Proofs.Ytdcgobngmdhmaad
open Go.ChangeShapes Go.WideShapes Go.ChangeAt Go.RowKit
set_option maxRecDepth 100000
set_option linter.unusedVariables false
set_option linter.unusedSimpArgs false

set_option maxHeartbeats 2000000 in
theorem standingOf_any (a : Ef) (w : World) : Calls Try.prog 19 #[(.agg #[.int .i64 a.id, .int .i64 a.si, .int .i64 a.sr, .int .i64 a.cl, .int .i64 a.pt.kd, .int .i64 a.pt.wh, .int .i64 a.pt.sr, .int .i64 a.pt.tr, .int .i64 a.pt.pi, .int .i64 a.pt.le, .int .i64 a.pt.zo, .int .i64 a.gd.kd, .int .i64 a.gd.nn, .int .i64 a.ac.kd, .int .i64 a.ac.nn, .int .i64 a.ac.pi, .int .i64 a.ac.si, .int .i64 a.ac.zo, .bool a.ac.be, .slice a.ac.la a.ac.ln a.ac.lcap, .int .i64 a.un, .int .i64 a.le])] w fun e w' => e = .returned (.agg #[.int .i64 a.cl, .int .i64 a.sr, .int .i64 a.si, .int .i64 a.pt.kd, .int .i64 a.pt.wh, .int .i64 a.pt.sr, .int .i64 a.pt.tr, .int .i64 a.pt.pi, .int .i64 a.pt.le, .int .i64 a.pt.zo, .int .i64 a.gd.kd, .int .i64 a.gd.nn, .int .i64 a.un, .int .i64 a.le]) ∧ Below w.heap.size w w' := by
  have HB := ((Below.refl _ w).alloc (Nat.le_refl _) (.cells #[.int .i64 a.id, .int .i64 a.si, .int .i64 a.sr, .int .i64 a.cl, .int .i64 a.pt.kd, .int .i64 a.pt.wh, .int .i64 a.pt.sr, .int .i64 a.pt.tr, .int .i64 a.pt.pi, .int .i64 a.pt.le, .int .i64 a.pt.zo, .int .i64 a.gd.kd, .int .i64 a.gd.nn, .int .i64 a.ac.kd, .int .i64 a.ac.nn, .int .i64 a.ac.pi, .int .i64 a.ac.si, .int .i64 a.ac.zo, .bool a.ac.be, .slice a.ac.la a.ac.ln a.ac.lcap, .int .i64 a.un, .int .i64 a.le] 32)).alloc (by simp) (.cells #[.int .i64 0, .int .i64 0, .int .i64 0, .int .i64 0, .int .i64 0, .int .i64 0, .int .i64 0, .int .i64 0, .int .i64 0, .int .i64 0, .int .i64 0, .int .i64 0, .int .i64 0, .int .i64 0] 59)
  have x1 := (boxR_new w 32 #[.int .i64 a.id, .int .i64 a.si, .int .i64 a.sr, .int .i64 a.cl, .int .i64 a.pt.kd, .int .i64 a.pt.wh, .int .i64 a.pt.sr, .int .i64 a.pt.tr, .int .i64 a.pt.pi, .int .i64 a.pt.le, .int .i64 a.pt.zo, .int .i64 a.gd.kd, .int .i64 a.gd.nn, .int .i64 a.ac.kd, .int .i64 a.ac.nn, .int .i64 a.ac.pi, .int .i64 a.ac.si, .int .i64 a.ac.zo, .bool a.ac.be, .slice a.ac.la a.ac.ln a.ac.lcap, .int .i64 a.un, .int .i64 a.le]).alloc (.cells #[.int .i64 0, .int .i64 0, .int .i64 0, .int .i64 0, .int .i64 0, .int .i64 0, .int .i64 0, .int .i64 0, .int .i64 0, .int .i64 0, .int .i64 0, .int .i64 0, .int .i64 0, .int .i64 0] 59)
  have x2 : BoxR ((w.alloc (.cells #[.int .i64 a.id, .int .i64 a.si, .int .i64 a.sr, .int .i64 a.cl, .int .i64 a.pt.kd, .int .i64 a.pt.wh, .int .i64 a.pt.sr, .int .i64 a.pt.tr, .int .i64 a.pt.pi, .int .i64 a.pt.le, .int .i64 a.pt.zo, .int .i64 a.gd.kd, .int .i64 a.gd.nn, .int .i64 a.ac.kd, .int .i64 a.ac.nn, .int .i64 a.ac.pi, .int .i64 a.ac.si, .int .i64 a.ac.zo, .bool a.ac.be, .slice a.ac.la a.ac.ln a.ac.lcap, .int .i64 a.un, .int .i64 a.le] 32)).alloc (.cells #[.int .i64 0, .int .i64 0, .int .i64 0, .int .i64 0, .int .i64 0, .int .i64 0, .int .i64 0, .int .i64 0, .int .i64 0, .int .i64 0, .int .i64 0, .int .i64 0, .int .i64 0, .int .i64 0] 59)) (w.heap.size + 1) 59 #[.int .i64 0, .int .i64 0, .int .i64 0, .int .i64 0, .int .i64 0, .int .i64 0, .int .i64 0, .int .i64 0, .int .i64 0, .int .i64 0, .int .i64 0, .int .i64 0, .int .i64 0, .int .i64 0] := heap_alloc2_new _ _ _
  generalize hW : (w.alloc (.cells #[.int .i64 a.id, .int .i64 a.si, .int .i64 a.sr, .int .i64 a.cl, .int .i64 a.pt.kd, .int .i64 a.pt.wh, .int .i64 a.pt.sr, .int .i64 a.pt.tr, .int .i64 a.pt.pi, .int .i64 a.pt.le, .int .i64 a.pt.zo, .int .i64 a.gd.kd, .int .i64 a.gd.nn, .int .i64 a.ac.kd, .int .i64 a.ac.nn, .int .i64 a.ac.pi, .int .i64 a.ac.si, .int .i64 a.ac.zo, .bool a.ac.be, .slice a.ac.la a.ac.ln a.ac.lcap, .int .i64 a.un, .int .i64 a.le] 32)).alloc (.cells #[.int .i64 0, .int .i64 0, .int .i64 0, .int .i64 0, .int .i64 0, .int .i64 0, .int .i64 0, .int .i64 0, .int .i64 0, .int .i64 0, .int .i64 0, .int .i64 0, .int .i64 0, .int .i64 0] 59) = W at HB x1 x2
  obtain ⟨c0, c1, c2, c3, c4, c5, c6, c7, c8, c9, c10, c11, c12, c13, c14, c15, c16, c17, c18, c19, c20, c21⟩ := x1.cells22
  go_enter Try.func19, Try.ntmps19
  go_wp2_with (refine wpList_store_row rfl 59 (.tmp 2) _ rfl (w.heap.size + 1) _ (by rfl) (by rfl) _ _ x2 (by kernel_rfl) (by rfl) (by simp [Value.oneCell']) ?_)
  (try simp only [Exit.inBlock, Exit.then]); refine bodyPost_ret (results_cell_row rfl _ _ (w.heap.size + 1) _ _ _ _ rfl (setRow_heap _ _ _ _ _ _ x2) Try.underlying59 rfl (by kernel_rfl)) rfl ?_
  exact ⟨rfl, below_setRow HB (by omega) _⟩
theorem BoxR.sub {w : World} {g t : Nat} {cs : Array Value} (h : BoxR w g t cs) (o : Nat) (l : List Value) (hl : (cs.toList.drop o).take l.length = l) : w.rangeAt g o l := fun j v hv => by
  rw [← hl] at hv
  have hj : j < l.length := by
    by_cases hj : j < l.length
    · exact hj
    · rw [List.getElem?_eq_none (by rw [List.length_take]; omega)] at hv
      cases hv
  rw [List.getElem?_take_of_lt hj, List.getElem?_drop] at hv
  have hc := cell_of_row w g (o + j) cs t (0, 0) h
  rw [hc]
  simpa using hv
theorem run_field_or (a : Ef) (w : World) : (Instr.field 59 (.agg #[.int .i64 a.cl, .int .i64 a.sr, .int .i64 a.si, .int .i64 a.pt.kd, .int .i64 a.pt.wh, .int .i64 a.pt.sr, .int .i64 a.pt.tr, .int .i64 a.pt.pi, .int .i64 a.pt.le, .int .i64 a.pt.zo, .int .i64 a.gd.kd, .int .i64 a.gd.nn, .int .i64 a.un, .int .i64 a.le]) 0).run Try.prog w = .ok (.agg #[.int .i64 a.cl, .int .i64 a.sr]) w := by kernel_rfl
theorem run_field_sp (a : Ef) (w : World) : (Instr.field 59 (.agg #[.int .i64 a.cl, .int .i64 a.sr, .int .i64 a.si, .int .i64 a.pt.kd, .int .i64 a.pt.wh, .int .i64 a.pt.sr, .int .i64 a.pt.tr, .int .i64 a.pt.pi, .int .i64 a.pt.le, .int .i64 a.pt.zo, .int .i64 a.gd.kd, .int .i64 a.gd.nn, .int .i64 a.un, .int .i64 a.le]) 2).run Try.prog w = .ok (.agg #[.int .i64 a.un, .int .i64 a.le]) w := by kernel_rfl
end Go.Proofs.Ytdcgobngmdhmaad
namespace Go.Proofs.Ytdcgobngmdhmaad
open Go.ChangeShapes Go.WideShapes Go.ChangeAt Go.RowKit
set_option maxRecDepth 100000
set_option linter.unusedVariables false
set_option linter.unusedSimpArgs false

/-- what is asked for behind the two tests: the kinds, the traits, how much at least -/
def nrA (p q : Pt) : Bool := decide (p.kd = q.kd) && decide (bits .and .i64 p.tr q.tr = q.tr) && decide (q.le ≤ p.le)
def orS (x y : Int) : Bool := decide (x = 0) || decide (x = y)
def nrB (p q : Pt) : Bool := orS q.wh p.wh && orS q.sr p.sr && orS q.pi p.pi && orS q.zo p.zo
/-- whether p asks for all that q asks for -/
def nrP (p q : Pt) : Bool := okPt p && okPt q && nrA p q && nrB p q
end Go.Proofs.Ytdcgobngmdhmaad
