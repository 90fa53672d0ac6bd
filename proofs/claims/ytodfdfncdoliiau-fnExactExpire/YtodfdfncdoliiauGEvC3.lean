/-
  Chapter 6: the program's things behind their interface: thingOf, event, thingOk, rightThing, EventOk. Written by tools/ev.gen.py. Chapter 10, the program: standing, and what it is asked. Written by tools/efi.gen.py. Chapter 10, the program: Lives. Written by tools/efi.gen.py. Own work.
-/
import Derived.Test.YtodfdfncdoliiauEvA
import Derived.Test.YtodfdfncdoliiauGTbJD2
import Derived.Test.YtodfdfncdoliiauGAcL3
import Derived.Deep.DeepCutAuto
import Derived.Deep.CutBlock
import Derived.Deep.RegionHeld
namespace Go.Proofs.Ytodfdfncdoliiau
open Go.ChangeShapes Go.WideShapes Go.ChangeAt Go.RowKit
set_option maxRecDepth 100000
set_option linter.unusedVariables false
set_option linter.unusedSimpArgs false

theorem run_as_yes {P : Program} {t xT : TypeId} {fs : Array Field} (hu : P.underlying t = some (.struct fs)) (v : Value) (w : World) : (Instr.typeAssert (.iface t v) xT t true).run P w = .ok (.tuple #[v, .bool true]) w := by
  simp [Instr.typeAssert, run_underlying hu]
theorem run_as_no {P : Program} {t u xT : TypeId} {fs : Array Field} {z : Value} (hu : P.underlying u = some (.struct fs)) (hz : (P.info? u).map (·.zero) = some (some z)) (hne : t ≠ u) (v : Value) (w : World) : (Instr.typeAssert (.iface t v) xT u true).run P w = .ok (.tuple #[z, .bool false]) w := by
  obtain ⟨j, hj, hz'⟩ := Option.map_eq_some_iff.1 hz
  simp [Instr.typeAssert, run_underlying hu, hne, zeroValue, typeInfo, hj, hz']
/-- whether a piece may go where it goes -/
def enE (z n : Int) (b : Bool) : Bool := if z = 2 then ib n 0 99 else ib z 1 4 && decide (n = 0) && !b
end Go.Proofs.Ytodfdfncdoliiau
namespace Go.Proofs.Ytodfdfncdoliiau
open Go.ChangeShapes Go.WideShapes Go.ChangeAt Go.RowKit
set_option maxRecDepth 100000
set_option linter.unusedVariables false
set_option linter.unusedSimpArgs false

set_option maxHeartbeats 2000000 in
theorem standingOf_any (a : Ef) (w : World) : Calls Try.prog 69 #[(.agg #[.int .i64 a.id, .int .i64 a.si, .int .i64 a.sr, .int .i64 a.cl, .int .i64 a.pt.kd, .int .i64 a.pt.wh, .int .i64 a.pt.sr, .int .i64 a.pt.tr, .int .i64 a.pt.pi, .int .i64 a.pt.le, .int .i64 a.pt.zo, .int .i64 a.gd.kd, .int .i64 a.gd.nn, .int .i64 a.ac.kd, .int .i64 a.ac.nn, .int .i64 a.ac.pi, .int .i64 a.ac.si, .int .i64 a.ac.zo, .bool a.ac.be, .slice a.ac.la a.ac.ln a.ac.lcap, .int .i64 a.un, .int .i64 a.le])] w fun e w' => e = .returned (.agg #[.int .i64 a.cl, .int .i64 a.sr, .int .i64 a.si, .int .i64 a.pt.kd, .int .i64 a.pt.wh, .int .i64 a.pt.sr, .int .i64 a.pt.tr, .int .i64 a.pt.pi, .int .i64 a.pt.le, .int .i64 a.pt.zo, .int .i64 a.gd.kd, .int .i64 a.gd.nn, .int .i64 a.un, .int .i64 a.le]) ∧ Below w.heap.size w w' := by
  have HB := ((Below.refl _ w).alloc (Nat.le_refl _) (.cells #[.int .i64 a.id, .int .i64 a.si, .int .i64 a.sr, .int .i64 a.cl, .int .i64 a.pt.kd, .int .i64 a.pt.wh, .int .i64 a.pt.sr, .int .i64 a.pt.tr, .int .i64 a.pt.pi, .int .i64 a.pt.le, .int .i64 a.pt.zo, .int .i64 a.gd.kd, .int .i64 a.gd.nn, .int .i64 a.ac.kd, .int .i64 a.ac.nn, .int .i64 a.ac.pi, .int .i64 a.ac.si, .int .i64 a.ac.zo, .bool a.ac.be, .slice a.ac.la a.ac.ln a.ac.lcap, .int .i64 a.un, .int .i64 a.le] 49)).alloc (by simp) (.cells #[.int .i64 0, .int .i64 0, .int .i64 0, .int .i64 0, .int .i64 0, .int .i64 0, .int .i64 0, .int .i64 0, .int .i64 0, .int .i64 0, .int .i64 0, .int .i64 0, .int .i64 0, .int .i64 0] 120)
  have x1 := (boxR_new w 49 #[.int .i64 a.id, .int .i64 a.si, .int .i64 a.sr, .int .i64 a.cl, .int .i64 a.pt.kd, .int .i64 a.pt.wh, .int .i64 a.pt.sr, .int .i64 a.pt.tr, .int .i64 a.pt.pi, .int .i64 a.pt.le, .int .i64 a.pt.zo, .int .i64 a.gd.kd, .int .i64 a.gd.nn, .int .i64 a.ac.kd, .int .i64 a.ac.nn, .int .i64 a.ac.pi, .int .i64 a.ac.si, .int .i64 a.ac.zo, .bool a.ac.be, .slice a.ac.la a.ac.ln a.ac.lcap, .int .i64 a.un, .int .i64 a.le]).alloc (.cells #[.int .i64 0, .int .i64 0, .int .i64 0, .int .i64 0, .int .i64 0, .int .i64 0, .int .i64 0, .int .i64 0, .int .i64 0, .int .i64 0, .int .i64 0, .int .i64 0, .int .i64 0, .int .i64 0] 120)
  have x2 : BoxR ((w.alloc (.cells #[.int .i64 a.id, .int .i64 a.si, .int .i64 a.sr, .int .i64 a.cl, .int .i64 a.pt.kd, .int .i64 a.pt.wh, .int .i64 a.pt.sr, .int .i64 a.pt.tr, .int .i64 a.pt.pi, .int .i64 a.pt.le, .int .i64 a.pt.zo, .int .i64 a.gd.kd, .int .i64 a.gd.nn, .int .i64 a.ac.kd, .int .i64 a.ac.nn, .int .i64 a.ac.pi, .int .i64 a.ac.si, .int .i64 a.ac.zo, .bool a.ac.be, .slice a.ac.la a.ac.ln a.ac.lcap, .int .i64 a.un, .int .i64 a.le] 49)).alloc (.cells #[.int .i64 0, .int .i64 0, .int .i64 0, .int .i64 0, .int .i64 0, .int .i64 0, .int .i64 0, .int .i64 0, .int .i64 0, .int .i64 0, .int .i64 0, .int .i64 0, .int .i64 0, .int .i64 0] 120)) (w.heap.size + 1) 120 #[.int .i64 0, .int .i64 0, .int .i64 0, .int .i64 0, .int .i64 0, .int .i64 0, .int .i64 0, .int .i64 0, .int .i64 0, .int .i64 0, .int .i64 0, .int .i64 0, .int .i64 0, .int .i64 0] := heap_alloc2_new _ _ _
  generalize hW : (w.alloc (.cells #[.int .i64 a.id, .int .i64 a.si, .int .i64 a.sr, .int .i64 a.cl, .int .i64 a.pt.kd, .int .i64 a.pt.wh, .int .i64 a.pt.sr, .int .i64 a.pt.tr, .int .i64 a.pt.pi, .int .i64 a.pt.le, .int .i64 a.pt.zo, .int .i64 a.gd.kd, .int .i64 a.gd.nn, .int .i64 a.ac.kd, .int .i64 a.ac.nn, .int .i64 a.ac.pi, .int .i64 a.ac.si, .int .i64 a.ac.zo, .bool a.ac.be, .slice a.ac.la a.ac.ln a.ac.lcap, .int .i64 a.un, .int .i64 a.le] 49)).alloc (.cells #[.int .i64 0, .int .i64 0, .int .i64 0, .int .i64 0, .int .i64 0, .int .i64 0, .int .i64 0, .int .i64 0, .int .i64 0, .int .i64 0, .int .i64 0, .int .i64 0, .int .i64 0, .int .i64 0] 120) = W at HB x1 x2
  obtain ⟨c0, c1, c2, c3, c4, c5, c6, c7, c8, c9, c10, c11, c12, c13, c14, c15, c16, c17, c18, c19, c20, c21⟩ := x1.cells22
  go_enter Try.func69, Try.ntmps69
  go_wp2_with (refine wpList_store_row rfl 120 (.tmp 2) _ rfl (w.heap.size + 1) _ (by rfl) (by rfl) _ _ x2 (by kernel_rfl) (by rfl) (by simp [Value.oneCell']) ?_)
  (try simp only [Exit.inBlock, Exit.then]); refine bodyPost_ret (results_cell_row rfl _ _ (w.heap.size + 1) _ _ _ _ rfl (setRow_heap _ _ _ _ _ _ x2) Try.underlying120 rfl (by kernel_rfl)) rfl ?_
  exact ⟨rfl, below_setRow HB (by omega) _⟩
theorem BoxR.sub {w : World} {g t : Nat} {cs : Array Value} (h : BoxR w g t cs) (o : Nat) (l : List Value) (hl : (cs.toList.drop o).take l.length = l) : w.rangeAt g o l := fun j v hv => by
  rw [← hl] at hv
  have hj : j < l.length := by
    by_cases hj : j < l.length
    · exact hj
    · rw [List.getElem?_eq_none (by rw [List.length_take]; omega)] at hv
      cases hv
  rw [List.getElem?_take_of_lt hj, List.getElem?_drop] at hv
  have hc := cell_of_row w g (o + j) cs t (0, 0) h
  rw [hc]
  simpa using hv
theorem run_field_or (a : Ef) (w : World) : (Instr.field 120 (.agg #[.int .i64 a.cl, .int .i64 a.sr, .int .i64 a.si, .int .i64 a.pt.kd, .int .i64 a.pt.wh, .int .i64 a.pt.sr, .int .i64 a.pt.tr, .int .i64 a.pt.pi, .int .i64 a.pt.le, .int .i64 a.pt.zo, .int .i64 a.gd.kd, .int .i64 a.gd.nn, .int .i64 a.un, .int .i64 a.le]) 0).run Try.prog w = .ok (.agg #[.int .i64 a.cl, .int .i64 a.sr]) w := by kernel_rfl
theorem run_field_sp (a : Ef) (w : World) : (Instr.field 120 (.agg #[.int .i64 a.cl, .int .i64 a.sr, .int .i64 a.si, .int .i64 a.pt.kd, .int .i64 a.pt.wh, .int .i64 a.pt.sr, .int .i64 a.pt.tr, .int .i64 a.pt.pi, .int .i64 a.pt.le, .int .i64 a.pt.zo, .int .i64 a.gd.kd, .int .i64 a.gd.nn, .int .i64 a.un, .int .i64 a.le]) 2).run Try.prog w = .ok (.agg #[.int .i64 a.un, .int .i64 a.le]) w := by kernel_rfl
end Go.Proofs.Ytodfdfncdoliiau
namespace Go.Proofs.Ytodfdfncdoliiau
open Go.ChangeShapes Go.WideShapes Go.ChangeAt Go.RowKit
set_option maxRecDepth 100000
set_option linter.unusedVariables false
set_option linter.unusedSimpArgs false

set_option maxHeartbeats 1000000 in
theorem lives_any (a : Ef) (c : Int) (w : World) : Calls Try.prog 70 #[.agg #[.int .i64 a.un, .int .i64 a.le], .int .i64 c] w fun e w' => e = .returned (.bool (lvE a c)) ∧ Below w.heap.size w w' := by
  have HB := (Below.refl _ w).alloc (Nat.le_refl _) (.cells #[.int .i64 a.un, .int .i64 a.le] 118)
  cases h1 : (a.le != 0)
  case false =>
    have HA : Hid (lvE a c = false) := by show _ = _; unfold lvE; simp at h1; simp [h1]
    go_enter Try.func70, Try.ntmps70
    go_wp2
    go_ret
    exact ⟨ret_bool' HA.out.symm, HB⟩
  case true =>
    cases h2 : (a.un == -1)
    case true =>
      have HA : Hid (lvE a c = true) := by show _ = _; unfold lvE; simp at h1 h2; simp [h1, h2]
      go_enter Try.func70, Try.ntmps70
      go_wp2
      go_ret
      exact ⟨ret_bool' HA.out.symm, HB⟩
    case false =>
      have HA : Hid (lvE a c = decide (a.un ≥ c)) := by show _ = _; unfold lvE; simp at h1 h2; simp [h1, h2]
      go_enter Try.func70, Try.ntmps70
      go_wp2
      go_ret
      exact ⟨ret_bool' HA.out.symm, HB⟩
set_option maxHeartbeats 2000000 in
theorem implLives_any (a : Ef) (c : Int) (w : World) : Calls Try.prog 48 #[(.agg #[.int .i64 a.id, .int .i64 a.si, .int .i64 a.sr, .int .i64 a.cl, .int .i64 a.pt.kd, .int .i64 a.pt.wh, .int .i64 a.pt.sr, .int .i64 a.pt.tr, .int .i64 a.pt.pi, .int .i64 a.pt.le, .int .i64 a.pt.zo, .int .i64 a.gd.kd, .int .i64 a.gd.nn, .int .i64 a.ac.kd, .int .i64 a.ac.nn, .int .i64 a.ac.pi, .int .i64 a.ac.si, .int .i64 a.ac.zo, .bool a.ac.be, .slice a.ac.la a.ac.ln a.ac.lcap, .int .i64 a.un, .int .i64 a.le]), .int .i64 c] w fun e w' => e = .returned (.bool (lvE a c)) ∧ Below w.heap.size w w' := by
  have HB := (Below.refl _ w).alloc (Nat.le_refl _) (.cells #[.int .i64 a.id, .int .i64 a.si, .int .i64 a.sr, .int .i64 a.cl, .int .i64 a.pt.kd, .int .i64 a.pt.wh, .int .i64 a.pt.sr, .int .i64 a.pt.tr, .int .i64 a.pt.pi, .int .i64 a.pt.le, .int .i64 a.pt.zo, .int .i64 a.gd.kd, .int .i64 a.gd.nn, .int .i64 a.ac.kd, .int .i64 a.ac.nn, .int .i64 a.ac.pi, .int .i64 a.ac.si, .int .i64 a.ac.zo, .bool a.ac.be, .slice a.ac.la a.ac.ln a.ac.lcap, .int .i64 a.un, .int .i64 a.le] 49)
  have bx := boxR_new w 49 #[.int .i64 a.id, .int .i64 a.si, .int .i64 a.sr, .int .i64 a.cl, .int .i64 a.pt.kd, .int .i64 a.pt.wh, .int .i64 a.pt.sr, .int .i64 a.pt.tr, .int .i64 a.pt.pi, .int .i64 a.pt.le, .int .i64 a.pt.zo, .int .i64 a.gd.kd, .int .i64 a.gd.nn, .int .i64 a.ac.kd, .int .i64 a.ac.nn, .int .i64 a.ac.pi, .int .i64 a.ac.si, .int .i64 a.ac.zo, .bool a.ac.be, .slice a.ac.la a.ac.ln a.ac.lcap, .int .i64 a.un, .int .i64 a.le]
  generalize hW : w.alloc (.cells #[.int .i64 a.id, .int .i64 a.si, .int .i64 a.sr, .int .i64 a.cl, .int .i64 a.pt.kd, .int .i64 a.pt.wh, .int .i64 a.pt.sr, .int .i64 a.pt.tr, .int .i64 a.pt.pi, .int .i64 a.pt.le, .int .i64 a.pt.zo, .int .i64 a.gd.kd, .int .i64 a.gd.nn, .int .i64 a.ac.kd, .int .i64 a.ac.nn, .int .i64 a.ac.pi, .int .i64 a.ac.si, .int .i64 a.ac.zo, .bool a.ac.be, .slice a.ac.la a.ac.ln a.ac.lcap, .int .i64 a.un, .int .i64 a.le] 49) = W at HB bx
  go_enter Try.func48, Try.ntmps48
  go_wp2_with (refine wpList_load_row rfl 49 _ rfl (w.heap.size) (by rfl) _ _ _ _ bx Try.underlying49 rfl (by kernel_rfl) ?_)
  refine (standingOf_any a _).mono ?_
  rintro e w1 ⟨rfl, hb⟩
  replace HB := below_app HB hb HB.size
  clear hb hW bx
  have FT := fun v : World => run_field_sp a v
  go_wp2_with fail
  refine (lives_any a c _).mono ?_
  rintro e w2 ⟨rfl, hb⟩
  replace HB := below_app HB hb HB.size
  go_wp2
  go_ret
  exact ⟨rfl, HB⟩
end Go.Proofs.Ytodfdfncdoliiau
