/-
  Chapter 10, the program: Lives. Written by tools/efi.gen.py. Own work.
-/
import Derived.Test.YthemmhocnkpcjasEfP
import Derived.Deep.DeepCutAuto
import Derived.Deep.CutBlock
import Derived.Deep.RegionHeld
namespace Go.Proofs.Ythemmhocnkpcjas
open Go.ChangeShapes Go.WideShapes Go.ChangeAt Go.RowKit
set_option maxRecDepth 100000
set_option linter.unusedVariables false
set_option linter.unusedSimpArgs false

set_option maxHeartbeats 1000000 in
theorem lives_any (a : Ef) (c : Int) (w : World) : Calls Try.prog 59 #[.agg #[.int .i64 a.un, .int .i64 a.le], .int .i64 c] w fun e w' => e = .returned (.bool (lvE a c)) ∧ Below w.heap.size w w' := by
  have HB := (Below.refl _ w).alloc (Nat.le_refl _) (.cells #[.int .i64 a.un, .int .i64 a.le] 77)
  cases h1 : (a.le != 0)
  case false =>
    have HA : Hid (lvE a c = false) := by show _ = _; unfold lvE; simp at h1; simp [h1]
    go_enter Try.func59, Try.ntmps59
    go_wp2
    go_ret
    exact ⟨ret_bool' HA.out.symm, HB⟩
  case true =>
    cases h2 : (a.un == -1)
    case true =>
      have HA : Hid (lvE a c = true) := by show _ = _; unfold lvE; simp at h1 h2; simp [h1, h2]
      go_enter Try.func59, Try.ntmps59
      go_wp2
      go_ret
      exact ⟨ret_bool' HA.out.symm, HB⟩
    case false =>
      have HA : Hid (lvE a c = decide (a.un ≥ c)) := by show _ = _; unfold lvE; simp at h1 h2; simp [h1, h2]
      go_enter Try.func59, Try.ntmps59
      go_wp2
      go_ret
      exact ⟨ret_bool' HA.out.symm, HB⟩
set_option maxHeartbeats 2000000 in
theorem implLives_any (a : Ef) (c : Int) (w : World) : Calls Try.prog 28 #[(.agg #[.int .i64 a.id, .int .i64 a.si, .int .i64 a.sr, .int .i64 a.cl, .int .i64 a.pt.kd, .int .i64 a.pt.wh, .int .i64 a.pt.sr, .int .i64 a.pt.tr, .int .i64 a.pt.pi, .int .i64 a.pt.le, .int .i64 a.pt.zo, .int .i64 a.gd.kd, .int .i64 a.gd.nn, .int .i64 a.ac.kd, .int .i64 a.ac.nn, .int .i64 a.ac.pi, .int .i64 a.ac.si, .int .i64 a.ac.zo, .bool a.ac.be, .slice a.ac.la a.ac.ln a.ac.lcap, .int .i64 a.un, .int .i64 a.le]), .int .i64 c] w fun e w' => e = .returned (.bool (lvE a c)) ∧ Below w.heap.size w w' := by
  have HB := (Below.refl _ w).alloc (Nat.le_refl _) (.cells #[.int .i64 a.id, .int .i64 a.si, .int .i64 a.sr, .int .i64 a.cl, .int .i64 a.pt.kd, .int .i64 a.pt.wh, .int .i64 a.pt.sr, .int .i64 a.pt.tr, .int .i64 a.pt.pi, .int .i64 a.pt.le, .int .i64 a.pt.zo, .int .i64 a.gd.kd, .int .i64 a.gd.nn, .int .i64 a.ac.kd, .int .i64 a.ac.nn, .int .i64 a.ac.pi, .int .i64 a.ac.si, .int .i64 a.ac.zo, .bool a.ac.be, .slice a.ac.la a.ac.ln a.ac.lcap, .int .i64 a.un, .int .i64 a.le] 52)
  have bx := boxR_new w 52 #[.int .i64 a.id, .int .i64 a.si, .int .i64 a.sr, .int .i64 a.cl, .int .i64 a.pt.kd, .int .i64 a.pt.wh, .int .i64 a.pt.sr, .int .i64 a.pt.tr, .int .i64 a.pt.pi, .int .i64 a.pt.le, .int .i64 a.pt.zo, .int .i64 a.gd.kd, .int .i64 a.gd.nn, .int .i64 a.ac.kd, .int .i64 a.ac.nn, .int .i64 a.ac.pi, .int .i64 a.ac.si, .int .i64 a.ac.zo, .bool a.ac.be, .slice a.ac.la a.ac.ln a.ac.lcap, .int .i64 a.un, .int .i64 a.le]
  generalize hW : w.alloc (.cells #[.int .i64 a.id, .int .i64 a.si, .int .i64 a.sr, .int .i64 a.cl, .int .i64 a.pt.kd, .int .i64 a.pt.wh, .int .i64 a.pt.sr, .int .i64 a.pt.tr, .int .i64 a.pt.pi, .int .i64 a.pt.le, .int .i64 a.pt.zo, .int .i64 a.gd.kd, .int .i64 a.gd.nn, .int .i64 a.ac.kd, .int .i64 a.ac.nn, .int .i64 a.ac.pi, .int .i64 a.ac.si, .int .i64 a.ac.zo, .bool a.ac.be, .slice a.ac.la a.ac.ln a.ac.lcap, .int .i64 a.un, .int .i64 a.le] 52) = W at HB bx
  go_enter Try.func28, Try.ntmps28
  go_wp2_with (refine wpList_load_row rfl 52 _ rfl (w.heap.size) (by rfl) _ _ _ _ bx Try.underlying52 rfl (by kernel_rfl) ?_)
  refine (standingOf_any a _).mono ?_
  rintro e w1 ⟨rfl, hb⟩
  replace HB := below_app HB hb HB.size
  clear hb hW bx
  have FT := fun v : World => run_field_sp a v
  go_wp2_with fail
  refine (lives_any a c _).mono ?_
  rintro e w2 ⟨rfl, hb⟩
  replace HB := below_app HB hb HB.size
  go_wp2
  go_ret
  exact ⟨rfl, HB⟩
end Go.Proofs.Ythemmhocnkpcjas
