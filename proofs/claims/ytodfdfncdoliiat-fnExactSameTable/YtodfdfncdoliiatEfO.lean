/-
  Chapter 10, the program: subjectOk. Written by tools/efi.gen.py. Own work.
-/
import Derived.Test.YtodfdfncdoliiatGTbJA4
import Derived.Test.YtodfdfncdoliiatPaI
import Derived.Test.YtodfdfncdoliiatGStField2
import Derived.Test.YtodfdfncdoliiatGAcG3
import Derived.Deep.DeepCutAuto
import Derived.Deep.CutBlock
import Derived.Deep.RegionHeld
namespace Go.Proofs.Ytodfdfncdoliiat
open Go.ChangeShapes Go.WideShapes Go.ChangeAt Go.RowKit
set_option maxRecDepth 100000
set_option linter.unusedVariables false
set_option linter.unusedSimpArgs false

/-- whether it may come from there -/
def orO (cl sr : Int) : Bool := if cl = 0 then ib sr 1 99 else ib cl 0 4 && ib sr 0 99
set_option maxHeartbeats 2000000 in
theorem originOk_any (cl sr : Int) (w : World) : Calls Try.prog 66 #[.agg #[.int .i64 cl, .int .i64 sr]] w fun e w' => e = .returned (.bool (orO cl sr)) ∧ Below w.heap.size w w' := by
  have HB := (Below.refl _ w).alloc (Nat.le_refl _) (.cells #[.int .i64 cl, .int .i64 sr] 65)
  cases h : (cl == 0)
  case true =>
    have HA : Hid (orO cl sr = ib sr 1 99) := by show _ = _; unfold orO; rw [if_pos (by simpa using h)]
    go_enter Try.func66, Try.ntmps66
    go_wp2_with first | (go_at_call 65; refine (isIdE_any _ _).mono ?_; rintro e w' ⟨rfl, rfl⟩) | (go_at_call 76; refine (between_any _ _ _ _).mono ?_; rintro e w' ⟨rfl, rfl⟩)
    all_goals (go_ret; exact ⟨ret_bool' HA.out.symm, HB⟩)
  case false =>
    have HA : Hid (orO cl sr = (ib cl 0 4 && ib sr 0 99)) := by show _ = _; unfold orO; rw [if_neg (by simpa using h)]
    have F1 : Hid (∀ u : World, Calls Try.prog 76 #[.int .i64 cl, .int .i64 0, .int .i64 4] u fun e w' => e = .returned (.bool (ib cl 0 4)) ∧ w' = u) := fun u => between_any _ _ _ u
    have F2 : Hid (∀ u : World, Calls Try.prog 76 #[.int .i64 sr, .int .i64 0, .int .i64 99] u fun e w' => e = .returned (.bool (ib sr 0 99)) ∧ w' = u) := fun u => between_any _ _ _ u
    generalize ib cl 0 4 = b1 at HA F1
    generalize ib sr 0 99 = b2 at HA F2
    go_enter Try.func66, Try.ntmps66
    go_wp2_with fail
    refine (F1.out _).mono ?_
    rintro e w' ⟨rfl, rfl⟩
    cases b1
    case false =>
      go_wp2
      go_ret
      exact ⟨ret_bool' (by rw [HA.out]; rfl), HB⟩
    case true =>
      go_wp2_with fail
      refine (F2.out _).mono ?_
      rintro e w' ⟨rfl, rfl⟩
      go_wp2
      go_ret
      exact ⟨ret_bool' (by rw [HA.out]; simp), HB⟩
/-- how much there may be left -/
def llO (a : Ac) : Int := if a.kd = 2 then 0 else -1
set_option maxHeartbeats 1000000 in
theorem leastLeft_any (a : Ac) (w : World) : Calls Try.prog 71 #[(.agg #[.int .i64 a.kd, .int .i64 a.nn, .int .i64 a.pi, .int .i64 a.si, .int .i64 a.zo, .bool a.be, .slice a.la a.ln a.lcap])] w fun e w' => e = .returned (.int .i64 (llO a)) ∧ Below w.heap.size w w' := by
  have HB := (Below.refl _ w).alloc (Nat.le_refl _) (.cells #[.int .i64 a.kd, .int .i64 a.nn, .int .i64 a.pi, .int .i64 a.si, .int .i64 a.zo, .bool a.be, .slice a.la a.ln a.lcap] 39)
  cases h : (a.kd == 2)
  case true =>
    have HA : Hid (llO a = 0) := by show _ = _; unfold llO; rw [if_pos (by simpa using h)]
    go_enter Try.func71, Try.ntmps71
    go_wp2
    go_ret
    exact ⟨ret_int HA.out.symm, HB⟩
  case false =>
    have HA : Hid (llO a = -1) := by show _ = _; unfold llO; rw [if_neg (by simpa using h)]
    go_enter Try.func71, Try.ntmps71
    go_wp2
    go_ret
    exact ⟨ret_int HA.out.symm, HB⟩
set_option maxHeartbeats 1000000 in
theorem spanOk_any (un le n : Int) (w : World) : Calls Try.prog 70 #[.agg #[.int .i64 un, .int .i64 le], .int .i64 n] w fun e w' => e = .returned (.bool (ib un (-1) 9999 && ib le n 2147483647)) ∧ Below w.heap.size w w' := by
  have HB := (Below.refl _ w).alloc (Nat.le_refl _) (.cells #[.int .i64 un, .int .i64 le] 69)
  have F1 : Hid (∀ u : World, Calls Try.prog 76 #[.int .i64 un, .int .i64 (-1), .int .i64 9999] u fun e w' => e = .returned (.bool (ib un (-1) 9999)) ∧ w' = u) := fun u => between_any _ _ _ u
  have F2 : Hid (∀ u : World, Calls Try.prog 76 #[.int .i64 le, .int .i64 n, .int .i64 2147483647] u fun e w' => e = .returned (.bool (ib le n 2147483647)) ∧ w' = u) := fun u => between_any _ _ _ u
  generalize ib un (-1) 9999 = b1 at F1 ⊢
  generalize ib le n 2147483647 = b2 at F2 ⊢
  go_enter Try.func70, Try.ntmps70
  go_wp2_with fail
  refine (F1.out _).mono ?_
  rintro e w' ⟨rfl, rfl⟩
  cases b1
  case false =>
    go_wp2
    go_ret
    exact ⟨ret_bool' (by rfl), HB⟩
  case true =>
    go_wp2_with fail
    refine (F2.out _).mono ?_
    rintro e w' ⟨rfl, rfl⟩
    go_wp2
    go_ret
    exact ⟨ret_bool' (by simp), HB⟩
/-- whether it may be about that -/
def sbO (a : Ef) : Bool := ib a.si 0 2 && okPt a.pt && okGd a.gd
set_option maxHeartbeats 2000000 in
theorem subjectOk_any (a : Ef) (w : World) : Calls Try.prog 67 #[.agg #[.int .i64 a.si, .int .i64 a.pt.kd, .int .i64 a.pt.wh, .int .i64 a.pt.sr, .int .i64 a.pt.tr, .int .i64 a.pt.pi, .int .i64 a.pt.le, .int .i64 a.pt.zo, .int .i64 a.gd.kd, .int .i64 a.gd.nn]] w fun e w' => e = .returned (.bool (sbO a)) ∧ Below w.heap.size w w' := by
  have HB := (Below.refl _ w).alloc (Nat.le_refl _) (.cells #[.int .i64 a.si, .int .i64 a.pt.kd, .int .i64 a.pt.wh, .int .i64 a.pt.sr, .int .i64 a.pt.tr, .int .i64 a.pt.pi, .int .i64 a.pt.le, .int .i64 a.pt.zo, .int .i64 a.gd.kd, .int .i64 a.gd.nn] 67)
  have bx := boxR_new w 67 #[.int .i64 a.si, .int .i64 a.pt.kd, .int .i64 a.pt.wh, .int .i64 a.pt.sr, .int .i64 a.pt.tr, .int .i64 a.pt.pi, .int .i64 a.pt.le, .int .i64 a.pt.zo, .int .i64 a.gd.kd, .int .i64 a.gd.nn]
  generalize hW : w.alloc (.cells #[.int .i64 a.si, .int .i64 a.pt.kd, .int .i64 a.pt.wh, .int .i64 a.pt.sr, .int .i64 a.pt.tr, .int .i64 a.pt.pi, .int .i64 a.pt.le, .int .i64 a.pt.zo, .int .i64 a.gd.kd, .int .i64 a.gd.nn] 67) = W at HB bx
  have HA : Hid (sbO a = (ib a.si 0 2 && okPt a.pt && okGd a.gd)) := rfl
  have F1 : Hid (∀ u : World, Calls Try.prog 77 #[.int .i64 a.si] u fun e w' => e = .returned (.bool (ib a.si 0 2)) ∧ w' = u) := fun u => isSide_any _ u
  have F2 : Hid (∀ u : World, Calls Try.prog 78 #[(.agg #[.int .i64 a.pt.kd, .int .i64 a.pt.wh, .int .i64 a.pt.sr, .int .i64 a.pt.tr, .int .i64 a.pt.pi, .int .i64 a.pt.le, .int .i64 a.pt.zo])] u fun e w' => e = .returned (.bool (okPt a.pt)) ∧ Below u.heap.size u w') := fun u => implPatOk_any a.pt u
  have F3 : Hid (∀ u : World, Calls Try.prog 79 #[(.agg #[.int .i64 a.gd.kd, .int .i64 a.gd.nn])] u fun e w' => e = .returned (.bool (okGd a.gd)) ∧ Below u.heap.size u w') := fun u => implGuardOk_any a.gd u
  generalize ib a.si 0 2 = b1 at HA F1
  generalize okPt a.pt = b2 at HA F2
  generalize okGd a.gd = b3 at HA F3
  have CS : Hid (∀ u : World, BoxR u w.heap.size 67 #[.int .i64 a.si, .int .i64 a.pt.kd, .int .i64 a.pt.wh, .int .i64 a.pt.sr, .int .i64 a.pt.tr, .int .i64 a.pt.pi, .int .i64 a.pt.le, .int .i64 a.pt.zo, .int .i64 a.gd.kd, .int .i64 a.gd.nn] → u.cell? ⟨w.heap.size, 0, none⟩ = some (.int .i64 a.si) ∧ u.cell? ⟨w.heap.size, 1, none⟩ = some (.int .i64 a.pt.kd) ∧ u.cell? ⟨w.heap.size, 2, none⟩ = some (.int .i64 a.pt.wh) ∧ u.cell? ⟨w.heap.size, 3, none⟩ = some (.int .i64 a.pt.sr) ∧ u.cell? ⟨w.heap.size, 4, none⟩ = some (.int .i64 a.pt.tr) ∧ u.cell? ⟨w.heap.size, 5, none⟩ = some (.int .i64 a.pt.pi) ∧ u.cell? ⟨w.heap.size, 6, none⟩ = some (.int .i64 a.pt.le) ∧ u.cell? ⟨w.heap.size, 7, none⟩ = some (.int .i64 a.pt.zo) ∧ u.cell? ⟨w.heap.size, 8, none⟩ = some (.int .i64 a.gd.kd) ∧ u.cell? ⟨w.heap.size, 9, none⟩ = some (.int .i64 a.gd.nn)) := fun u h => ⟨h.cell 0, h.cell 1, h.cell 2, h.cell 3, h.cell 4, h.cell 5, h.cell 6, h.cell 7, h.cell 8, h.cell 9⟩
  obtain ⟨c0, c1, c2, c3, c4, c5, c6, c7, c8, c9⟩ := CS.out _ bx
  go_enter Try.func67, Try.ntmps67
  go_wp2_with fail
  refine (F1.out _).mono ?_
  rintro e w' ⟨rfl, rfl⟩
  cases b1
  case false =>
    go_wp2
    go_ret
    exact ⟨ret_bool' (by rw [HA.out]; rfl), HB⟩
  case true =>
    go_wp2_with fail
    refine (F2.out _).mono ?_
    rintro e w1 ⟨rfl, hb⟩
    replace bx := bx.grew hb
    replace HB := below_app HB hb HB.size
    clear hb c0 c1 c2 c3 c4 c5 c6 c7 c8 c9 hW
    cases b2
    case false =>
      go_wp2
      go_ret
      exact ⟨ret_bool' (by rw [HA.out]; rfl), HB⟩
    case true =>
      obtain ⟨c0, c1, c2, c3, c4, c5, c6, c7, c8, c9⟩ := CS.out _ bx
      go_wp2_with fail
      refine (F3.out _).mono ?_
      rintro e w2 ⟨rfl, hb⟩
      replace HB := below_app HB hb HB.size
      go_wp2
      go_ret
      exact ⟨ret_bool' (by rw [HA.out]; simp), HB⟩
end Go.Proofs.Ytodfdfncdoliiat
