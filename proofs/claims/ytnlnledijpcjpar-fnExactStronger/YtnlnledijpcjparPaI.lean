/-
  Chapter 7, the program: openOr, among, ofItsKind (oiK), PatOk (okPt). Written by tools/pai.gen.py. Own work.
-/
import Derived.Test.YtnlnledijpcjparPaC
import Derived.Test.YtnlnledijpcjparEvC
import Derived.Test.YtnlnledijpcjparRegBelow
namespace Go.Proofs.Ytnlnledijpcjpar
open Go.ChangeShapes Go.WideShapes Go.ChangeAt Go.RowKit
set_option maxRecDepth 100000
set_option linter.unusedVariables false
set_option linter.unusedSimpArgs false

theorem wrap_nat (x : BitVec 64) : IntKind.i64.wrap (x.toNat : Int) = x.toInt := by
  rw [IntKind.wrap_i64, BitVec.toInt_eq_toNat_cond]
  have := x.isLt
  split <;> omega
theorem bv_among (t o : BitVec 64) : t &&& ~~~o = 0#64 ↔ o &&& t = t := by
  constructor
  · intro h
    apply BitVec.eq_of_getLsbD_eq
    intro i hi
    have := congrArg (fun z => z.getLsbD i) h
    simp [hi] at this ⊢
    exact this
  · intro h
    apply BitVec.eq_of_getLsbD_eq
    intro i hi
    have := congrArg (fun z => z.getLsbD i) h
    simp [hi] at this ⊢
    exact this
/-- whether all of these traits are among the others -/
def amI (t o : Int) : Bool := decide (bits .andNot .i64 t o = 0)
theorem amI_and {t : Int} (o : Int) (ht : -9223372036854775808 ≤ t ∧ t ≤ 9223372036854775807) : amI t o = decide (bits .and .i64 o t = t) := by
  have e1 : bits .andNot .i64 t o = (BitVec.ofInt 64 t &&& ~~~ BitVec.ofInt 64 o).toInt := wrap_nat _
  have e2 : bits .and .i64 o t = (BitVec.ofInt 64 o &&& BitVec.ofInt 64 t).toInt := wrap_nat _
  have e3 : (BitVec.ofInt 64 t).toInt = t := by
    rw [BitVec.toInt_ofInt]
    simp [Int.bmod]
    omega
  unfold amI
  rw [e1, e2]
  congr 1
  apply propext
  rw [show (0 : Int) = (0#64).toInt from rfl, BitVec.toInt_inj, bv_among, ← BitVec.toInt_inj, e3]
theorem amI_63 {t : Int} (o : Int) (h : 0 ≤ t ∧ t ≤ 63) : amI t o = decide (bits .and .i64 o t = t) := amI_and o (by omega)
/-- what is asked for, without what does not belong to the kind -/
def oiK (p : Pt) : Pt := ⟨p.kd, p.wh, bif decide (p.kd = 1) then p.sr else 0, bif decide (p.kd = 1) then p.tr else 0, bif decide (p.kd = 3) || decide (p.kd = 4) then 0 else p.pi, p.le, bif decide (p.kd = 2) then p.zo else 0⟩
theorem okPt_is (p : Pt) : okPt p = (smPt p (oiK p) && okT7 p) := by
  unfold okPt smPt oiK
  cases okT7 p
  · simp
  · by_cases h1 : p.kd = 1
    · simp [h1]
    by_cases h2 : p.kd = 2
    · simp [h2]
    by_cases h3 : p.kd = 3
    · simp [h3]; generalize decide (p.zo = 0) = a; generalize decide (p.pi = 0) = b; cases a <;> cases b <;> simp
    by_cases h4 : p.kd = 4
    · simp [h4]; generalize decide (p.zo = 0) = a; generalize decide (p.pi = 0) = b; cases a <;> cases b <;> simp
    simp [h1, h2, h3, h4]
end Go.Proofs.Ytnlnledijpcjpar
