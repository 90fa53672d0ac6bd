/-
  What is proved: at every guard, the law FnExactGuardOk answers true: the program's GuardOk and the specification's answer alike; no condition.
-/
import Derived.Test.YtnlnledijpcjparRows
import Derived.Test.YtnlnledijpcjparCur
import Derived.Test.YtnlnledijpcjparPiece
import Derived.Test.YtnlnledijpcjparRow
import Derived.Test.YtnlnledijpcjparPiece2
import Derived.Test.YtnlnledijpcjparRowLaw
import Derived.Test.YtnlnledijpcjparEvA
import Derived.Test.YtnlnledijpcjparGuA
import Derived.Test.YtnlnledijpcjparGuB
import Derived.Test.YtnlnledijpcjparState1
import Derived.Test.YtnlnledijpcjparState2
import Derived.Test.YtnlnledijpcjparState3
import Derived.Test.YtnlnledijpcjparSeg
import Derived.Test.YtnlnledijpcjparRegTail
import Derived.Test.YtnlnledijpcjparRegBelow
import Derived.Test.YtnlnledijpcjparNum
import Derived.Test.YtnlnledijpcjparPiece3
import Derived.Test.YtnlnledijpcjparState4
import Derived.Test.YtnlnledijpcjparState5
import Derived.Test.YtnlnledijpcjparBytes
import Derived.Test.YtnlnledijpcjparState8
import Derived.Test.YtnlnledijpcjparGuC
import Derived.Test.YtnlnledijpcjparStMark
import Derived.Test.YtnlnledijpcjparPieceOk
import Derived.Test.YtnlnledijpcjparState6
import Derived.Test.YtnlnledijpcjparStHeld
import Derived.Test.YtnlnledijpcjparStEq
import Derived.Test.YtnlnledijpcjparStSame
import Derived.Test.YtnlnledijpcjparRegCut
import Derived.Test.YtnlnledijpcjparStLaw
import Derived.Test.YtnlnledijpcjparGuD
import Derived.Test.YtnlnledijpcjparPaA
import Derived.Test.YtnlnledijpcjparPaB
import Derived.Test.YtnlnledijpcjparPaC
import Derived.Test.YtnlnledijpcjparPieceI1
import Derived.Test.YtnlnledijpcjparEvC
import Derived.Test.YtnlnledijpcjparPaI
import Derived.Test.YtnlnledijpcjparGuE
import Derived.Test.YtnlnledijpcjparStAt
import Derived.Test.YtnlnledijpcjparStField
import Derived.Test.YtnlnledijpcjparGuF
import Derived.Test.YtnlnledijpcjparStHas
import Derived.Test.YtnlnledijpcjparGuG
import Derived.Test.YtnlnledijpcjparGuH
import Derived.Test.YtnlnledijpcjparGuL
import Derived.WalkKit
import Derived.ProofKit
import Derived.OpenShut
import Derived.ShutString
import Derived.ChangeOld
import Derived.Below
namespace Go.Proofs.Ytnlnledijpcjpar.fnExactGuardOk
open Go.ChangeShapes Go.WideShapes Go.ChangeAt Go.RowKit
set_option linter.unusedVariables false

theorem own : ownKnob Try.prog.godebug = none := by kernel_rfl
theorem laidOut : laidOutB Try.prog = true := by kernel_rfl

def IsRow (k : IntKind) (w : World) (a : Option Addr) (len cap : Nat) (zs : List Int) : Prop :=
  (a = none ∧ len = 0 ∧ cap = 0 ∧ zs = []) ∨
  ∃ x, a = some x ∧ len ≤ cap ∧ cap ≤ maxLen ∧ zs.length = cap ∧ (∀ i, i < zs.length → w.cell? (x.add i) = some (.int k (zs.getD i 0))) ∧ ∀ n ∈ zs, (Lit.int k n).wf = true

set_option maxHeartbeats 2000000 in
set_option maxHeartbeats 4000000 in
theorem walk (p0 : Gd) (w : World) (w0 : p0.wf) :
    Calls Try.prog 3 #[.agg #[.int .i64 p0.kd, .int .i64 p0.nn]] w fun e w' => e = .returned (.bool true) ∧ Below w.heap.size w w' := by
  have m_ : Try.prog.follows Departure.mixedOrders = true := by kernel_rfl
  have hBw := (Below.refl _ w).alloc (by exact Nat.le_refl _) (.cells #[.int .i64 p0.kd, .int .i64 p0.nn] 23)
  have b_d0 := boxR_new w 23 #[.int .i64 p0.kd, .int .i64 p0.nn]
  generalize hW : w.alloc (.cells #[.int .i64 p0.kd, .int .i64 p0.nn] 23) = W at hBw b_d0
  have hsz : w.heap.size ≤ W.heap.size := hBw.size
  have l_d0 := b_d0.lt
  have hB := Below.refl W.heap.size W
  go_enter Try.func3, Try.ntmps3
  have c_d0_0 := b_d0.cell 0
  have c_d0_1 := b_d0.cell 1
  simp at c_d0_0 c_d0_1
  go_wp2_with fail
  refine (toGuard_any p0 _).mono ?_
  rintro e y1_ ⟨rfl, hb⟩
  clear c_d0_0 c_d0_1
  try clear hW
  replace b_d0 := b_d0.grew hb
  replace hB := below_app hB hb hB.size
  clear hb
  have c_d0_0 := b_d0.cell 0
  have c_d0_1 := b_d0.cell 1
  simp at c_d0_0 c_d0_1
  go_wp2_with fail
  refine (specGuardOk_any p0 _).mono ?_
  rintro e y2_ ⟨rfl, hb⟩
  clear c_d0_0 c_d0_1
  replace b_d0 := b_d0.grew hb
  replace hB := below_app hB hb hB.size
  clear hb
  have c_d0_0 := b_d0.cell 0
  have c_d0_1 := b_d0.cell 1
  simp at c_d0_0 c_d0_1
  go_wp2_with fail
  refine (toGuard_any p0 _).mono ?_
  rintro e y3_ ⟨rfl, hb⟩
  clear c_d0_0 c_d0_1
  replace b_d0 := b_d0.grew hb
  replace hB := below_app hB hb hB.size
  clear hb
  have c_d0_0 := b_d0.cell 0
  have c_d0_1 := b_d0.cell 1
  simp at c_d0_0 c_d0_1
  go_wp2_with fail
  refine (implGuardOk_any p0 _).mono ?_
  rintro e y4_ ⟨rfl, hb⟩
  clear c_d0_0 c_d0_1
  replace b_d0 := b_d0.grew hb
  replace hB := below_app hB hb hB.size
  clear hb
  go_wp2
  go_ret
  exact ⟨rfl, below_app hBw hB hsz⟩

set_option maxRecDepth 100000 in
theorem lifted (os : Os) (started : os.Started) (H : Type) (enc : TypeId × Value → H) :
    ReturnsInHanded {} Try.checked os 3 .any (Rows.fnExactGuardOkSpec.pre6 enc Try.prog Try.f3 Rows.fnExactGuardOkRow.domain false) (Rows.fnExactGuardOkSpec.post enc Try.prog Try.f3 false true false false) := by
  refine returnsInHanded_of_change (C := Try.checked) own started (by kernel_rfl) Try.func3
    (ChangeSpec.witness6 (enc := enc) (C := Try.checked) false ⟨#[], #[.agg #[.int .i64 0, .int .i64 0]], []⟩ 8 (by kernel_rfl) (by kernel_rfl) (by kernel_rfl) (by kernel_rfl)) ?_
  intro W base args ds gs before hval0 hW hcnd _
  have hval : ∀ (j : Nat) t v, Try.f3.params[j]? = some t → args[j]? = some v → Value.okWide Try.prog W .any base t v := hval0
  have hW' := hW
  obtain ⟨p, q, hA0, hV, rfl, hfz, hnd⟩ := hW
  have hA : DataW.TrodAll enc Try.prog W 0 (fun _ => true) true Try.f3.params.toList args.toList ds p := hA0
  rw [Try.params3] at hA hval
  obtain ⟨v0, vs0, d0, ds0, p0', q0, hargs, rfl, rfl, h0, r0⟩ := trodAll_cons hA
  obtain ⟨rfl, rfl, rfl⟩ := trodAll_nil r0
  obtain rfl : args = #[v0] := by cases args; simp_all
  obtain ⟨rfl, rfl⟩ := trodVars_none hV
  have k0 := h0
  have lt0 : ∀ x ∈ p0', x.block < W.heap.size := by obtain ⟨m, hm⟩ := k0; exact DataW.trod_lt m _ _ _ hm
  obtain ⟨p0, rfl, w0⟩ := open_guard (hval 0 23 v0 rfl rfl) h0
  clear hA0 hval0
  refine (walk p0 W w0).mono fun e W' ⟨he, bel⟩ => ?_
  subst he
  exact ⟨_, rfl, _, _, _, [], _, [], hW', trodAll_mk1 (shut_bool Try.underlying4 _), (trodAll_cons_mk (Below.trod laidOut (by kernel_rfl) (of_decide_eq_true (by kernel_rfl)) k0 bel lt0) trodAll_mk0), rfl, bel.frame _, fun h => by cases h⟩

theorem over : Rows.fnExactGuardOkRow.holds Try.pinned (OpenSpec.ofChange Rows.fnExactGuardOkSpec) :=
  OpenClaim.holds_of_wide 3 Try.f3 rfl rfl rfl rfl rfl rfl rfl ⟨rfl, rfl, rfl, rfl, rfl⟩ rfl rfl rfl rfl rfl (by kernel_rfl) Try.func3 (by kernel_rfl)
    (of_decide_eq_true (by kernel_rfl)) (by unfold Func.isWrapper; first | (rw [if_pos (by decide +kernel)]; kernel_rfl) | (rw [if_neg (by decide +kernel)]; exact ⟨rfl, rfl⟩))
    (fun os started H enc _ => lifted os started H enc)

theorem proved : Rows.FnExactGuardOkSaid := over
#print axioms proved
end Go.Proofs.Ytnlnledijpcjpar.fnExactGuardOk
