/-
  What is proved: at every thing, the law FnExactEventOk answers true: the program's EventOk and the specification's answer alike; no condition.
-/
import Derived.Test.YtjpimkolkhbflapRows
import Derived.Test.YtjpimkolkhbflapCur
import Derived.Test.YtjpimkolkhbflapPiece
import Derived.Test.YtjpimkolkhbflapRow
import Derived.Test.YtjpimkolkhbflapPiece2
import Derived.Test.YtjpimkolkhbflapRowLaw
import Derived.Test.YtjpimkolkhbflapEvA
import Derived.Test.YtjpimkolkhbflapEvW
import Derived.Test.YtjpimkolkhbflapEvB1
import Derived.Test.YtjpimkolkhbflapEvB2
import Derived.Test.YtjpimkolkhbflapEvB
import Derived.Test.YtjpimkolkhbflapNum
import Derived.Test.YtjpimkolkhbflapPiece3
import Derived.Test.YtjpimkolkhbflapSeg
import Derived.Test.YtjpimkolkhbflapRegTail
import Derived.Test.YtjpimkolkhbflapRegBelow
import Derived.Test.YtjpimkolkhbflapPieceI1
import Derived.Test.YtjpimkolkhbflapEvC
import Derived.Test.YtjpimkolkhbflapEvC1
import Derived.Test.YtjpimkolkhbflapEvC2
import Derived.Test.YtjpimkolkhbflapEvC3
import Derived.Test.YtjpimkolkhbflapEvD
import Derived.WalkKit
import Derived.ProofKit
import Derived.OpenShut
import Derived.ShutString
import Derived.ChangeOld
import Derived.Below
namespace Go.Proofs.Ytjpimkolkhbflap.fnExactEventOk
open Go.ChangeShapes Go.WideShapes Go.ChangeAt Go.RowKit
set_option linter.unusedVariables false

theorem own : ownKnob Try.prog.godebug = none := by kernel_rfl
theorem laidOut : laidOutB Try.prog = true := by kernel_rfl

def IsRow (k : IntKind) (w : World) (a : Option Addr) (len cap : Nat) (zs : List Int) : Prop :=
  (a = none ∧ len = 0 ∧ cap = 0 ∧ zs = []) ∨
  ∃ x, a = some x ∧ len ≤ cap ∧ cap ≤ maxLen ∧ zs.length = cap ∧ (∀ i, i < zs.length → w.cell? (x.add i) = some (.int k (zs.getD i 0))) ∧ ∀ n ∈ zs, (Lit.int k n).wf = true

set_option maxHeartbeats 2000000 in
theorem walk (p0 : Ev) (w : World) (w0 : p0.wf) :
    Calls Try.prog 5 #[.agg #[.int .i64 p0.kd, .int .i64 p0.sr, .int .i64 p0.pi, .int .i64 p0.si, .int .i64 p0.nn, .int .i64 p0.zo, .bool p0.be]] w fun e w' => e = .returned (.bool true) ∧ Below w.heap.size w w' := by
  have bx := boxE_new w 44 p0
  have hB := (Below.refl _ w).alloc (Nat.le_refl _) (.cells #[.int .i64 p0.kd, .int .i64 p0.sr, .int .i64 p0.pi, .int .i64 p0.si, .int .i64 p0.nn, .int .i64 p0.zo, .bool p0.be] 44)
  generalize hW : w.alloc (.cells #[.int .i64 p0.kd, .int .i64 p0.sr, .int .i64 p0.pi, .int .i64 p0.si, .int .i64 p0.nn, .int .i64 p0.zo, .bool p0.be] 44) = W at bx hB
  have h0 := Below.refl W.heap.size W
  have hsz : w.heap.size ≤ W.heap.size := hB.size
  obtain ⟨k0, k1, k2, k3, k4, k5, k6⟩ : Cells7 _ _ _ := bx.cells
  go_enter Try.func5, Try.ntmps5
  go_wp2_with fail
  refine (toEvent_any p0 _).mono ?_
  rintro e u1 ⟨rfl, hb⟩
  replace h0 := below_app h0 hb h0.size
  clear hb
  go_wp2_with fail
  refine (specEventOk_any p0 _).mono ?_
  rintro e u2 ⟨rfl, hb⟩
  replace h0 := below_app h0 hb h0.size
  clear hb
  clear k0 k1 k2 k3 k4 k5 k6
  obtain ⟨k0, k1, k2, k3, k4, k5, k6⟩ : Cells7 _ _ _ := bx.cells7 h0
  go_wp2_with fail
  refine (toEvent_any p0 _).mono ?_
  rintro e u3 ⟨rfl, hb⟩
  replace h0 := below_app h0 hb h0.size
  clear hb
  go_wp2_with fail
  refine (implEventOk_any p0 _).mono ?_
  rintro e u4 ⟨rfl, hb⟩
  replace h0 := below_app h0 hb h0.size
  clear hb
  clear k0 k1 k2 k3 k4 k5 k6
  go_wp2
  go_ret
  exact ⟨rfl, below_app hB h0 hsz⟩

set_option maxRecDepth 100000 in
theorem lifted (os : Os) (started : os.Started) (H : Type) (enc : TypeId × Value → H) :
    ReturnsInHanded {} Try.checked os 5 .any (Rows.fnExactEventOkSpec.pre6 enc Try.prog Try.f5 Rows.fnExactEventOkRow.domain false) (Rows.fnExactEventOkSpec.post enc Try.prog Try.f5 false true false false) := by
  refine returnsInHanded_of_change (C := Try.checked) own started (by kernel_rfl) Try.func5
    (ChangeSpec.witness6 (enc := enc) (C := Try.checked) false ⟨#[], #[.agg #[.int .i64 0, .int .i64 0, .int .i64 0, .int .i64 0, .int .i64 0, .int .i64 0, .bool false]], []⟩ 8 (by kernel_rfl) (by kernel_rfl) (by kernel_rfl) (by kernel_rfl)) ?_
  intro W base args ds gs before hval0 hW hcnd _
  have hval : ∀ (j : Nat) t v, Try.f5.params[j]? = some t → args[j]? = some v → Value.okWide Try.prog W .any base t v := hval0
  have hW' := hW
  obtain ⟨p, q, hA0, hV, rfl, hfz, hnd⟩ := hW
  have hA : DataW.TrodAll enc Try.prog W 0 (fun _ => true) true Try.f5.params.toList args.toList ds p := hA0
  rw [Try.params5] at hA hval
  obtain ⟨v0, vs0, d0, ds0, p0', q0, hargs, rfl, rfl, h0, r0⟩ := trodAll_cons hA
  obtain ⟨rfl, rfl, rfl⟩ := trodAll_nil r0
  obtain rfl : args = #[v0] := by cases args; simp_all
  obtain ⟨rfl, rfl⟩ := trodVars_none hV
  have k0 := h0
  have lt0 : ∀ x ∈ p0', x.block < W.heap.size := by obtain ⟨m, hm⟩ := k0; exact DataW.trod_lt m _ _ _ hm
  obtain ⟨p0, rfl, w0⟩ := open_event (hval 0 44 v0 rfl rfl) h0
  clear hA0 hval0
  refine (walk p0 W w0).mono fun e W' ⟨he, bel⟩ => ?_
  subst he
  exact ⟨_, rfl, _, _, _, [], _, [], hW', trodAll_mk1 (shut_bool Try.underlying4 _), (trodAll_cons_mk (Below.trod laidOut (by kernel_rfl) (of_decide_eq_true (by kernel_rfl)) k0 bel lt0) trodAll_mk0), rfl, bel.frame _, fun h => by cases h⟩

theorem over : Rows.fnExactEventOkRow.holds Try.pinned (OpenSpec.ofChange Rows.fnExactEventOkSpec) :=
  OpenClaim.holds_of_wide 5 Try.f5 rfl rfl rfl rfl rfl rfl rfl ⟨rfl, rfl, rfl, rfl, rfl⟩ rfl rfl rfl rfl rfl (by kernel_rfl) Try.func5 (by kernel_rfl)
    (of_decide_eq_true (by kernel_rfl)) (by unfold Func.isWrapper; first | (rw [if_pos (by decide +kernel)]; kernel_rfl) | (rw [if_neg (by decide +kernel)]; exact ⟨rfl, rfl⟩))
    (fun os started H enc _ => lifted os started H enc)

theorem proved : Rows.FnExactEventOkSaid := over
#print axioms proved
end Go.Proofs.Ytjpimkolkhbflap.fnExactEventOk
