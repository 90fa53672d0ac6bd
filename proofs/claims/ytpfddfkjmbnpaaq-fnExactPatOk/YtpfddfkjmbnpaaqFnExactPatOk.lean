/-
  What is proved: at every thing that may be asked for, the law FnExactPatOk answers true: the program's PatOk and the specification's answer alike; no condition.
-/
import Derived.Test.YtpfddfkjmbnpaaqRows
import Derived.Test.YtpfddfkjmbnpaaqCur
import Derived.Test.YtpfddfkjmbnpaaqPiece
import Derived.Test.YtpfddfkjmbnpaaqRow
import Derived.Test.YtpfddfkjmbnpaaqPiece2
import Derived.Test.YtpfddfkjmbnpaaqRowLaw
import Derived.Test.YtpfddfkjmbnpaaqEvA
import Derived.Test.YtpfddfkjmbnpaaqPaA
import Derived.Test.YtpfddfkjmbnpaaqPaB
import Derived.Test.YtpfddfkjmbnpaaqPaC
import Derived.Test.YtpfddfkjmbnpaaqNum
import Derived.Test.YtpfddfkjmbnpaaqPiece3
import Derived.Test.YtpfddfkjmbnpaaqSeg
import Derived.Test.YtpfddfkjmbnpaaqRegTail
import Derived.Test.YtpfddfkjmbnpaaqRegBelow
import Derived.Test.YtpfddfkjmbnpaaqPieceI1
import Derived.Test.YtpfddfkjmbnpaaqEvC
import Derived.Test.YtpfddfkjmbnpaaqPaI
import Derived.WalkKit
import Derived.ProofKit
import Derived.OpenShut
import Derived.ShutString
import Derived.ChangeOld
import Derived.Below
namespace Go.Proofs.Ytpfddfkjmbnpaaq.fnExactPatOk
open Go.ChangeShapes Go.WideShapes Go.ChangeAt Go.RowKit
set_option linter.unusedVariables false

theorem own : ownKnob Try.prog.godebug = none := by kernel_rfl
theorem laidOut : laidOutB Try.prog = true := by kernel_rfl

def IsRow (k : IntKind) (w : World) (a : Option Addr) (len cap : Nat) (zs : List Int) : Prop :=
  (a = none ∧ len = 0 ∧ cap = 0 ∧ zs = []) ∨
  ∃ x, a = some x ∧ len ≤ cap ∧ cap ≤ maxLen ∧ zs.length = cap ∧ (∀ i, i < zs.length → w.cell? (x.add i) = some (.int k (zs.getD i 0))) ∧ ∀ n ∈ zs, (Lit.int k n).wf = true

set_option maxHeartbeats 2000000 in
theorem walk (p0 : Pt) (w : World) (w0 : p0.wf) :
    Calls Try.prog 3 #[.agg #[.int .i64 p0.kd, .int .i64 p0.wh, .int .i64 p0.sr, .int .i64 p0.tr, .int .i64 p0.pi, .int .i64 p0.le, .int .i64 p0.zo]] w fun e w' => e = .returned (.bool true) ∧ Below w.heap.size w w' := by
  have bx := boxPt_new w 23 p0
  have HB := (Below.refl _ w).alloc (Nat.le_refl _) (.cells #[.int .i64 p0.kd, .int .i64 p0.wh, .int .i64 p0.sr, .int .i64 p0.tr, .int .i64 p0.pi, .int .i64 p0.le, .int .i64 p0.zo] 23)
  generalize hW : w.alloc (.cells #[.int .i64 p0.kd, .int .i64 p0.wh, .int .i64 p0.sr, .int .i64 p0.tr, .int .i64 p0.pi, .int .i64 p0.le, .int .i64 p0.zo] 23) = W at bx HB
  obtain ⟨x0, x1, x2, x3, x4, x5, x6⟩ : CellsPt _ _ _ := bx.cells
  go_enter Try.func3, Try.ntmps3
  go_wp2_with fail
  refine (toPat_any p0 _).mono ?_
  rintro e u1 ⟨rfl, hb⟩
  clear x0 x1 x2 x3 x4 x5 x6
  replace bx := bx.grew hb
  replace HB := below_app HB hb HB.size
  clear hb
  obtain ⟨x0, x1, x2, x3, x4, x5, x6⟩ : CellsPt _ _ _ := bx.cells
  clear hW
  go_wp2_with fail
  refine (specPatOk_any p0 _).mono ?_
  rintro e u2 ⟨rfl, hb⟩
  clear x0 x1 x2 x3 x4 x5 x6
  replace bx := bx.grew hb
  replace HB := below_app HB hb HB.size
  clear hb
  obtain ⟨x0, x1, x2, x3, x4, x5, x6⟩ : CellsPt _ _ _ := bx.cells
  go_wp2_with fail
  refine (toPat_any p0 _).mono ?_
  rintro e u3 ⟨rfl, hb⟩
  clear x0 x1 x2 x3 x4 x5 x6
  replace bx := bx.grew hb
  replace HB := below_app HB hb HB.size
  clear hb
  obtain ⟨x0, x1, x2, x3, x4, x5, x6⟩ : CellsPt _ _ _ := bx.cells
  go_wp2_with fail
  refine (implPatOk_any p0 _).mono ?_
  rintro e u4 ⟨rfl, hb⟩
  clear x0 x1 x2 x3 x4 x5 x6
  replace bx := bx.grew hb
  replace HB := below_app HB hb HB.size
  clear hb
  obtain ⟨x0, x1, x2, x3, x4, x5, x6⟩ : CellsPt _ _ _ := bx.cells
  go_wp2
  go_ret
  exact ⟨rfl, HB⟩

set_option maxRecDepth 100000 in
theorem lifted (os : Os) (started : os.Started) (H : Type) (enc : TypeId × Value → H) :
    ReturnsInHanded {} Try.checked os 3 .any (Rows.fnExactPatOkSpec.pre6 enc Try.prog Try.f3 Rows.fnExactPatOkRow.domain false) (Rows.fnExactPatOkSpec.post enc Try.prog Try.f3 false true false false) := by
  refine returnsInHanded_of_change (C := Try.checked) own started (by kernel_rfl) Try.func3
    (ChangeSpec.witness6 (enc := enc) (C := Try.checked) false ⟨#[], #[.agg #[.int .i64 0, .int .i64 0, .int .i64 0, .int .i64 0, .int .i64 0, .int .i64 0, .int .i64 0]], []⟩ 8 (by kernel_rfl) (by kernel_rfl) (by kernel_rfl) (by kernel_rfl)) ?_
  intro W base args ds gs before hval0 hW hcnd _
  have hval : ∀ (j : Nat) t v, Try.f3.params[j]? = some t → args[j]? = some v → Value.okWide Try.prog W .any base t v := hval0
  have hW' := hW
  obtain ⟨p, q, hA0, hV, rfl, hfz, hnd⟩ := hW
  have hA : DataW.TrodAll enc Try.prog W 0 (fun _ => true) true Try.f3.params.toList args.toList ds p := hA0
  rw [Try.params3] at hA hval
  obtain ⟨v0, vs0, d0, ds0, p0', q0, hargs, rfl, rfl, h0, r0⟩ := trodAll_cons hA
  obtain ⟨rfl, rfl, rfl⟩ := trodAll_nil r0
  obtain rfl : args = #[v0] := by cases args; simp_all
  obtain ⟨rfl, rfl⟩ := trodVars_none hV
  have k0 := h0
  have lt0 : ∀ x ∈ p0', x.block < W.heap.size := by obtain ⟨m, hm⟩ := k0; exact DataW.trod_lt m _ _ _ hm
  obtain ⟨p0, rfl, w0⟩ := open_pat (hval 0 23 v0 rfl rfl) h0
  clear hA0 hval0
  refine (walk p0 W w0).mono fun e W' ⟨he, bel⟩ => ?_
  subst he
  exact ⟨_, rfl, _, _, _, [], _, [], hW', trodAll_mk1 (shut_bool Try.underlying4 _), (trodAll_cons_mk (Below.trod laidOut (by kernel_rfl) (of_decide_eq_true (by kernel_rfl)) k0 bel lt0) trodAll_mk0), rfl, bel.frame _, fun h => by cases h⟩

theorem over : Rows.fnExactPatOkRow.holds Try.pinned (OpenSpec.ofChange Rows.fnExactPatOkSpec) :=
  OpenClaim.holds_of_wide 3 Try.f3 rfl rfl rfl rfl rfl rfl rfl ⟨rfl, rfl, rfl, rfl, rfl⟩ rfl rfl rfl rfl rfl (by kernel_rfl) Try.func3 (by kernel_rfl)
    (of_decide_eq_true (by kernel_rfl)) (by unfold Func.isWrapper; first | (rw [if_pos (by decide +kernel)]; kernel_rfl) | (rw [if_neg (by decide +kernel)]; exact ⟨rfl, rfl⟩))
    (fun os started H enc _ => lifted os started H enc)

theorem proved : Rows.FnExactPatOkSaid := over
#print axioms proved
end Go.Proofs.Ytpfddfkjmbnpaaq.fnExactPatOk
