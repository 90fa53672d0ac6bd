/-
  What is proved: at every thing and every int, the law FnExactWithN answers true: the program's WithN and the specification's answer alike; no condition.
-/
import Derived.Test.YtjpimkolkhbflapRows
import Derived.Test.YtjpimkolkhbflapCur
import Derived.Test.YtjpimkolkhbflapPiece
import Derived.Test.YtjpimkolkhbflapRow
import Derived.Test.YtjpimkolkhbflapPiece2
import Derived.Test.YtjpimkolkhbflapRowLaw
import Derived.Test.YtjpimkolkhbflapEvA
import Derived.Test.YtjpimkolkhbflapNum
import Derived.Test.YtjpimkolkhbflapEvN
import Derived.WalkKit
import Derived.ProofKit
import Derived.OpenShut
import Derived.ShutString
import Derived.ChangeOld
import Derived.Below
namespace Go.Proofs.Ytjpimkolkhbflap.fnExactWithN
open Go.ChangeShapes Go.WideShapes Go.ChangeAt Go.RowKit
set_option linter.unusedVariables false

theorem own : ownKnob Try.prog.godebug = none := by kernel_rfl
theorem laidOut : laidOutB Try.prog = true := by kernel_rfl

def IsRow (k : IntKind) (w : World) (a : Option Addr) (len cap : Nat) (zs : List Int) : Prop :=
  (a = none ∧ len = 0 ∧ cap = 0 ∧ zs = []) ∨
  ∃ x, a = some x ∧ len ≤ cap ∧ cap ≤ maxLen ∧ zs.length = cap ∧ (∀ i, i < zs.length → w.cell? (x.add i) = some (.int k (zs.getD i 0))) ∧ ∀ n ∈ zs, (Lit.int k n).wf = true

set_option maxHeartbeats 2000000 in
theorem walk (p0 : Ev) (a1 : Int) (w : World) (w0 : p0.wf) (w1 : (Lit.int .i64 a1).wf = true) :
    Calls Try.prog 7 #[.agg #[.int .i64 p0.kd, .int .i64 p0.sr, .int .i64 p0.pi, .int .i64 p0.si, .int .i64 p0.nn, .int .i64 p0.zo, .bool p0.be], .int .i64 a1] w fun e w' => e = .returned (.bool true) ∧ Below w.heap.size w w' := by
  have bx := boxE_new w 44 p0
  have hB := (Below.refl _ w).alloc (Nat.le_refl _) (.cells #[.int .i64 p0.kd, .int .i64 p0.sr, .int .i64 p0.pi, .int .i64 p0.si, .int .i64 p0.nn, .int .i64 p0.zo, .bool p0.be] 44)
  generalize hW : w.alloc (.cells #[.int .i64 p0.kd, .int .i64 p0.sr, .int .i64 p0.pi, .int .i64 p0.si, .int .i64 p0.nn, .int .i64 p0.zo, .bool p0.be] 44) = W at bx hB
  have h0 := Below.refl W.heap.size W
  have hsz : w.heap.size ≤ W.heap.size := hB.size
  obtain ⟨k0, k1, k2, k3, k4, k5, k6⟩ : Cells7 _ _ _ := bx.cells
  go_enter Try.func7, Try.ntmps7
  go_wp2_with fail
  refine (toEvent_any p0 _).mono ?_
  rintro e u1 ⟨rfl, hb⟩
  replace h0 := below_app h0 hb h0.size
  clear hb
  go_wp2_with fail
  refine (specWithN_any p0 a1 _).mono ?_
  rintro e u2 ⟨rfl, hb⟩
  replace h0 := below_app h0 hb h0.size
  clear hb
  have bw := boxE_new u2 46 (wnE p0 a1)
  replace h0 := h0.alloc h0.size (.cells #[.int .i64 (wnE p0 a1).kd, .int .i64 (wnE p0 a1).sr, .int .i64 (wnE p0 a1).pi, .int .i64 (wnE p0 a1).si, .int .i64 (wnE p0 a1).nn, .int .i64 (wnE p0 a1).zo, .bool (wnE p0 a1).be] 46)
  generalize hV : u2.alloc (.cells #[.int .i64 (wnE p0 a1).kd, .int .i64 (wnE p0 a1).sr, .int .i64 (wnE p0 a1).pi, .int .i64 (wnE p0 a1).si, .int .i64 (wnE p0 a1).nn, .int .i64 (wnE p0 a1).zo, .bool (wnE p0 a1).be] 46) = V at bw h0
  clear k0 k1 k2 k3 k4 k5 k6
  obtain ⟨k0, k1, k2, k3, k4, k5, k6⟩ : Cells7 _ _ _ := bx.cells7 h0
  have h1 := Below.refl V.heap.size V
  go_wp2_with fail
  refine (toEvent_any p0 _).mono ?_
  rintro e u3 ⟨rfl, hb⟩
  replace h1 := below_app h1 hb h1.size
  clear hb
  go_wp2_with fail
  refine (implWithN_any p0 a1 _).mono ?_
  rintro e u4 ⟨rfl, hb⟩
  replace h1 := below_app h1 hb h1.size
  clear hb
  have bg := boxE_new u4 46 (wnE p0 a1)
  replace h1 := h1.alloc h1.size (.cells #[.int .i64 (wnE p0 a1).kd, .int .i64 (wnE p0 a1).sr, .int .i64 (wnE p0 a1).pi, .int .i64 (wnE p0 a1).si, .int .i64 (wnE p0 a1).nn, .int .i64 (wnE p0 a1).zo, .bool (wnE p0 a1).be] 46)
  generalize hU : u4.alloc (.cells #[.int .i64 (wnE p0 a1).kd, .int .i64 (wnE p0 a1).sr, .int .i64 (wnE p0 a1).pi, .int .i64 (wnE p0 a1).si, .int .i64 (wnE p0 a1).nn, .int .i64 (wnE p0 a1).zo, .bool (wnE p0 a1).be] 46) = U at bg h1
  clear k0 k1 k2 k3 k4 k5 k6
  obtain ⟨m0, m1, m2, m3, m4, m5, m6⟩ : Cells7 _ _ _ := bw.cells7 h1
  obtain ⟨g0, g1, g2, g3, g4, g5, g6⟩ : Cells7 _ _ _ := bg.cells
  go_wp2_with fail
  refine (eqEvent_any (wnE p0 a1) (wnE p0 a1) _).mono ?_
  rintro e u9 ⟨rfl, hb⟩
  replace h1 := below_app h1 hb h1.size
  rw [smE_self]
  clear hb m0 m1 m2 m3 m4 m5 m6 g0 g1 g2 g3 g4 g5 g6
  go_wp2
  go_ret
  exact ⟨rfl, below_app hB (below_app h0 h1 h0.size) hsz⟩

set_option maxRecDepth 100000 in
theorem lifted (os : Os) (started : os.Started) (H : Type) (enc : TypeId × Value → H) :
    ReturnsInHanded {} Try.checked os 7 .any (Rows.fnExactWithNSpec.pre6 enc Try.prog Try.f7 Rows.fnExactWithNRow.domain false) (Rows.fnExactWithNSpec.post enc Try.prog Try.f7 false true false false) := by
  refine returnsInHanded_of_change (C := Try.checked) own started (by kernel_rfl) Try.func7
    (ChangeSpec.witness6 (enc := enc) (C := Try.checked) false ⟨#[], #[.agg #[.int .i64 0, .int .i64 0, .int .i64 0, .int .i64 0, .int .i64 0, .int .i64 0, .bool false], .int .i64 0], []⟩ 8 (by kernel_rfl) (by kernel_rfl) (by kernel_rfl) (by kernel_rfl)) ?_
  intro W base args ds gs before hval0 hW hcnd _
  have hval : ∀ (j : Nat) t v, Try.f7.params[j]? = some t → args[j]? = some v → Value.okWide Try.prog W .any base t v := hval0
  have hW' := hW
  obtain ⟨p, q, hA0, hV, rfl, hfz, hnd⟩ := hW
  have hA : DataW.TrodAll enc Try.prog W 0 (fun _ => true) true Try.f7.params.toList args.toList ds p := hA0
  rw [Try.params7] at hA hval
  obtain ⟨v0, vs0, d0, ds0, p0', q0, hargs, rfl, rfl, h0, r0⟩ := trodAll_cons hA
  obtain ⟨v1, vs1, d1, ds1, p1', q1, rfl, rfl, rfl, h1, r1⟩ := trodAll_cons r0
  obtain ⟨rfl, rfl, rfl⟩ := trodAll_nil r1
  obtain rfl : args = #[v0, v1] := by cases args; simp_all
  obtain ⟨rfl, rfl⟩ := trodVars_none hV
  have k0 := h0
  have lt0 : ∀ x ∈ p0', x.block < W.heap.size := by obtain ⟨m, hm⟩ := k0; exact DataW.trod_lt m _ _ _ hm
  obtain ⟨p0, rfl, w0⟩ := open_event (hval 0 44 v0 rfl rfl) h0
  obtain ⟨a1, rfl, rfl, rfl, w1⟩ := open_int Try.underlying3 (hval 1 3 v1 rfl rfl) h1
  clear hA0 hval0
  refine (walk p0 a1 W w0 w1).mono fun e W' ⟨he, bel⟩ => ?_
  subst he
  exact ⟨_, rfl, _, _, _, [], _, [], hW', trodAll_mk1 (shut_bool Try.underlying4 _), (trodAll_cons_mk (Below.trod laidOut (by kernel_rfl) (of_decide_eq_true (by kernel_rfl)) k0 bel lt0) (trodAll_cons_mk (shut_int Try.underlying3 w1) trodAll_mk0)), rfl, bel.frame _, fun h => by cases h⟩

theorem over : Rows.fnExactWithNRow.holds Try.pinned (OpenSpec.ofChange Rows.fnExactWithNSpec) :=
  OpenClaim.holds_of_wide 7 Try.f7 rfl rfl rfl rfl rfl rfl rfl ⟨rfl, rfl, rfl, rfl, rfl⟩ rfl rfl rfl rfl rfl (by kernel_rfl) Try.func7 (by kernel_rfl)
    (of_decide_eq_true (by kernel_rfl)) (by unfold Func.isWrapper; first | (rw [if_pos (by decide +kernel)]; kernel_rfl) | (rw [if_neg (by decide +kernel)]; exact ⟨rfl, rfl⟩))
    (fun os started H enc _ => lifted os started H enc)

theorem proved : Rows.FnExactWithNSaid := over
#print axioms proved
end Go.Proofs.Ytjpimkolkhbflap.fnExactWithN
