/-
  What is proved: at every two lists of effects, the law FnExactSameTable answers true: the program's and the specification's answer alike, and the arguments read afterwards as before; no condition.
-/
import Derived.Test.YtodfdfncdoliiatRows
import Derived.Test.YtodfdfncdoliiatGCur2
import Derived.Test.YtodfdfncdoliiatRow
import Derived.Test.YtodfdfncdoliiatGPiece22
import Derived.Test.YtodfdfncdoliiatEvA
import Derived.Test.YtodfdfncdoliiatNum
import Derived.Test.YtodfdfncdoliiatGEvN3
import Derived.Test.YtodfdfncdoliiatGState32
import Derived.Test.YtodfdfncdoliiatRegTail
import Derived.Test.YtodfdfncdoliiatGRegBelow4
import Derived.Test.YtodfdfncdoliiatGStMark4
import Derived.Test.YtodfdfncdoliiatAcR
import Derived.Test.YtodfdfncdoliiatAcA
import Derived.Test.YtodfdfncdoliiatGPaA2
import Derived.Test.YtodfdfncdoliiatEfA
import Derived.Test.YtodfdfncdoliiatEfB
import Derived.Test.YtodfdfncdoliiatEfC
import Derived.Test.YtodfdfncdoliiatTaA
import Derived.Test.YtodfdfncdoliiatTaB
import Derived.Test.YtodfdfncdoliiatTaC
import Derived.Test.YtodfdfncdoliiatGEvW5
import Derived.Test.YtodfdfncdoliiatAcD
import Derived.Test.YtodfdfncdoliiatGPaB2
import Derived.Test.YtodfdfncdoliiatEfD
import Derived.Test.YtodfdfncdoliiatGBytes4
import Derived.Test.YtodfdfncdoliiatEfE
import Derived.Test.YtodfdfncdoliiatTaE
import Derived.Test.YtodfdfncdoliiatStNew
import Derived.Test.YtodfdfncdoliiatSpA
import Derived.Test.YtodfdfncdoliiatSpB
import Derived.Test.YtodfdfncdoliiatTaF
import Derived.Test.YtodfdfncdoliiatGAcL3
import Derived.Test.YtodfdfncdoliiatGTaH2
import Derived.Test.YtodfdfncdoliiatTaD
import Derived.Test.YtodfdfncdoliiatTaJ
import Derived.Test.YtodfdfncdoliiatTbI
import Derived.Test.YtodfdfncdoliiatGTbJA4
import Derived.Test.YtodfdfncdoliiatEfS
import Derived.Test.YtodfdfncdoliiatTbG
import Derived.Test.YtodfdfncdoliiatGTbJS2
import Derived.Test.YtodfdfncdoliiatPaI
import Derived.Test.YtodfdfncdoliiatGGuC2
import Derived.Test.YtodfdfncdoliiatGStSame4
import Derived.Test.YtodfdfncdoliiatGuE
import Derived.Test.YtodfdfncdoliiatGStField2
import Derived.Test.YtodfdfncdoliiatEvC1
import Derived.Test.YtodfdfncdoliiatEvC2
import Derived.Test.YtodfdfncdoliiatEvC3
import Derived.Test.YtodfdfncdoliiatEvD
import Derived.Test.YtodfdfncdoliiatAcF
import Derived.Test.YtodfdfncdoliiatGAcG3
import Derived.Test.YtodfdfncdoliiatEfO
import Derived.Test.YtodfdfncdoliiatEfQ
import Derived.Test.YtodfdfncdoliiatTbE
import Derived.Test.YtodfdfncdoliiatTbJE
import Derived.WalkKit
import Derived.Deep.RegionHeld
import Derived.Deep.RegionHeldLaw
import Derived.Deep.MidRow
import Derived.ProofKit
import Derived.OpenShut
import Derived.ShutString
import Derived.ChangeOld
import Derived.Below
namespace Go.Proofs.Ytodfdfncdoliiat.fnExactSameTable
open Go.ChangeShapes Go.WideShapes Go.ChangeAt Go.RowKit
set_option linter.unusedVariables false

theorem own : ownKnob Try.prog.godebug = none := by kernel_rfl
theorem laidOut : laidOutB Try.prog = true := by kernel_rfl

def IsRow (k : IntKind) (w : World) (a : Option Addr) (len cap : Nat) (zs : List Int) : Prop :=
  (a = none ∧ len = 0 ∧ cap = 0 ∧ zs = []) ∨
  ∃ x, a = some x ∧ len ≤ cap ∧ cap ≤ maxLen ∧ zs.length = cap ∧ (∀ i, i < zs.length → w.cell? (x.add i) = some (.int k (zs.getD i 0))) ∧ ∀ n ∈ zs, (Lit.int k n).wf = true

set_option maxHeartbeats 2000000 in
set_option linter.unusedSimpArgs false in
set_option maxRecDepth 100000 in
set_option maxHeartbeats 4000000 in
theorem walk (p0 : Tb) (p1 : Tb) (w : World) (w0 : p0.ok w) (w1 : p1.ok w) :
    Calls Try.prog 6 #[.slice p0.p p0.n p0.cap, .slice p1.p p1.n p1.cap] w fun e w' => e = .returned (.bool true) ∧ Below w.heap.size w w' := by
  have hB := Below.refl w.heap.size w
  go_enter Try.func6, Try.ntmps6
  go_wp2_with fail
  refine (szEffectS_any p0 1048576 _ (w0.grew hB) (by omega)).mono ?_
  rintro e y1_ ⟨r0, rfl, hb, hr0⟩
  replace hB := below_app hB hb hB.size
  clear hb
  rcases hr0 with rfl | ⟨r0a, r0b, n_p0, l_p0⟩
  · go_wp2
    go_ret
    exact ⟨rfl, hB⟩
  go_wp2_with fail
  refine (szEffectS_any p1 r0 _ (w1.grew hB) ⟨r0a, r0b⟩).mono ?_
  rintro e y2_ ⟨r1, rfl, hb, hr1⟩
  replace hB := below_app hB hb hB.size
  clear hb
  rcases hr1 with rfl | ⟨r1a, r1b, n_p1, l_p1⟩
  · go_wp2
    go_ret
    exact ⟨rfl, hB⟩
  have l2_p0 : ∀ i, i < p0.n → (p0.f i).ac.ln ≤ 1048577 := fun i hi => by have := l_p0 i hi; omega
  have l2_p1 : ∀ i, i < p1.n → (p1.f i).ac.ln ≤ 1048577 := fun i hi => by have := l_p1 i hi; omega
  go_wp2_with fail
  refine (toEffectS_ans p0 _ (w0.grew hB) n_p0 l_p0).mono ?_
  rintro e y3_ ⟨t_y, rfl, hb, o_y, e_y⟩
  have p_y : w.heap.size ≤ y2_.heap.size := hB.size
  replace hB := below_app hB hb hB.size
  clear hb
  go_wp2_with fail
  refine (toEffectS_ans p1 _ (w1.grew hB) n_p1 l_p1).mono ?_
  rintro e y4_ ⟨t_z, rfl, hb, o_z, e_z⟩
  have a_y_z := apartT o_y o_z (Nat.le_refl _)
  have p_z : w.heap.size ≤ y3_.heap.size := hB.size
  replace o_y := o_y.grew hb
  replace hB := below_app hB hb hB.size
  clear hb
  go_wp2_with fail
  refine (specSameTable_al o_y e_y o_z e_z w0 w1 l_p0 l_p1).mono ?_
  rintro e y5_ ⟨rfl, hb⟩
  replace o_y := o_y.grew hb
  replace o_z := o_z.grew hb
  replace hB := below_app hB hb hB.size
  clear hb
  clear o_y
  clear o_z
  go_wp2_with fail
  refine (toEffectS_ans p0 _ (w0.grew hB) n_p0 l_p0).mono ?_
  rintro e y6_ ⟨t_x, rfl, hb, o_x, e_x⟩
  have p_x : w.heap.size ≤ y5_.heap.size := hB.size
  replace hB := below_app hB hb hB.size
  clear hb
  go_wp2_with fail
  refine (toEffectS_ans p1 _ (w1.grew hB) n_p1 l_p1).mono ?_
  rintro e y7_ ⟨t_v, rfl, hb, o_v, e_v⟩
  have a_x_v := apartT o_x o_v (Nat.le_refl _)
  have p_v : w.heap.size ≤ y6_.heap.size := hB.size
  replace o_x := o_x.grew hb
  replace hB := below_app hB hb hB.size
  clear hb
  go_wp2_with fail
  refine (implSameTable_al o_x e_x o_v e_v w0 w1 l_p0 l_p1).mono ?_
  rintro e y8_ ⟨rfl, hb⟩
  replace o_x := o_x.grew hb
  replace o_v := o_v.grew hb
  replace hB := below_app hB hb hB.size
  clear hb
  go_wp2_with fail
  refine (toEffectS_ans p0 _ (w0.grew hB) n_p0 l_p0).mono ?_
  rintro e y9_ ⟨t_c, rfl, hb, o_c, e_c⟩
  have a_x_c := apartT o_x o_c (Nat.le_refl _)
  have a_v_c := apartT o_v o_c (Nat.le_refl _)
  have p_c : w.heap.size ≤ y8_.heap.size := hB.size
  replace o_x := o_x.grew hb
  replace o_v := o_v.grew hb
  replace hB := below_app hB hb hB.size
  clear hb
  go_wp2_with fail
  refine (eqEffectS_alike t_x t_c p0 _ o_x o_c e_x e_c l2_p0).mono ?_
  rintro e y10_ ⟨rfl, hb⟩
  replace o_x := o_x.grew hb
  replace o_v := o_v.grew hb
  replace o_c := o_c.grew hb
  replace hB := below_app hB hb hB.size
  clear hb
  clear o_c
  go_wp2_with fail
  refine (toEffectS_ans p1 _ (w1.grew hB) n_p1 l_p1).mono ?_
  rintro e y11_ ⟨t_c, rfl, hb, o_c, e_c⟩
  have a_x_c := apartT o_x o_c (Nat.le_refl _)
  have a_v_c := apartT o_v o_c (Nat.le_refl _)
  have p_c : w.heap.size ≤ y10_.heap.size := hB.size
  replace o_x := o_x.grew hb
  replace o_v := o_v.grew hb
  replace hB := below_app hB hb hB.size
  clear hb
  go_wp2_with fail
  refine (eqEffectS_alike t_v t_c p1 _ o_v o_c e_v e_c l2_p1).mono ?_
  rintro e y12_ ⟨rfl, hb⟩
  replace o_x := o_x.grew hb
  replace o_v := o_v.grew hb
  replace o_c := o_c.grew hb
  replace hB := below_app hB hb hB.size
  clear hb
  clear o_c
  go_wp2
  go_ret
  exact ⟨rfl, hB⟩

set_option maxRecDepth 100000 in
theorem lifted (os : Os) (started : os.Started) (H : Type) (enc : TypeId × Value → H) :
    ReturnsInHanded {} Try.checked os 6 .any (Rows.fnExactSameTableSpec.pre6 enc Try.prog Try.f6 Rows.fnExactSameTableRow.domain false) (Rows.fnExactSameTableSpec.post enc Try.prog Try.f6 false true false false) := by
  refine returnsInHanded_of_change (C := Try.checked) own started (by kernel_rfl) Try.func6
    (ChangeSpec.witness6 (enc := enc) (C := Try.checked) false ⟨#[], #[.slice none 0 0, .slice none 0 0], []⟩ 8 (by kernel_rfl) (by kernel_rfl) (by kernel_rfl) (by kernel_rfl)) ?_
  intro W base args ds gs before hval0 hW hcnd _
  have hval : ∀ (j : Nat) t v, Try.f6.params[j]? = some t → args[j]? = some v → Value.okWide Try.prog W .any base t v := hval0
  have hW' := hW
  obtain ⟨p, q, hA0, hV, rfl, hfz, hnd⟩ := hW
  have hA : DataW.TrodAll enc Try.prog W 0 (fun _ => true) true Try.f6.params.toList args.toList ds p := hA0
  rw [Try.params6] at hA hval
  obtain ⟨v0, vs0, d0, ds0, p0', q0, hargs, rfl, rfl, h0, r0⟩ := trodAll_cons hA
  obtain ⟨v1, vs1, d1, ds1, p1', q1, rfl, rfl, rfl, h1, r1⟩ := trodAll_cons r0
  obtain ⟨rfl, rfl, rfl⟩ := trodAll_nil r1
  obtain rfl : args = #[v0, v1] := by cases args; simp_all
  obtain ⟨rfl, rfl⟩ := trodVars_none hV
  have k0 := h0
  have lt0 : ∀ x ∈ p0', x.block < W.heap.size := by obtain ⟨m, hm⟩ := k0; exact DataW.trod_lt m _ _ _ hm
  obtain ⟨p0, rfl, w0⟩ := open_effects (hval 0 50 v0 rfl rfl) h0
  have k1 := h1
  have lt1 : ∀ x ∈ p1', x.block < W.heap.size := by obtain ⟨m, hm⟩ := k1; exact DataW.trod_lt m _ _ _ hm
  obtain ⟨p1, rfl, w1⟩ := open_effects (hval 1 50 v1 rfl rfl) h1
  clear hA0 hval0
  refine (walk p0 p1 W w0 w1).mono fun e W' ⟨he, bel⟩ => ?_
  subst he
  exact ⟨_, rfl, _, _, _, [], _, [], hW', trodAll_mk1 (shut_bool Try.underlying4 _), (trodAll_cons_mk (Below.trod laidOut (by kernel_rfl) (of_decide_eq_true (by kernel_rfl)) k0 bel lt0) (trodAll_cons_mk (Below.trod laidOut (by kernel_rfl) (of_decide_eq_true (by kernel_rfl)) k1 bel lt1) trodAll_mk0)), rfl, bel.frame _, fun h => by cases h⟩

theorem over : Rows.fnExactSameTableRow.holds Try.pinned (OpenSpec.ofChange Rows.fnExactSameTableSpec) :=
  OpenClaim.holds_of_wide 6 Try.f6 rfl rfl rfl rfl rfl rfl rfl ⟨rfl, rfl, rfl, rfl, rfl⟩ rfl rfl rfl rfl rfl (by kernel_rfl) Try.func6 (by kernel_rfl)
    (of_decide_eq_true (by kernel_rfl)) (by unfold Func.isWrapper; first | (rw [if_pos (by decide +kernel)]; kernel_rfl) | (rw [if_neg (by decide +kernel)]; exact ⟨rfl, rfl⟩))
    (fun os started H enc _ => lifted os started H enc)

theorem proved : Rows.FnExactSameTableSaid := over
#print axioms proved
end Go.Proofs.Ytodfdfncdoliiat.fnExactSameTable
