/-
  What is proved: at every list of effects and every int, the law FnExactExpire answers true: the program's and the specification's answer alike, the answer lies in new memory, and the arguments read afterwards as before; no condition.
-/
import Derived.Test.YtodfdfncdoliiauRows
import Derived.Test.YtodfdfncdoliiauGCur2
import Derived.Test.YtodfdfncdoliiauRow
import Derived.Test.YtodfdfncdoliiauGPiece22
import Derived.Test.YtodfdfncdoliiauEvA
import Derived.Test.YtodfdfncdoliiauGNum2
import Derived.Test.YtodfdfncdoliiauState1
import Derived.Test.YtodfdfncdoliiauState2
import Derived.Test.YtodfdfncdoliiauState3
import Derived.Test.YtodfdfncdoliiauSeg
import Derived.Test.YtodfdfncdoliiauRegTail
import Derived.Test.YtodfdfncdoliiauGRegBelow2
import Derived.Test.YtodfdfncdoliiauState4
import Derived.Test.YtodfdfncdoliiauState5
import Derived.Test.YtodfdfncdoliiauStMark
import Derived.Test.YtodfdfncdoliiauGPieceOk2
import Derived.Test.YtodfdfncdoliiauStHeld
import Derived.Test.YtodfdfncdoliiauAcR
import Derived.Test.YtodfdfncdoliiauAcA
import Derived.Test.YtodfdfncdoliiauGPaA2
import Derived.Test.YtodfdfncdoliiauEfA
import Derived.Test.YtodfdfncdoliiauEfB
import Derived.Test.YtodfdfncdoliiauEfC
import Derived.Test.YtodfdfncdoliiauTaA
import Derived.Test.YtodfdfncdoliiauTaB
import Derived.Test.YtodfdfncdoliiauTaC
import Derived.Test.YtodfdfncdoliiauGEvW5
import Derived.Test.YtodfdfncdoliiauAcD
import Derived.Test.YtodfdfncdoliiauGPaB2
import Derived.Test.YtodfdfncdoliiauEfD
import Derived.Test.YtodfdfncdoliiauBytes
import Derived.Test.YtodfdfncdoliiauState8
import Derived.Test.YtodfdfncdoliiauGStAt3
import Derived.Test.YtodfdfncdoliiauGTaE2
import Derived.Test.YtodfdfncdoliiauSpA
import Derived.Test.YtodfdfncdoliiauSpB
import Derived.Test.YtodfdfncdoliiauTaF
import Derived.Test.YtodfdfncdoliiauGAcL3
import Derived.Test.YtodfdfncdoliiauTaH
import Derived.Test.YtodfdfncdoliiauTaI
import Derived.Test.YtodfdfncdoliiauTaD
import Derived.Test.YtodfdfncdoliiauTaJ
import Derived.Test.YtodfdfncdoliiauMaA
import Derived.Test.YtodfdfncdoliiauMaB
import Derived.Test.YtodfdfncdoliiauGRegCut2
import Derived.Test.YtodfdfncdoliiauTbA
import Derived.Test.YtodfdfncdoliiauTbS
import Derived.Test.YtodfdfncdoliiauFrE
import Derived.Test.YtodfdfncdoliiauTbB
import Derived.Test.YtodfdfncdoliiauTbL
import Derived.Test.YtodfdfncdoliiauTbC
import Derived.Test.YtodfdfncdoliiauGTbJD2
import Derived.Test.YtodfdfncdoliiauGEvC3
import Derived.Test.YtodfdfncdoliiauTbD
import Derived.Test.YtodfdfncdoliiauGTbJX2
import Derived.WalkKit
import Derived.Deep.RegionHeld
import Derived.Deep.RegionHeldLaw
import Derived.Deep.MidRow
import Derived.ProofKit
import Derived.OpenShut
import Derived.ShutString
import Derived.ChangeOld
import Derived.Below
namespace Go.Proofs.Ytodfdfncdoliiau.fnExactExpire
open Go.ChangeShapes Go.WideShapes Go.ChangeAt Go.RowKit
set_option linter.unusedVariables false

theorem own : ownKnob Try.prog.godebug = none := by kernel_rfl
theorem laidOut : laidOutB Try.prog = true := by kernel_rfl

def IsRow (k : IntKind) (w : World) (a : Option Addr) (len cap : Nat) (zs : List Int) : Prop :=
  (a = none ∧ len = 0 ∧ cap = 0 ∧ zs = []) ∨
  ∃ x, a = some x ∧ len ≤ cap ∧ cap ≤ maxLen ∧ zs.length = cap ∧ (∀ i, i < zs.length → w.cell? (x.add i) = some (.int k (zs.getD i 0))) ∧ ∀ n ∈ zs, (Lit.int k n).wf = true

set_option maxHeartbeats 2000000 in
set_option linter.unusedSimpArgs false in
set_option maxRecDepth 100000 in
set_option maxHeartbeats 4000000 in
theorem walk (p0 : Tb) (a1 : Int) (w : World) (w0 : p0.ok w) (w1 : (Lit.int .i64 a1).wf = true) :
    Calls Try.prog 4 #[.slice p0.p p0.n p0.cap, .int .i64 a1] w fun e w' => e = .returned (.bool true) ∧ Below w.heap.size w w' := by
  have hB := Below.refl w.heap.size w
  go_enter Try.func4, Try.ntmps4
  go_wp2_with fail
  refine (szEffectS_any p0 1048576 _ (w0.grew hB) (by omega)).mono ?_
  rintro e y1_ ⟨r0, rfl, hb, hr0⟩
  replace hB := below_app hB hb hB.size
  clear hb
  rcases hr0 with rfl | ⟨r0a, r0b, n_p0, l_p0⟩
  · go_wp2
    go_ret
    exact ⟨rfl, hB⟩
  have l2_p0 : ∀ i, i < p0.n → (p0.f i).ac.ln ≤ 1048577 := fun i hi => by have := l_p0 i hi; omega
  have nN : (exL p0.f a1 p0.n).length ≤ 1048577 := by have := exL_len p0.f a1 p0.n; omega
  have lF : ∀ i, i < (exL p0.f a1 p0.n).length → ((exF (exL p0.f a1 p0.n) p0.f) i).ac.ln ≤ 1048577 := fun i hi => l2_p0 _ (exL_lt p0.f a1 p0.n _ (by rw [List.getD_eq_getElem?_getD, List.getElem?_eq_getElem hi]; exact List.getElem_mem hi))
  go_wp2_with fail
  refine (toEffectS_ans p0 _ (w0.grew hB) n_p0 l_p0).mono ?_
  rintro e y2_ ⟨t_y, rfl, hb, o_y, e_y⟩
  have p_y : w.heap.size ≤ y1_.heap.size := hB.size
  replace hB := below_app hB hb hB.size
  clear hb
  go_wp2_with fail
  refine (specExpire_al a1 o_y e_y w0 n_p0 l_p0).mono ?_
  rintro e y3_ ⟨t_w, rfl, hb, q_w⟩
  have o_w := q_w.1
  have e_w : AlikeT t_w (sayT (exL p0.f a1 p0.n).length (exF (exL p0.f a1 p0.n) p0.f)) := q_w.say
  clear q_w
  have a_y_w := apartT o_y o_w (Nat.le_refl _)
  have p_w : w.heap.size ≤ y2_.heap.size := hB.size
  replace o_y := o_y.grew hb
  replace hB := below_app hB hb hB.size
  clear hb
  clear o_y
  go_wp2_with fail
  refine (toEffectS_ans p0 _ (w0.grew hB) n_p0 l_p0).mono ?_
  rintro e y4_ ⟨t_x, rfl, hb, o_x, e_x⟩
  have a_w_x := apartT o_w o_x (Nat.le_refl _)
  have p_x : w.heap.size ≤ y3_.heap.size := hB.size
  replace o_w := o_w.grew hb
  replace hB := below_app hB hb hB.size
  clear hb
  go_wp2_with fail
  refine (implExpire_al a1 o_x e_x w0 n_p0 l_p0).mono ?_
  rintro e y5_ ⟨t_g, rfl, hb, q_g⟩
  have o_g := q_g.1
  have e_g : AlikeT t_g (sayT (exL p0.f a1 p0.n).length (exF (exL p0.f a1 p0.n) p0.f)) := q_g.say
  clear q_g
  have a_w_g := apartT o_w o_g (Nat.le_refl _)
  have a_x_g := apartT o_x o_g (Nat.le_refl _)
  have p_g : w.heap.size ≤ y4_.heap.size := hB.size
  replace o_w := o_w.grew hb
  replace o_x := o_x.grew hb
  replace hB := below_app hB hb hB.size
  clear hb
  go_wp2_with fail
  refine (eqEffectS_alike t_g t_w (sayT (exL p0.f a1 p0.n).length (exF (exL p0.f a1 p0.n) p0.f)) _ o_g o_w e_g e_w lF).mono ?_
  rintro e y6_ ⟨rfl, hb⟩
  replace o_w := o_w.grew hb
  replace o_x := o_x.grew hb
  replace o_g := o_g.grew hb
  replace hB := below_app hB hb hB.size
  clear hb
  go_wp2_with fail
  refine (toEffectS_ans p0 _ (w0.grew hB) n_p0 l_p0).mono ?_
  rintro e y7_ ⟨t_c, rfl, hb, o_c, e_c⟩
  have a_w_c := apartT o_w o_c (Nat.le_refl _)
  have a_x_c := apartT o_x o_c (Nat.le_refl _)
  have a_g_c := apartT o_g o_c (Nat.le_refl _)
  have p_c : w.heap.size ≤ y6_.heap.size := hB.size
  replace o_w := o_w.grew hb
  replace o_x := o_x.grew hb
  replace o_g := o_g.grew hb
  replace hB := below_app hB hb hB.size
  clear hb
  go_wp2_with fail
  refine (eqEffectS_alike t_x t_c p0 _ o_x o_c e_x e_c l2_p0).mono ?_
  rintro e y8_ ⟨rfl, hb⟩
  replace o_w := o_w.grew hb
  replace o_x := o_x.grew hb
  replace o_g := o_g.grew hb
  replace o_c := o_c.grew hb
  replace hB := below_app hB hb hB.size
  clear hb
  clear o_c
  as_aux_lemma =>
    have nn_x : t_x.n ≤ 1048577 := (by rw [e_x.n]; omega)
    have ll_x : ∀ i, i < t_x.n → (t_x.f i).ac.ln ≤ 1048577 := (fun i hi => by rw [(e_x.g i hi).ac.ln]; exact l2_p0 i (by have h9 := e_x.n; (try simp only [sayT] at h9); omega))
    have mr_x := mkN_rng t_x.f 1 t_x.n ll_x t_x.n (Nat.le_refl _)
    go_wp2_with fail
    refine (markEffectS_any t_x 1 _ nn_x ll_x (by omega) (by omega) o_x).mono ?_
    rintro e y9_ ⟨rfl, ho, om_⟩
    have y_x : ¬ mkN t_x.f 1 t_x.n < 0 := by omega
    have z_x : decide (mkN t_x.f 1 t_x.n < 0) = false := by simp; omega
    replace hB := hB.trans (ho.below (fun k hk => Nat.le_trans p_x ((OwnTb.all o_x k hk).1)) hB.size)
    replace o_w := o_w.onlyS ho (fun k hk => fun h2 => a_w_x k h2 hk)
    replace o_g := o_g.onlyS ho (fun k hk => a_x_g k hk)
    clear ho om_ o_x
    go_wp2_with fail
    refine (eqEffectS_alike t_g t_w (sayT (exL p0.f a1 p0.n).length (exF (exL p0.f a1 p0.n) p0.f)) _ o_g o_w e_g e_w lF).mono ?_
    rintro e y10_ ⟨rfl, hb⟩
    replace o_w := o_w.grew hb
    replace o_g := o_g.grew hb
    replace hB := below_app hB hb hB.size
    clear hb
    have nn_g : t_g.n ≤ 1048577 := (by rw [e_g.n]; exact nN)
    have ll_g : ∀ i, i < t_g.n → (t_g.f i).ac.ln ≤ 1048577 := (fun i hi => by rw [(e_g.g i hi).ac.ln]; exact lF i (by have h9 := e_g.n; (try simp only [sayT] at h9); omega))
    have mr_g := mkN_rng t_g.f 1 t_g.n ll_g t_g.n (Nat.le_refl _)
    go_wp2_with fail
    refine (markEffectS_any t_g 1 _ nn_g ll_g (by omega) (by omega) o_g).mono ?_
    rintro e y11_ ⟨rfl, ho, om_⟩
    have y_g : ¬ mkN t_g.f 1 t_g.n < 0 := by omega
    have z_g : decide (mkN t_g.f 1 t_g.n < 0) = false := by simp; omega
    replace hB := hB.trans (ho.below (fun k hk => Nat.le_trans p_g ((OwnTb.all o_g k hk).1)) hB.size)
    replace o_w := o_w.onlyS ho (fun k hk => fun h2 => a_w_g k h2 hk)
    clear ho o_g
    have o_g := om_
    clear om_
    go_wp2_with fail
    refine (heldEffectS_any t_g 1 _ nn_g ll_g (by omega) (by omega) o_g).mono ?_
    rintro e y12_ ⟨rfl, hb⟩
    replace o_w := o_w.grew hb
    replace o_g := o_g.grew hb
    replace hB := below_app hB hb hB.size
    clear hb
    as_aux_lemma =>
      go_wp2_with fail
      refine (toEffectS_ans p0 _ (w0.grew hB) n_p0 l_p0).mono ?_
      rintro e y13_ ⟨t_y, rfl, hb, o_y, e_y⟩
      have a_w_y := apartT o_w o_y (Nat.le_refl _)
      have a_g_y := apartT o_g o_y (Nat.le_refl _)
      have p_y : w.heap.size ≤ y12_.heap.size := hB.size
      replace o_w := o_w.grew hb
      replace o_g := o_g.grew hb
      replace hB := below_app hB hb hB.size
      clear hb
      go_wp2_with fail
      refine (implExpire_al a1 o_y e_y w0 n_p0 l_p0).mono ?_
      rintro e y14_ ⟨t_h, rfl, hb, q_h⟩
      have o_h := q_h.1
      have e_h : AlikeT t_h (sayT (exL p0.f a1 p0.n).length (exF (exL p0.f a1 p0.n) p0.f)) := q_h.say
      clear q_h
      have a_w_h := apartT o_w o_h (Nat.le_refl _)
      have a_g_h := apartT o_g o_h (Nat.le_refl _)
      have a_y_h := apartT o_y o_h (Nat.le_refl _)
      have p_h : w.heap.size ≤ y13_.heap.size := hB.size
      replace o_w := o_w.grew hb
      replace o_g := o_g.grew hb
      replace o_y := o_y.grew hb
      replace hB := below_app hB hb hB.size
      clear hb
      clear o_y
      go_wp2_with fail
      refine (eqEffectS_alike t_h t_w (sayT (exL p0.f a1 p0.n).length (exF (exL p0.f a1 p0.n) p0.f)) _ o_h o_w e_h e_w lF).mono ?_
      rintro e y15_ ⟨rfl, hb⟩
      replace o_w := o_w.grew hb
      replace o_g := o_g.grew hb
      replace o_h := o_h.grew hb
      replace hB := below_app hB hb hB.size
      clear hb
      go_wp2_with fail
      refine (heldEffectS_any t_g 1 _ nn_g ll_g (by omega) (by omega) o_g).mono ?_
      rintro e y16_ ⟨rfl, hb⟩
      replace o_w := o_w.grew hb
      replace o_g := o_g.grew hb
      replace o_h := o_h.grew hb
      replace hB := below_app hB hb hB.size
      clear hb
      go_wp2
      go_ret
      exact ⟨rfl, hB⟩

set_option maxRecDepth 100000 in
theorem lifted (os : Os) (started : os.Started) (H : Type) (enc : TypeId × Value → H) :
    ReturnsInHanded {} Try.checked os 4 .any (Rows.fnExactExpireSpec.pre6 enc Try.prog Try.f4 Rows.fnExactExpireRow.domain false) (Rows.fnExactExpireSpec.post enc Try.prog Try.f4 false true false false) := by
  refine returnsInHanded_of_change (C := Try.checked) own started (by kernel_rfl) Try.func4
    (ChangeSpec.witness6 (enc := enc) (C := Try.checked) false ⟨#[], #[.slice none 0 0, .int .i64 0], []⟩ 8 (by kernel_rfl) (by kernel_rfl) (by kernel_rfl) (by kernel_rfl)) ?_
  intro W base args ds gs before hval0 hW hcnd _
  have hval : ∀ (j : Nat) t v, Try.f4.params[j]? = some t → args[j]? = some v → Value.okWide Try.prog W .any base t v := hval0
  have hW' := hW
  obtain ⟨p, q, hA0, hV, rfl, hfz, hnd⟩ := hW
  have hA : DataW.TrodAll enc Try.prog W 0 (fun _ => true) true Try.f4.params.toList args.toList ds p := hA0
  rw [Try.params4] at hA hval
  obtain ⟨v0, vs0, d0, ds0, p0', q0, hargs, rfl, rfl, h0, r0⟩ := trodAll_cons hA
  obtain ⟨v1, vs1, d1, ds1, p1', q1, rfl, rfl, rfl, h1, r1⟩ := trodAll_cons r0
  obtain ⟨rfl, rfl, rfl⟩ := trodAll_nil r1
  obtain rfl : args = #[v0, v1] := by cases args; simp_all
  obtain ⟨rfl, rfl⟩ := trodVars_none hV
  have k0 := h0
  have lt0 : ∀ x ∈ p0', x.block < W.heap.size := by obtain ⟨m, hm⟩ := k0; exact DataW.trod_lt m _ _ _ hm
  obtain ⟨p0, rfl, w0⟩ := open_effects (hval 0 22 v0 rfl rfl) h0
  obtain ⟨a1, rfl, rfl, rfl, w1⟩ := open_int Try.underlying3 (hval 1 3 v1 rfl rfl) h1
  clear hA0 hval0
  refine (walk p0 a1 W w0 w1).mono fun e W' ⟨he, bel⟩ => ?_
  subst he
  exact ⟨_, rfl, _, _, _, [], _, [], hW', trodAll_mk1 (shut_bool Try.underlying4 _), (trodAll_cons_mk (Below.trod laidOut (by kernel_rfl) (of_decide_eq_true (by kernel_rfl)) k0 bel lt0) (trodAll_cons_mk (shut_int Try.underlying3 w1) trodAll_mk0)), rfl, bel.frame _, fun h => by cases h⟩

theorem over : Rows.fnExactExpireRow.holds Try.pinned (OpenSpec.ofChange Rows.fnExactExpireSpec) :=
  OpenClaim.holds_of_wide 4 Try.f4 rfl rfl rfl rfl rfl rfl rfl ⟨rfl, rfl, rfl, rfl, rfl⟩ rfl rfl rfl rfl rfl (by kernel_rfl) Try.func4 (by kernel_rfl)
    (of_decide_eq_true (by kernel_rfl)) (by unfold Func.isWrapper; first | (rw [if_pos (by decide +kernel)]; kernel_rfl) | (rw [if_neg (by decide +kernel)]; exact ⟨rfl, rfl⟩))
    (fun os started H enc _ => lifted os started H enc)

theorem proved : Rows.FnExactExpireSaid := over
#print axioms proved
end Go.Proofs.Ytodfdfncdoliiau.fnExactExpire
