/-
  What is proved: at every list of effects and every effect, the law FnExactInstall answers true: the program's and the specification's answer alike, the answer lies in new memory, and the arguments read afterwards as before; no condition.
-/
import Derived.Test.YtodfdfncdoliiauGreatRows
import Derived.Test.YtodfdfncdoliiauGreatGCur2
import Derived.Test.YtodfdfncdoliiauGreatGRow2
import Derived.Test.YtodfdfncdoliiauGreatRowLaw
import Derived.Test.YtodfdfncdoliiauGreatGEvA3
import Derived.Test.YtodfdfncdoliiauGreatState1
import Derived.Test.YtodfdfncdoliiauGreatGState22
import Derived.Test.YtodfdfncdoliiauGreatGSeg2
import Derived.Test.YtodfdfncdoliiauGreatGRegBelow3
import Derived.Test.YtodfdfncdoliiauGreatState5
import Derived.Test.YtodfdfncdoliiauGreatGStMark3
import Derived.Test.YtodfdfncdoliiauGreatStHeld
import Derived.Test.YtodfdfncdoliiauGreatAcR
import Derived.Test.YtodfdfncdoliiauGreatAcA
import Derived.Test.YtodfdfncdoliiauGreatGPaA3
import Derived.Test.YtodfdfncdoliiauGreatEfB
import Derived.Test.YtodfdfncdoliiauGreatGEfC2
import Derived.Test.YtodfdfncdoliiauGreatGTaB2
import Derived.Test.YtodfdfncdoliiauGreatGEvW5
import Derived.Test.YtodfdfncdoliiauGreatAcD
import Derived.Test.YtodfdfncdoliiauGreatGPaB2
import Derived.Test.YtodfdfncdoliiauGreatEfD
import Derived.Test.YtodfdfncdoliiauGreatGBytes2
import Derived.Test.YtodfdfncdoliiauGreatGStAt3
import Derived.Test.YtodfdfncdoliiauGreatTaE
import Derived.Test.YtodfdfncdoliiauGreatGStNew2
import Derived.Test.YtodfdfncdoliiauGreatSpB
import Derived.Test.YtodfdfncdoliiauGreatGTaF3
import Derived.Test.YtodfdfncdoliiauGreatTaG
import Derived.Test.YtodfdfncdoliiauGreatGTaH2
import Derived.Test.YtodfdfncdoliiauGreatTaD
import Derived.Test.YtodfdfncdoliiauGreatTaJ
import Derived.Test.YtodfdfncdoliiauGreatMaA
import Derived.Test.YtodfdfncdoliiauGreatGMaB3
import Derived.Test.YtodfdfncdoliiauGreatTbA
import Derived.Test.YtodfdfncdoliiauGreatGTbS2
import Derived.Test.YtodfdfncdoliiauGreatTbB
import Derived.Test.YtodfdfncdoliiauGreatGTbL5
import Derived.Test.YtodfdfncdoliiauGreatPaC
import Derived.Test.YtodfdfncdoliiauGreatPaI
import Derived.Test.YtodfdfncdoliiauGreatGGuC2
import Derived.Test.YtodfdfncdoliiauGreatGStSame3
import Derived.Test.YtodfdfncdoliiauGreatGuE
import Derived.Test.YtodfdfncdoliiauGreatGStField2
import Derived.Test.YtodfdfncdoliiauGreatGEvC12
import Derived.Test.YtodfdfncdoliiauGreatEvC3
import Derived.Test.YtodfdfncdoliiauGreatEvD
import Derived.Test.YtodfdfncdoliiauGreatAcF
import Derived.Test.YtodfdfncdoliiauGreatGAcG4
import Derived.Test.YtodfdfncdoliiauGreatEfQ
import Derived.Test.YtodfdfncdoliiauGreatTbE
import Derived.Test.YtodfdfncdoliiauGreatGSpF3
import Derived.Test.YtodfdfncdoliiauGreatTbM
import Derived.Test.YtodfdfncdoliiauGreatTbN
import Derived.Test.YtodfdfncdoliiauGreatGTbK3
import Derived.WalkKit
import Derived.Deep.RegionHeld
import Derived.Deep.RegionHeldLaw
import Derived.Deep.MidRow
import Derived.ProofKit
import Derived.OpenShut
import Derived.ShutString
import Derived.ChangeOld
import Derived.Below
namespace Go.Proofs.YtodfdfncdoliiauGreat.fnExactInstall
open Go.ChangeShapes Go.WideShapes Go.ChangeAt Go.RowKit
set_option linter.unusedVariables false

theorem own : ownKnob Tryz.prog.godebug = none := by kernel_rfl
theorem laidOut : laidOutB Tryz.prog = true := by kernel_rfl

def IsRow (k : IntKind) (w : World) (a : Option Addr) (len cap : Nat) (zs : List Int) : Prop :=
  (a = none ∧ len = 0 ∧ cap = 0 ∧ zs = []) ∨
  ∃ x, a = some x ∧ len ≤ cap ∧ cap ≤ maxLen ∧ zs.length = cap ∧ (∀ i, i < zs.length → w.cell? (x.add i) = some (.int k (zs.getD i 0))) ∧ ∀ n ∈ zs, (Lit.int k n).wf = true

set_option maxHeartbeats 2000000 in
theorem BoxR.rangeE {w : World} {g t : Nat} {x : Ef} (h : BoxR w g t #[.int .i64 x.id, .int .i64 x.si, .int .i64 x.sr, .int .i64 x.cl, .int .i64 x.pt.kd, .int .i64 x.pt.wh, .int .i64 x.pt.sr, .int .i64 x.pt.tr, .int .i64 x.pt.pi, .int .i64 x.pt.le, .int .i64 x.pt.zo, .int .i64 x.gd.kd, .int .i64 x.gd.nn, .int .i64 x.ac.kd, .int .i64 x.ac.nn, .int .i64 x.ac.pi, .int .i64 x.ac.si, .int .i64 x.ac.zo, .bool x.ac.be, .slice x.ac.la x.ac.ln x.ac.lcap, .int .i64 x.un, .int .i64 x.le]) : w.rangeAt g 0 (efC x) := fun j v hv => by
  have hc := cell_of_row w g (0 + j) _ t (0, 0) h
  rw [hc, Nat.zero_add]
  show (efC x).toArray[j]? = some v
  rw [List.getElem?_toArray]
  exact hv
set_option linter.unusedSimpArgs false in
set_option maxRecDepth 100000 in
set_option maxHeartbeats 4000000 in
theorem walk (p0 : Tb) (p1 : Ef) (w : World) (w0 : p0.ok w) (w1 : p1.ok w) :
    Calls Tryz.prog 3 #[.slice p0.p p0.n p0.cap, .agg #[.int .i64 p1.id, .int .i64 p1.si, .int .i64 p1.sr, .int .i64 p1.cl, .int .i64 p1.pt.kd, .int .i64 p1.pt.wh, .int .i64 p1.pt.sr, .int .i64 p1.pt.tr, .int .i64 p1.pt.pi, .int .i64 p1.pt.le, .int .i64 p1.pt.zo, .int .i64 p1.gd.kd, .int .i64 p1.gd.nn, .int .i64 p1.ac.kd, .int .i64 p1.ac.nn, .int .i64 p1.ac.pi, .int .i64 p1.ac.si, .int .i64 p1.ac.zo, .bool p1.ac.be, .slice p1.ac.la p1.ac.ln p1.ac.lcap, .int .i64 p1.un, .int .i64 p1.le]] w fun e w' => e = .returned (.bool true) ∧ Below w.heap.size w w' := by
  have m_ : Tryz.prog.follows Departure.mixedOrders = true := by kernel_rfl
  have hB := below_new2'' w (.cells #[.int .i64 p1.id, .int .i64 p1.si, .int .i64 p1.sr, .int .i64 p1.cl, .int .i64 p1.pt.kd, .int .i64 p1.pt.wh, .int .i64 p1.pt.sr, .int .i64 p1.pt.tr, .int .i64 p1.pt.pi, .int .i64 p1.pt.le, .int .i64 p1.pt.zo, .int .i64 p1.gd.kd, .int .i64 p1.gd.nn, .int .i64 p1.ac.kd, .int .i64 p1.ac.nn, .int .i64 p1.ac.pi, .int .i64 p1.ac.si, .int .i64 p1.ac.zo, .bool p1.ac.be, .slice p1.ac.la p1.ac.ln p1.ac.lcap, .int .i64 p1.un, .int .i64 p1.le] 31)
  have b_c := boxR_new w 31 #[.int .i64 p1.id, .int .i64 p1.si, .int .i64 p1.sr, .int .i64 p1.cl, .int .i64 p1.pt.kd, .int .i64 p1.pt.wh, .int .i64 p1.pt.sr, .int .i64 p1.pt.tr, .int .i64 p1.pt.pi, .int .i64 p1.pt.le, .int .i64 p1.pt.zo, .int .i64 p1.gd.kd, .int .i64 p1.gd.nn, .int .i64 p1.ac.kd, .int .i64 p1.ac.nn, .int .i64 p1.ac.pi, .int .i64 p1.ac.si, .int .i64 p1.ac.zo, .bool p1.ac.be, .slice p1.ac.la p1.ac.ln p1.ac.lcap, .int .i64 p1.un, .int .i64 p1.le]
  generalize hW : w.alloc (.cells #[.int .i64 p1.id, .int .i64 p1.si, .int .i64 p1.sr, .int .i64 p1.cl, .int .i64 p1.pt.kd, .int .i64 p1.pt.wh, .int .i64 p1.pt.sr, .int .i64 p1.pt.tr, .int .i64 p1.pt.pi, .int .i64 p1.pt.le, .int .i64 p1.pt.zo, .int .i64 p1.gd.kd, .int .i64 p1.gd.nn, .int .i64 p1.ac.kd, .int .i64 p1.ac.nn, .int .i64 p1.ac.pi, .int .i64 p1.ac.si, .int .i64 p1.ac.zo, .bool p1.ac.be, .slice p1.ac.la p1.ac.ln p1.ac.lcap, .int .i64 p1.un, .int .i64 p1.le] 31) = W at hB b_c
  have hmx : p1.ac.ln ≤ 9223372036854775807 := by have := w1.1.1; have := w1.1.2.1; unfold maxLen at *; omega
  go_enter Tryz.func3, Tryz.ntmps3
  go_wp2_with fail
  refine (szEffectS_any p0 1048576 _ (w0.grew hB) (by omega)).mono ?_
  rintro e y1_ ⟨r0, rfl, hb, hr0⟩
  try clear hW
  replace b_c := b_c.grew hb
  replace hB := below_app hB hb hB.size
  clear hb
  rcases hr0 with rfl | ⟨r0a, r0b, n_p0, l_p0⟩
  · go_wp2
    go_ret
    exact ⟨rfl, hB⟩
  go_wp2_with (first | (refine wpList_load_row rfl 31 _ rfl (w.heap.size) (by rfl) _ _ _ _ b_c Tryz.underlying31 rfl (by kernel_rfl) ?_))
  refine (szEffect_any p1 r0 _ hmx ⟨r0a, r0b⟩).mono ?_
  rintro e y2_ ⟨rfl, hb⟩
  replace b_c := b_c.grew hb
  replace hB := below_app hB hb hB.size
  clear hb
  by_cases z : r0 - (p1.ac.ln : Int) < 0
  · have Z : Hid (szN p1.ac.ln r0 = -1) := by show szN p1.ac.ln r0 = -1; unfold szN; rw [if_pos z]
    rw [Z.out]
    go_wp2
    go_ret
    exact ⟨rfl, hB⟩
  have Z : Hid (szN p1.ac.ln r0 = r0 - (p1.ac.ln : Int)) := by show szN p1.ac.ln r0 = _; unfold szN; rw [if_neg z]
  have y0 : 0 ≤ r0 - (p1.ac.ln : Int) := by omega
  rw [Z.out]
  have n_p1 : p1.ac.ln ≤ 1048576 := by omega
  have n2_p1 : p1.ac.ln ≤ 1048577 := by omega
  clear z hmx
  have l2_p0 : ∀ i, i < p0.n → (p0.f i).ac.ln ≤ 1048577 := fun i hi => by have := l_p0 i hi; omega
  have nN : (inN p0.n p0.f p1) ≤ 1048577 := by unfold inN; split <;> omega
  have lF : ∀ i, i < (inN p0.n p0.f p1) → ((inF p0.n p0.f p1) i).ac.ln ≤ 1048577 := inF_ln l2_p0 n2_p1
  go_wp2_with fail
  have hq : Below y2_.heap.size y2_ y2_.drew := (Below.refl _ y2_).drew
  refine wp_region_held_drew (S := fun u : World => Below y2_.heap.size y2_ u) (by kernel_rfl) hq (fun hHeld => ?_)
  refine wpAnyH_take (i := 0) (oi := ⟨some 28, _, _, _, _, _⟩) (v := (.slice p0.p p0.n p0.cap)) rfl (by kernel_rfl) (by kernel_rfl) (by kernel_rfl) (fun _ _ _ h => h) (Or.inl ⟨by kernel_rfl, fun u hSu => by clear hSu; go_simp⟩) hHeld ?_
  try simp only [Act.put, List.setIfInBounds_toArray, List.set_cons_zero, List.set_cons_succ]
  refine wpAnyH_take (i := 2) (oi := ⟨some 30, _, _, _, _, _⟩) (v := .agg #[.int .i64 p1.id, .int .i64 p1.si, .int .i64 p1.sr, .int .i64 p1.cl, .int .i64 p1.pt.kd, .int .i64 p1.pt.wh, .int .i64 p1.pt.sr, .int .i64 p1.pt.tr, .int .i64 p1.pt.pi, .int .i64 p1.pt.le, .int .i64 p1.pt.zo, .int .i64 p1.gd.kd, .int .i64 p1.gd.nn, .int .i64 p1.ac.kd, .int .i64 p1.ac.nn, .int .i64 p1.ac.pi, .int .i64 p1.ac.si, .int .i64 p1.ac.zo, .bool p1.ac.be, .slice p1.ac.la p1.ac.ln p1.ac.lcap, .int .i64 p1.un, .int .i64 p1.le]) rfl (by kernel_rfl) (by kernel_rfl) (by kernel_rfl) (fun _ _ _ h => h) (yieldsIf_load_mid (by kernel_rfl) 31 (.tmp 3) rfl (w.heap.size) (0) (by rfl) [.int .i64 p1.id, .int .i64 p1.si, .int .i64 p1.sr, .int .i64 p1.cl, .int .i64 p1.pt.kd, .int .i64 p1.pt.wh, .int .i64 p1.pt.sr, .int .i64 p1.pt.tr, .int .i64 p1.pt.pi, .int .i64 p1.pt.le, .int .i64 p1.pt.zo, .int .i64 p1.gd.kd, .int .i64 p1.gd.nn, .int .i64 p1.ac.kd, .int .i64 p1.ac.nn, .int .i64 p1.ac.pi, .int .i64 p1.ac.si, .int .i64 p1.ac.zo, .bool p1.ac.be, .slice p1.ac.la p1.ac.ln p1.ac.lcap, .int .i64 p1.un, .int .i64 p1.le] _ (fun u hu => rangeAt_below (BoxR.rangeE (x := p1) b_c) hu) Tryz.underlying31 rfl (by kernel_rfl)) hHeld ?_
  try simp only [Act.put, List.setIfInBounds_toArray, List.set_cons_zero, List.set_cons_succ]
  refine wpAnyH_ready (rs := [1]) (by kernel_rfl) (by simp) ?_
  refine AllReadyH.cons rfl (fun K' hK => ?_) AllReadyH.nil
  go_simp
  go_at_call 7
  refine (toEffectS_ans p0 _ (w0.grew (below_app hB hq hB.size)) n_p0 l_p0).mono ?_
  rintro e z2_1 ⟨q1, rfl, hb, oq1, eq1⟩
  have hq' := below_app hq hb hq.size
  clear hq hb
  have hq := hq'
  clear hq'
  refine hK.out _ _ hq (fun hHeld => ?_)
  clear hK
  try simp only [Act.put, List.setIfInBounds_toArray, List.set_cons_zero, List.set_cons_succ]
  refine wpAnyH_ready (rs := [3]) (by kernel_rfl) (by simp) ?_
  refine AllReadyH.cons rfl (fun K' hK => ?_) AllReadyH.nil
  go_simp
  go_at_call 8
  refine (toEffect_ans p1 _ (ef_grew w1 (below_app hB hq hB.size)) n_p1).mono ?_
  rintro e z2_3 ⟨q2, rfl, hb, oq2, eq2⟩
  have hq' := below_app hq hb hq.size
  replace oq1 := oq1.grew hb
  clear hq hb
  have hq := hq'
  clear hq'
  refine hK.out _ _ hq (fun hHeld => ?_)
  clear hK
  try simp only [Act.put, List.setIfInBounds_toArray, List.set_cons_zero, List.set_cons_succ]
  refine wpAnyH_ready (rs := [4]) (by kernel_rfl) (by simp) ?_
  refine AllReadyH.cons rfl (fun K' hK => ?_) AllReadyH.nil
  go_simp
  go_at_call 6
  refine (specInstall_al oq1 eq1 w0 n_p0 l_p0 oq2 eq2 w1 n_p1).mono ?_
  rintro e z2_4 ⟨t_w, rfl, hb, q_w⟩
  have hq' := below_app hq hb hq.size
  have hs_ := hq.size
  clear hq hb
  have hq := hq'
  clear hq'
  refine hK.out _ _ hq (fun hHeld => ?_)
  clear hK
  try simp only [Act.put, List.setIfInBounds_toArray, List.set_cons_zero, List.set_cons_succ]
  refine wpAnyH_take (i := 5) (oi := ⟨some 27, _, _, _, _, _⟩) (v := .tuple #[(.slice t_w.p t_w.n t_w.cap), .bool (inOk p0.n p0.f p1)]) rfl (by kernel_rfl) (by kernel_rfl) (by kernel_rfl) (fun _ _ _ h => h) (Or.inl ⟨by kernel_rfl, fun u hSu => by clear hSu; go_simp⟩) hHeld ?_
  try simp only [Act.put, List.setIfInBounds_toArray, List.set_cons_zero, List.set_cons_succ]
  refine wpAnyH_take (i := 6) (oi := ⟨some 33, _, _, _, _, _⟩) (v := (.slice t_w.p t_w.n t_w.cap)) rfl (by kernel_rfl) (by kernel_rfl) (by kernel_rfl) (fun _ _ _ h => h) (Or.inl ⟨by kernel_rfl, fun u hSu => by clear hSu; go_simp⟩) hHeld ?_
  try simp only [Act.put, List.setIfInBounds_toArray, List.set_cons_zero, List.set_cons_succ]
  refine wpAnyH_take (i := 7) (oi := ⟨some 34, _, _, _, _, _⟩) (v := .bool (inOk p0.n p0.f p1)) rfl (by kernel_rfl) (by kernel_rfl) (by kernel_rfl) (fun _ _ _ h => h) (Or.inl ⟨by kernel_rfl, fun u hSu => by clear hSu; go_simp⟩) hHeld ?_
  try simp only [Act.put, List.setIfInBounds_toArray, List.set_cons_zero, List.set_cons_succ]
  refine wpAnyH_take (i := 8) (oi := ⟨some 6, _, _, _, _, _⟩) (v := (.slice t_w.p t_w.n t_w.cap)) rfl (by kernel_rfl) (by kernel_rfl) (by kernel_rfl) (fun _ _ _ h => h) (Or.inl ⟨by kernel_rfl, fun u hSu => by clear hSu; go_simp⟩) hHeld ?_
  try simp only [Act.put, List.setIfInBounds_toArray, List.set_cons_zero, List.set_cons_succ]
  refine wpAnyH_take (i := 9) (oi := ⟨some 7, _, _, _, _, _⟩) (v := .bool (inOk p0.n p0.f p1)) rfl (by kernel_rfl) (by kernel_rfl) (by kernel_rfl) (fun _ _ _ h => h) (Or.inl ⟨by kernel_rfl, fun u hSu => by clear hSu; go_simp⟩) hHeld ?_
  try simp only [Act.put, List.setIfInBounds_toArray, List.set_cons_zero, List.set_cons_succ]
  refine wpAnyH_done (by kernel_rfl) ?_ _
  clear hHeld
  have o_w := q_w.1
  have e_w : AlikeT t_w (sayT (inN p0.n p0.f p1) (inF p0.n p0.f p1)) := q_w.say
  clear q_w oq1 eq1 oq2 eq2
  have g_w_c := apartTB o_w (g := w.heap.size) (.inl (Nat.lt_of_lt_of_le b_c.lt hs_))
  have p_w := Nat.le_trans hB.size hs_
  have hb := hq
  clear hq hs_
  replace b_c := b_c.grew hb
  replace hB := below_app hB hb hB.size
  clear hb
  go_wp2_with fail
  refine (toEffectS_ans p0 _ (w0.grew hB) n_p0 l_p0).mono ?_
  rintro e y4_ ⟨t_x, rfl, hb, o_x, e_x⟩
  have a_w_x := apartT o_w o_x (Nat.le_refl _)
  have g_x_c := apartTB o_x (g := w.heap.size) (.inl (Nat.lt_of_lt_of_le b_c.lt (Nat.le_refl _)))
  have p_x : w.heap.size ≤ z2_4.heap.size := hB.size
  replace b_c := b_c.grew hb
  replace o_w := o_w.grew hb
  replace hB := below_app hB hb hB.size
  clear hb
  go_wp2_with (first | (refine wpList_load_row rfl 31 _ rfl (w.heap.size) (by rfl) _ _ _ _ b_c Tryz.underlying31 rfl (by kernel_rfl) ?_))
  refine (toEffect_ans p1 _ (ef_grew w1 hB) n_p1).mono ?_
  rintro e y5_ ⟨t_v, rfl, hb, o_v, e_v⟩
  have f_w_v := apartTF o_w o_v (Nat.le_refl _)
  have f_x_v := apartTF o_x o_v (Nat.le_refl _)
  have h_c_v : w.heap.size ≠ t_v.ac.lb := by have h1 := b_c.lt; have h2 := OwnF.lt o_v; omega
  have p_v : w.heap.size ≤ y4_.heap.size := hB.size
  replace b_c := b_c.grew hb
  replace o_w := o_w.grew hb
  replace o_x := o_x.grew hb
  replace hB := below_app hB hb hB.size
  clear hb
  have g_w_v := apartTB o_w (g := y5_.heap.size) (.inr (Nat.le_refl _))
  have g_x_v := apartTB o_x (g := y5_.heap.size) (.inr (Nat.le_refl _))
  have h_v_v : y5_.heap.size ≠ t_v.ac.lb := by have h2 := OwnF.lt o_v; omega
  have zx := boxR_new y5_ 44 #[.int .i64 0, .int .i64 0, .int .i64 0, .int .i64 0, .int .i64 0, .int .i64 0, .int .i64 0, .int .i64 0, .int .i64 0, .int .i64 0, .int .i64 0, .int .i64 0, .int .i64 0, .int .i64 0, .int .i64 0, .int .i64 0, .int .i64 0, .int .i64 0, .bool false, .slice none 0 0, .int .i64 0, .int .i64 0]
  have hb := below_setRow ((Below.refl _ y5_).alloc (Nat.le_refl _) (.cells #[.int .i64 0, .int .i64 0, .int .i64 0, .int .i64 0, .int .i64 0, .int .i64 0, .int .i64 0, .int .i64 0, .int .i64 0, .int .i64 0, .int .i64 0, .int .i64 0, .int .i64 0, .int .i64 0, .int .i64 0, .int .i64 0, .int .i64 0, .int .i64 0, .bool false, .slice none 0 0, .int .i64 0, .int .i64 0] 44)) (Nat.le_refl _) #[.int .i64 t_v.id, .int .i64 t_v.si, .int .i64 t_v.sr, .int .i64 t_v.cl, .int .i64 t_v.pt.kd, .int .i64 t_v.pt.wh, .int .i64 t_v.pt.sr, .int .i64 t_v.pt.tr, .int .i64 t_v.pt.pi, .int .i64 t_v.pt.le, .int .i64 t_v.pt.zo, .int .i64 t_v.gd.kd, .int .i64 t_v.gd.nn, .int .i64 t_v.ac.kd, .int .i64 t_v.ac.nn, .int .i64 t_v.ac.pi, .int .i64 t_v.ac.si, .int .i64 t_v.ac.zo, .bool t_v.ac.be, .slice t_v.ac.la t_v.ac.ln t_v.ac.lcap, .int .i64 t_v.un, .int .i64 t_v.le]
  have b_v : BoxR ((y5_.alloc (.cells #[.int .i64 0, .int .i64 0, .int .i64 0, .int .i64 0, .int .i64 0, .int .i64 0, .int .i64 0, .int .i64 0, .int .i64 0, .int .i64 0, .int .i64 0, .int .i64 0, .int .i64 0, .int .i64 0, .int .i64 0, .int .i64 0, .int .i64 0, .int .i64 0, .bool false, .slice none 0 0, .int .i64 0, .int .i64 0] 44)).setRow y5_.heap.size #[.int .i64 t_v.id, .int .i64 t_v.si, .int .i64 t_v.sr, .int .i64 t_v.cl, .int .i64 t_v.pt.kd, .int .i64 t_v.pt.wh, .int .i64 t_v.pt.sr, .int .i64 t_v.pt.tr, .int .i64 t_v.pt.pi, .int .i64 t_v.pt.le, .int .i64 t_v.pt.zo, .int .i64 t_v.gd.kd, .int .i64 t_v.gd.nn, .int .i64 t_v.ac.kd, .int .i64 t_v.ac.nn, .int .i64 t_v.ac.pi, .int .i64 t_v.ac.si, .int .i64 t_v.ac.zo, .bool t_v.ac.be, .slice t_v.ac.la t_v.ac.ln t_v.ac.lcap, .int .i64 t_v.un, .int .i64 t_v.le]) y5_.heap.size 44 #[.int .i64 t_v.id, .int .i64 t_v.si, .int .i64 t_v.sr, .int .i64 t_v.cl, .int .i64 t_v.pt.kd, .int .i64 t_v.pt.wh, .int .i64 t_v.pt.sr, .int .i64 t_v.pt.tr, .int .i64 t_v.pt.pi, .int .i64 t_v.pt.le, .int .i64 t_v.pt.zo, .int .i64 t_v.gd.kd, .int .i64 t_v.gd.nn, .int .i64 t_v.ac.kd, .int .i64 t_v.ac.nn, .int .i64 t_v.ac.pi, .int .i64 t_v.ac.si, .int .i64 t_v.ac.zo, .bool t_v.ac.be, .slice t_v.ac.la t_v.ac.ln t_v.ac.lcap, .int .i64 t_v.un, .int .i64 t_v.le] := setRow_heap _ _ _ _ _ _ zx
  generalize hVx : (y5_.alloc (.cells #[.int .i64 0, .int .i64 0, .int .i64 0, .int .i64 0, .int .i64 0, .int .i64 0, .int .i64 0, .int .i64 0, .int .i64 0, .int .i64 0, .int .i64 0, .int .i64 0, .int .i64 0, .int .i64 0, .int .i64 0, .int .i64 0, .int .i64 0, .int .i64 0, .bool false, .slice none 0 0, .int .i64 0, .int .i64 0] 44)).setRow y5_.heap.size #[.int .i64 t_v.id, .int .i64 t_v.si, .int .i64 t_v.sr, .int .i64 t_v.cl, .int .i64 t_v.pt.kd, .int .i64 t_v.pt.wh, .int .i64 t_v.pt.sr, .int .i64 t_v.pt.tr, .int .i64 t_v.pt.pi, .int .i64 t_v.pt.le, .int .i64 t_v.pt.zo, .int .i64 t_v.gd.kd, .int .i64 t_v.gd.nn, .int .i64 t_v.ac.kd, .int .i64 t_v.ac.nn, .int .i64 t_v.ac.pi, .int .i64 t_v.ac.si, .int .i64 t_v.ac.zo, .bool t_v.ac.be, .slice t_v.ac.la t_v.ac.ln t_v.ac.lcap, .int .i64 t_v.un, .int .i64 t_v.le] = y6_ at hb b_v
  replace o_v := OwnF.grew o_v hb
  replace b_c := b_c.grew hb
  replace o_w := o_w.grew hb
  replace o_x := o_x.grew hb
  replace hB := below_app hB hb hB.size
  clear hb
  go_wp2_with (first | (refine wpList_store_row rfl 44 (.tmp 9) _ rfl (y5_.heap.size) #[.int .i64 t_v.id, .int .i64 t_v.si, .int .i64 t_v.sr, .int .i64 t_v.cl, .int .i64 t_v.pt.kd, .int .i64 t_v.pt.wh, .int .i64 t_v.pt.sr, .int .i64 t_v.pt.tr, .int .i64 t_v.pt.pi, .int .i64 t_v.pt.le, .int .i64 t_v.pt.zo, .int .i64 t_v.gd.kd, .int .i64 t_v.gd.nn, .int .i64 t_v.ac.kd, .int .i64 t_v.ac.nn, .int .i64 t_v.ac.pi, .int .i64 t_v.ac.si, .int .i64 t_v.ac.zo, .bool t_v.ac.be, .slice t_v.ac.la t_v.ac.ln t_v.ac.lcap, .int .i64 t_v.un, .int .i64 t_v.le] (by rfl) (by rfl) _ _ zx (by kernel_rfl) (by rfl) (by simp [Value.oneCell']) ?_; rw [hVx]) | (refine wpList_load_row rfl 44 _ rfl (y5_.heap.size) (by rfl) _ _ _ _ b_v Tryz.underlying44 rfl (by kernel_rfl) ?_))
  refine (implInstall_al o_x e_x w0 n_p0 l_p0 o_v e_v w1 n_p1).mono ?_
  rintro e y7_ ⟨t_g, rfl, hb, q_g⟩
  clear zx hVx
  have o_g := q_g.1
  have e_g : AlikeT t_g (sayT (inN p0.n p0.f p1) (inF p0.n p0.f p1)) := q_g.say
  clear q_g
  have a_w_g := apartT o_w o_g (Nat.le_refl _)
  have a_x_g := apartT o_x o_g (Nat.le_refl _)
  have f_g_v := apartFT o_v o_g (Nat.le_refl _)
  have g_g_c := apartTB o_g (g := w.heap.size) (.inl (Nat.lt_of_lt_of_le b_c.lt (Nat.le_refl _)))
  have g_g_v := apartTB o_g (g := y5_.heap.size) (.inl (Nat.lt_of_lt_of_le b_v.lt (Nat.le_refl _)))
  have p_g : w.heap.size ≤ y6_.heap.size := hB.size
  replace o_v := OwnF.grew o_v hb
  replace b_c := b_c.grew hb
  replace b_v := b_v.grew hb
  replace o_w := o_w.grew hb
  replace o_x := o_x.grew hb
  replace hB := below_app hB hb hB.size
  clear hb
  go_wp2_with fail
  refine (eqEffectS_alike t_g t_w (sayT (inN p0.n p0.f p1) (inF p0.n p0.f p1)) _ o_g o_w e_g e_w lF).mono ?_
  rintro e y8_ ⟨rfl, hb⟩
  replace o_v := OwnF.grew o_v hb
  replace b_c := b_c.grew hb
  replace b_v := b_v.grew hb
  replace o_w := o_w.grew hb
  replace o_x := o_x.grew hb
  replace o_g := o_g.grew hb
  replace hB := below_app hB hb hB.size
  clear hb
  go_wp2_with fail
  refine (toEffectS_ans p0 _ (w0.grew hB) n_p0 l_p0).mono ?_
  rintro e y9_ ⟨t_c, rfl, hb, o_c, e_c⟩
  have a_w_c := apartT o_w o_c (Nat.le_refl _)
  have a_x_c := apartT o_x o_c (Nat.le_refl _)
  have a_g_c := apartT o_g o_c (Nat.le_refl _)
  have f_c_v := apartFT o_v o_c (Nat.le_refl _)
  have g_c_c := apartTB o_c (g := w.heap.size) (.inl (Nat.lt_of_lt_of_le b_c.lt (Nat.le_refl _)))
  have g_c_v := apartTB o_c (g := y5_.heap.size) (.inl (Nat.lt_of_lt_of_le b_v.lt (Nat.le_refl _)))
  have p_c : w.heap.size ≤ y8_.heap.size := hB.size
  replace o_v := OwnF.grew o_v hb
  replace b_c := b_c.grew hb
  replace b_v := b_v.grew hb
  replace o_w := o_w.grew hb
  replace o_x := o_x.grew hb
  replace o_g := o_g.grew hb
  replace hB := below_app hB hb hB.size
  clear hb
  go_wp2_with fail
  refine (eqEffectS_alike t_x t_c p0 _ o_x o_c e_x e_c l2_p0).mono ?_
  rintro e y10_ ⟨rfl, hb⟩
  replace o_v := OwnF.grew o_v hb
  replace b_c := b_c.grew hb
  replace b_v := b_v.grew hb
  replace o_w := o_w.grew hb
  replace o_x := o_x.grew hb
  replace o_g := o_g.grew hb
  replace o_c := o_c.grew hb
  replace hB := below_app hB hb hB.size
  clear hb
  clear o_c
  go_wp2_with fail
  have hq : Below y10_.heap.size y10_ y10_.drew := (Below.refl _ y10_).drew
  refine wp_region_held_drew (S := fun u : World => Below y10_.heap.size y10_ u) (by kernel_rfl) hq (fun hHeld => ?_)
  refine wpAnyH_take (i := 0) (oi := ⟨some 59, _, _, _, _, _⟩) (v := .agg #[.int .i64 t_v.id, .int .i64 t_v.si, .int .i64 t_v.sr, .int .i64 t_v.cl, .int .i64 t_v.pt.kd, .int .i64 t_v.pt.wh, .int .i64 t_v.pt.sr, .int .i64 t_v.pt.tr, .int .i64 t_v.pt.pi, .int .i64 t_v.pt.le, .int .i64 t_v.pt.zo, .int .i64 t_v.gd.kd, .int .i64 t_v.gd.nn, .int .i64 t_v.ac.kd, .int .i64 t_v.ac.nn, .int .i64 t_v.ac.pi, .int .i64 t_v.ac.si, .int .i64 t_v.ac.zo, .bool t_v.ac.be, .slice t_v.ac.la t_v.ac.ln t_v.ac.lcap, .int .i64 t_v.un, .int .i64 t_v.le]) rfl (by kernel_rfl) (by kernel_rfl) (by kernel_rfl) (fun _ _ _ h => h) (yieldsIf_load_mid (by kernel_rfl) 44 (.tmp 9) rfl (y5_.heap.size) (0) (by rfl) [.int .i64 t_v.id, .int .i64 t_v.si, .int .i64 t_v.sr, .int .i64 t_v.cl, .int .i64 t_v.pt.kd, .int .i64 t_v.pt.wh, .int .i64 t_v.pt.sr, .int .i64 t_v.pt.tr, .int .i64 t_v.pt.pi, .int .i64 t_v.pt.le, .int .i64 t_v.pt.zo, .int .i64 t_v.gd.kd, .int .i64 t_v.gd.nn, .int .i64 t_v.ac.kd, .int .i64 t_v.ac.nn, .int .i64 t_v.ac.pi, .int .i64 t_v.ac.si, .int .i64 t_v.ac.zo, .bool t_v.ac.be, .slice t_v.ac.la t_v.ac.ln t_v.ac.lcap, .int .i64 t_v.un, .int .i64 t_v.le] _ (fun u hu => rangeAt_below (BoxR.rangeE (x := t_v) b_v) hu) Tryz.underlying44 rfl (by kernel_rfl)) hHeld ?_
  try simp only [Act.put, List.setIfInBounds_toArray, List.set_cons_zero, List.set_cons_succ]
  refine wpAnyH_take (i := 1) (oi := ⟨some 60, _, _, _, _, _⟩) (v := .agg #[.int .i64 p1.id, .int .i64 p1.si, .int .i64 p1.sr, .int .i64 p1.cl, .int .i64 p1.pt.kd, .int .i64 p1.pt.wh, .int .i64 p1.pt.sr, .int .i64 p1.pt.tr, .int .i64 p1.pt.pi, .int .i64 p1.pt.le, .int .i64 p1.pt.zo, .int .i64 p1.gd.kd, .int .i64 p1.gd.nn, .int .i64 p1.ac.kd, .int .i64 p1.ac.nn, .int .i64 p1.ac.pi, .int .i64 p1.ac.si, .int .i64 p1.ac.zo, .bool p1.ac.be, .slice p1.ac.la p1.ac.ln p1.ac.lcap, .int .i64 p1.un, .int .i64 p1.le]) rfl (by kernel_rfl) (by kernel_rfl) (by kernel_rfl) (fun _ _ _ h => h) (yieldsIf_load_mid (by kernel_rfl) 31 (.tmp 3) rfl (w.heap.size) (0) (by rfl) [.int .i64 p1.id, .int .i64 p1.si, .int .i64 p1.sr, .int .i64 p1.cl, .int .i64 p1.pt.kd, .int .i64 p1.pt.wh, .int .i64 p1.pt.sr, .int .i64 p1.pt.tr, .int .i64 p1.pt.pi, .int .i64 p1.pt.le, .int .i64 p1.pt.zo, .int .i64 p1.gd.kd, .int .i64 p1.gd.nn, .int .i64 p1.ac.kd, .int .i64 p1.ac.nn, .int .i64 p1.ac.pi, .int .i64 p1.ac.si, .int .i64 p1.ac.zo, .bool p1.ac.be, .slice p1.ac.la p1.ac.ln p1.ac.lcap, .int .i64 p1.un, .int .i64 p1.le] _ (fun u hu => rangeAt_below (BoxR.rangeE (x := p1) b_c) hu) Tryz.underlying31 rfl (by kernel_rfl)) hHeld ?_
  try simp only [Act.put, List.setIfInBounds_toArray, List.set_cons_zero, List.set_cons_succ]
  refine wpAnyH_ready (rs := [2]) (by kernel_rfl) (by simp) ?_
  refine AllReadyH.cons rfl (fun K' hK => ?_) AllReadyH.nil
  go_simp
  go_at_call 8
  refine (toEffect_ans p1 _ (ef_grew w1 (below_app hB hq hB.size)) n_p1).mono ?_
  rintro e z10_2 ⟨q2, rfl, hb, oq2, eq2⟩
  have hq' := below_app hq hb hq.size
  clear hq hb
  have hq := hq'
  clear hq'
  refine hK.out _ _ hq (fun hHeld => ?_)
  clear hK
  try simp only [Act.put, List.setIfInBounds_toArray, List.set_cons_zero, List.set_cons_succ]
  refine wpAnyH_ready (rs := [3]) (by kernel_rfl) (by simp) ?_
  refine AllReadyH.cons rfl (fun K' hK => ?_) AllReadyH.nil
  go_simp
  go_at_call 11
  refine (eqEffect_alike t_v q2 p1 _ (OwnF.grew o_v hq) oq2 e_v eq2 n2_p1).mono ?_
  rintro e z10_3 ⟨rfl, hb⟩
  have hq' := below_app hq hb hq.size
  clear hq hb
  have hq := hq'
  clear hq'
  refine hK.out _ _ hq (fun hHeld => ?_)
  clear hK
  try simp only [Act.put, List.setIfInBounds_toArray, List.set_cons_zero, List.set_cons_succ]
  refine wpAnyH_take (i := 4) (oi := ⟨some 63, _, _, _, _, _⟩) (v := .bool false) rfl (by kernel_rfl) (by kernel_rfl) (by kernel_rfl) (fun _ _ _ h => h) (Or.inl ⟨by kernel_rfl, fun u hSu => by clear hSu; go_simp⟩) hHeld ?_
  try simp only [Act.put, List.setIfInBounds_toArray, List.set_cons_zero, List.set_cons_succ]
  refine wpAnyH_done (by kernel_rfl) ?_ _
  clear hHeld
  clear oq2 eq2
  have hb := hq
  clear hq
  replace o_v := OwnF.grew o_v hb
  replace b_c := b_c.grew hb
  replace b_v := b_v.grew hb
  replace o_w := o_w.grew hb
  replace o_x := o_x.grew hb
  replace o_g := o_g.grew hb
  replace hB := below_app hB hb hB.size
  clear hb
  have nn_x : t_x.n ≤ 1048577 := (by rw [e_x.n]; omega)
  have ll_x : ∀ i, i < t_x.n → (t_x.f i).ac.ln ≤ 1048577 := (fun i hi => by rw [(e_x.g i hi).ac.ln]; exact l2_p0 i (by have h9 := e_x.n; (try simp only [sayT] at h9); omega))
  have mr_x := mkN_rng t_x.f 1 t_x.n ll_x t_x.n (Nat.le_refl _)
  go_wp2_with fail
  refine (markEffectS_any t_x 1 _ nn_x ll_x (by omega) (by omega) o_x).mono ?_
  rintro e y12_ ⟨rfl, ho, om_⟩
  have y_x : ¬ mkN t_x.f 1 t_x.n < 0 := by omega
  have z_x : decide (mkN t_x.f 1 t_x.n < 0) = false := by simp; omega
  replace hB := hB.trans (ho.below (fun k hk => Nat.le_trans p_x ((OwnTb.all o_x k hk).1)) hB.size)
  replace o_w := o_w.onlyS ho (fun k hk => fun h2 => a_w_x k h2 hk)
  replace o_g := o_g.onlyS ho (fun k hk => a_x_g k hk)
  replace o_v := OwnF.onlyS o_v ho f_x_v
  replace b_c := OnlyS.box ho b_c g_x_c
  replace b_v := OnlyS.box ho b_v g_x_v
  clear ho o_x
  have o_x := om_
  clear om_
  clear o_x
  go_wp2_with (first | (refine wpList_load_row rfl 44 _ rfl (y5_.heap.size) (by rfl) _ _ _ _ b_v Tryz.underlying44 rfl (by kernel_rfl) ?_))
  refine (markEffect_any t_v (mkN t_x.f 1 t_x.n) _ (by rw [e_v.ac.ln]; exact n2_p1) (by omega) (by omega) o_v).mono ?_
  rintro e y13_ ⟨rfl, ho, om_⟩
  have hS := OnlyS.only (S := fun k => k = t_v.ac.lb) ho rfl
  clear ho om_
  have lnv : t_v.ac.ln ≤ 1048577 := by rw [e_v.ac.ln]; exact n2_p1
  have y_v : ¬ mkN t_x.f 1 t_x.n + 7 * (t_v.ac.ln : Int) < 0 := by omega
  have z_v : decide (mkN t_x.f 1 t_x.n + 7 * (t_v.ac.ln : Int) < 0) = false := by simp; omega
  replace hB := hB.trans (hS.below (fun k hk => by subst hk; exact Nat.le_trans p_v (OwnF.lt o_v).1) hB.size)
  replace o_w := o_w.onlyS hS (fun k hk => by subst hk; exact f_w_v)
  replace o_g := o_g.onlyS hS (fun k hk => by subst hk; exact f_g_v)
  replace b_c := OnlyS.box hS b_c h_c_v
  clear hS o_v b_v
  go_wp2_with fail
  refine (eqEffectS_alike t_g t_w (sayT (inN p0.n p0.f p1) (inF p0.n p0.f p1)) _ o_g o_w e_g e_w lF).mono ?_
  rintro e y14_ ⟨rfl, hb⟩
  replace b_c := b_c.grew hb
  replace o_w := o_w.grew hb
  replace o_g := o_g.grew hb
  replace hB := below_app hB hb hB.size
  clear hb
  have nn_g : t_g.n ≤ 1048577 := (by rw [e_g.n]; exact nN)
  have ll_g : ∀ i, i < t_g.n → (t_g.f i).ac.ln ≤ 1048577 := (fun i hi => by rw [(e_g.g i hi).ac.ln]; exact lF i (by have h9 := e_g.n; (try simp only [sayT] at h9); omega))
  have mr_g := mkN_rng t_g.f 1 t_g.n ll_g t_g.n (Nat.le_refl _)
  go_wp2_with fail
  refine (markEffectS_any t_g 1 _ nn_g ll_g (by omega) (by omega) o_g).mono ?_
  rintro e y15_ ⟨rfl, ho, om_⟩
  have y_g : ¬ mkN t_g.f 1 t_g.n < 0 := by omega
  have z_g : decide (mkN t_g.f 1 t_g.n < 0) = false := by simp; omega
  replace hB := hB.trans (ho.below (fun k hk => Nat.le_trans p_g ((OwnTb.all o_g k hk).1)) hB.size)
  replace o_w := o_w.onlyS ho (fun k hk => fun h2 => a_w_g k h2 hk)
  replace b_c := OnlyS.box ho b_c g_g_c
  clear ho o_g
  have o_g := om_
  clear om_
  go_wp2_with fail
  refine (heldEffectS_any t_g 1 _ nn_g ll_g (by omega) (by omega) o_g).mono ?_
  rintro e y16_ ⟨rfl, hb⟩
  replace b_c := b_c.grew hb
  replace o_w := o_w.grew hb
  replace o_g := o_g.grew hb
  replace hB := below_app hB hb hB.size
  clear hb
  go_wp2_with fail
  have hq : Below y16_.heap.size y16_ y16_.drew := (Below.refl _ y16_).drew
  refine wp_region_held_drew (S := fun u : World => Below y16_.heap.size y16_ u) (by kernel_rfl) hq (fun hHeld => ?_)
  refine wpAnyH_take (i := 0) (oi := ⟨some 95, _, _, _, _, _⟩) (v := (.slice p0.p p0.n p0.cap)) rfl (by kernel_rfl) (by kernel_rfl) (by kernel_rfl) (fun _ _ _ h => h) (Or.inl ⟨by kernel_rfl, fun u hSu => by clear hSu; go_simp⟩) hHeld ?_
  try simp only [Act.put, List.setIfInBounds_toArray, List.set_cons_zero, List.set_cons_succ]
  refine wpAnyH_take (i := 2) (oi := ⟨some 97, _, _, _, _, _⟩) (v := .agg #[.int .i64 p1.id, .int .i64 p1.si, .int .i64 p1.sr, .int .i64 p1.cl, .int .i64 p1.pt.kd, .int .i64 p1.pt.wh, .int .i64 p1.pt.sr, .int .i64 p1.pt.tr, .int .i64 p1.pt.pi, .int .i64 p1.pt.le, .int .i64 p1.pt.zo, .int .i64 p1.gd.kd, .int .i64 p1.gd.nn, .int .i64 p1.ac.kd, .int .i64 p1.ac.nn, .int .i64 p1.ac.pi, .int .i64 p1.ac.si, .int .i64 p1.ac.zo, .bool p1.ac.be, .slice p1.ac.la p1.ac.ln p1.ac.lcap, .int .i64 p1.un, .int .i64 p1.le]) rfl (by kernel_rfl) (by kernel_rfl) (by kernel_rfl) (fun _ _ _ h => h) (yieldsIf_load_mid (by kernel_rfl) 31 (.tmp 3) rfl (w.heap.size) (0) (by rfl) [.int .i64 p1.id, .int .i64 p1.si, .int .i64 p1.sr, .int .i64 p1.cl, .int .i64 p1.pt.kd, .int .i64 p1.pt.wh, .int .i64 p1.pt.sr, .int .i64 p1.pt.tr, .int .i64 p1.pt.pi, .int .i64 p1.pt.le, .int .i64 p1.pt.zo, .int .i64 p1.gd.kd, .int .i64 p1.gd.nn, .int .i64 p1.ac.kd, .int .i64 p1.ac.nn, .int .i64 p1.ac.pi, .int .i64 p1.ac.si, .int .i64 p1.ac.zo, .bool p1.ac.be, .slice p1.ac.la p1.ac.ln p1.ac.lcap, .int .i64 p1.un, .int .i64 p1.le] _ (fun u hu => rangeAt_below (BoxR.rangeE (x := p1) b_c) hu) Tryz.underlying31 rfl (by kernel_rfl)) hHeld ?_
  try simp only [Act.put, List.setIfInBounds_toArray, List.set_cons_zero, List.set_cons_succ]
  refine wpAnyH_ready (rs := [1]) (by kernel_rfl) (by simp) ?_
  refine AllReadyH.cons rfl (fun K' hK => ?_) AllReadyH.nil
  go_simp
  go_at_call 7
  refine (toEffectS_ans p0 _ (w0.grew (below_app hB hq hB.size)) n_p0 l_p0).mono ?_
  rintro e z16_1 ⟨q1, rfl, hb, oq1, eq1⟩
  have hq' := below_app hq hb hq.size
  clear hq hb
  have hq := hq'
  clear hq'
  refine hK.out _ _ hq (fun hHeld => ?_)
  clear hK
  try simp only [Act.put, List.setIfInBounds_toArray, List.set_cons_zero, List.set_cons_succ]
  refine wpAnyH_ready (rs := [3]) (by kernel_rfl) (by simp) ?_
  refine AllReadyH.cons rfl (fun K' hK => ?_) AllReadyH.nil
  go_simp
  go_at_call 8
  refine (toEffect_ans p1 _ (ef_grew w1 (below_app hB hq hB.size)) n_p1).mono ?_
  rintro e z16_3 ⟨q2, rfl, hb, oq2, eq2⟩
  have hq' := below_app hq hb hq.size
  replace oq1 := oq1.grew hb
  clear hq hb
  have hq := hq'
  clear hq'
  refine hK.out _ _ hq (fun hHeld => ?_)
  clear hK
  try simp only [Act.put, List.setIfInBounds_toArray, List.set_cons_zero, List.set_cons_succ]
  refine wpAnyH_ready (rs := [4]) (by kernel_rfl) (by simp) ?_
  refine AllReadyH.cons rfl (fun K' hK => ?_) AllReadyH.nil
  go_simp
  go_at_call 9
  refine (implInstall_al oq1 eq1 w0 n_p0 l_p0 oq2 eq2 w1 n_p1).mono ?_
  rintro e z16_4 ⟨t_h, rfl, hb, q_h⟩
  have hq' := below_app hq hb hq.size
  have hs_ := hq.size
  clear hq hb
  have hq := hq'
  clear hq'
  refine hK.out _ _ hq (fun hHeld => ?_)
  clear hK
  try simp only [Act.put, List.setIfInBounds_toArray, List.set_cons_zero, List.set_cons_succ]
  refine wpAnyH_take (i := 5) (oi := ⟨some 94, _, _, _, _, _⟩) (v := .tuple #[(.slice t_h.p t_h.n t_h.cap), .bool (inOk p0.n p0.f p1)]) rfl (by kernel_rfl) (by kernel_rfl) (by kernel_rfl) (fun _ _ _ h => h) (Or.inl ⟨by kernel_rfl, fun u hSu => by clear hSu; go_simp⟩) hHeld ?_
  try simp only [Act.put, List.setIfInBounds_toArray, List.set_cons_zero, List.set_cons_succ]
  refine wpAnyH_take (i := 6) (oi := ⟨some 100, _, _, _, _, _⟩) (v := (.slice t_h.p t_h.n t_h.cap)) rfl (by kernel_rfl) (by kernel_rfl) (by kernel_rfl) (fun _ _ _ h => h) (Or.inl ⟨by kernel_rfl, fun u hSu => by clear hSu; go_simp⟩) hHeld ?_
  try simp only [Act.put, List.setIfInBounds_toArray, List.set_cons_zero, List.set_cons_succ]
  refine wpAnyH_take (i := 7) (oi := ⟨some 101, _, _, _, _, _⟩) (v := .bool (inOk p0.n p0.f p1)) rfl (by kernel_rfl) (by kernel_rfl) (by kernel_rfl) (fun _ _ _ h => h) (Or.inl ⟨by kernel_rfl, fun u hSu => by clear hSu; go_simp⟩) hHeld ?_
  try simp only [Act.put, List.setIfInBounds_toArray, List.set_cons_zero, List.set_cons_succ]
  refine wpAnyH_take (i := 8) (oi := ⟨some 15, _, _, _, _, _⟩) (v := (.slice t_h.p t_h.n t_h.cap)) rfl (by kernel_rfl) (by kernel_rfl) (by kernel_rfl) (fun _ _ _ h => h) (Or.inl ⟨by kernel_rfl, fun u hSu => by clear hSu; go_simp⟩) hHeld ?_
  try simp only [Act.put, List.setIfInBounds_toArray, List.set_cons_zero, List.set_cons_succ]
  refine wpAnyH_take (i := 9) (oi := ⟨some 16, _, _, _, _, _⟩) (v := .bool (inOk p0.n p0.f p1)) rfl (by kernel_rfl) (by kernel_rfl) (by kernel_rfl) (fun _ _ _ h => h) (Or.inl ⟨by kernel_rfl, fun u hSu => by clear hSu; go_simp⟩) hHeld ?_
  try simp only [Act.put, List.setIfInBounds_toArray, List.set_cons_zero, List.set_cons_succ]
  refine wpAnyH_done (by kernel_rfl) ?_ _
  clear hHeld
  have o_h := q_h.1
  have e_h : AlikeT t_h (sayT (inN p0.n p0.f p1) (inF p0.n p0.f p1)) := q_h.say
  clear q_h oq1 eq1 oq2 eq2
  have a_w_h := apartT o_w o_h hs_
  have a_g_h := apartT o_g o_h hs_
  have g_h_c := apartTB o_h (g := w.heap.size) (.inl (Nat.lt_of_lt_of_le b_c.lt hs_))
  have p_h := Nat.le_trans hB.size hs_
  have hb := hq
  clear hq hs_
  replace b_c := b_c.grew hb
  replace o_w := o_w.grew hb
  replace o_g := o_g.grew hb
  replace hB := below_app hB hb hB.size
  clear hb
  go_wp2_with fail
  refine (eqEffectS_alike t_h t_w (sayT (inN p0.n p0.f p1) (inF p0.n p0.f p1)) _ o_h o_w e_h e_w lF).mono ?_
  rintro e y18_ ⟨rfl, hb⟩
  replace b_c := b_c.grew hb
  replace o_w := o_w.grew hb
  replace o_g := o_g.grew hb
  replace o_h := o_h.grew hb
  replace hB := below_app hB hb hB.size
  clear hb
  go_wp2_with fail
  refine (heldEffectS_any t_g 1 _ nn_g ll_g (by omega) (by omega) o_g).mono ?_
  rintro e y19_ ⟨rfl, hb⟩
  replace b_c := b_c.grew hb
  replace o_w := o_w.grew hb
  replace o_g := o_g.grew hb
  replace o_h := o_h.grew hb
  replace hB := below_app hB hb hB.size
  clear hb
  go_wp2
  go_ret
  exact ⟨rfl, hB⟩

set_option maxRecDepth 100000 in
theorem lifted (os : Os) (started : os.Started) (H : Type) (enc : TypeId × Value → H) :
    ReturnsInHanded {} Tryz.checked os 3 .any (Rows.fnExactInstallSpec.pre6 enc Tryz.prog Tryz.f3 Rows.fnExactInstallRow.domain false) (Rows.fnExactInstallSpec.post enc Tryz.prog Tryz.f3 false true false false) := by
  refine returnsInHanded_of_change (C := Tryz.checked) own started (by kernel_rfl) Tryz.func3
    (ChangeSpec.witness6 (enc := enc) (C := Tryz.checked) false ⟨#[], #[.slice none 0 0, .agg #[.int .i64 0, .int .i64 0, .int .i64 0, .int .i64 0, .int .i64 0, .int .i64 0, .int .i64 0, .int .i64 0, .int .i64 0, .int .i64 0, .int .i64 0, .int .i64 0, .int .i64 0, .int .i64 0, .int .i64 0, .int .i64 0, .int .i64 0, .int .i64 0, .bool false, .slice none 0 0, .int .i64 0, .int .i64 0]], []⟩ 8 (by kernel_rfl) (by kernel_rfl) (by kernel_rfl) (by kernel_rfl)) ?_
  intro W base args ds gs before hval0 hW hcnd _
  have hval : ∀ (j : Nat) t v, Tryz.f3.params[j]? = some t → args[j]? = some v → Value.okWide Tryz.prog W .any base t v := hval0
  have hW' := hW
  obtain ⟨p, q, hA0, hV, rfl, hfz, hnd⟩ := hW
  have hA : DataW.TrodAll enc Tryz.prog W 0 (fun _ => true) true Tryz.f3.params.toList args.toList ds p := hA0
  rw [Tryz.params3] at hA hval
  obtain ⟨v0, vs0, d0, ds0, p0', q0, hargs, rfl, rfl, h0, r0⟩ := trodAll_cons hA
  obtain ⟨v1, vs1, d1, ds1, p1', q1, rfl, rfl, rfl, h1, r1⟩ := trodAll_cons r0
  obtain ⟨rfl, rfl, rfl⟩ := trodAll_nil r1
  obtain rfl : args = #[v0, v1] := by cases args; simp_all
  obtain ⟨rfl, rfl⟩ := trodVars_none hV
  have k0 := h0
  have lt0 : ∀ x ∈ p0', x.block < W.heap.size := by obtain ⟨m, hm⟩ := k0; exact DataW.trod_lt m _ _ _ hm
  obtain ⟨p0, rfl, w0⟩ := open_effects (hval 0 22 v0 rfl rfl) h0
  have k1 := h1
  have lt1 : ∀ x ∈ p1', x.block < W.heap.size := by obtain ⟨m, hm⟩ := k1; exact DataW.trod_lt m _ _ _ hm
  obtain ⟨p1, rfl, w1⟩ := open_effect (hval 1 31 v1 rfl rfl) h1
  clear hA0 hval0
  refine (walk p0 p1 W w0 w1).mono fun e W' ⟨he, bel⟩ => ?_
  subst he
  exact ⟨_, rfl, _, _, _, [], _, [], hW', trodAll_mk1 (shut_bool Tryz.underlying4 _), (trodAll_cons_mk (Below.trod laidOut (by kernel_rfl) (of_decide_eq_true (by kernel_rfl)) k0 bel lt0) (trodAll_cons_mk (Below.trod laidOut (by kernel_rfl) (of_decide_eq_true (by kernel_rfl)) k1 bel lt1) trodAll_mk0)), rfl, bel.frame _, fun h => by cases h⟩

theorem over : Rows.fnExactInstallRow.holds Tryz.pinned (OpenSpec.ofChange Rows.fnExactInstallSpec) :=
  OpenClaim.holds_of_wide 3 Tryz.f3 rfl rfl rfl rfl rfl rfl rfl ⟨rfl, rfl, rfl, rfl, rfl⟩ rfl rfl rfl rfl rfl (by kernel_rfl) Tryz.func3 (by kernel_rfl)
    (of_decide_eq_true (by kernel_rfl)) (by unfold Func.isWrapper; first | (rw [if_pos (by decide +kernel)]; kernel_rfl) | (rw [if_neg (by decide +kernel)]; exact ⟨rfl, rfl⟩))
    (fun os started H enc _ => lifted os started H enc)

theorem proved : Rows.FnExactInstallSaid := over
#print axioms proved
end Go.Proofs.YtodfdfncdoliiauGreat.fnExactInstall
