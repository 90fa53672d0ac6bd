/-
  What is proved: at every state, the law FnExactStateOk answers true: the program's and the specification's answer alike, and the arguments read afterwards as before; no condition.
-/
import Derived.Test.YtnlnledijpcjpaoRows
import Derived.Test.YtnlnledijpcjpaoCur
import Derived.Test.YtnlnledijpcjpaoPiece
import Derived.Test.YtnlnledijpcjpaoRow
import Derived.Test.YtnlnledijpcjpaoPiece2
import Derived.Test.YtnlnledijpcjpaoState1
import Derived.Test.YtnlnledijpcjpaoRowLaw
import Derived.Test.YtnlnledijpcjpaoState2
import Derived.Test.YtnlnledijpcjpaoState3
import Derived.Test.YtnlnledijpcjpaoSeg
import Derived.Test.YtnlnledijpcjpaoRegTail
import Derived.Test.YtnlnledijpcjpaoRegBelow
import Derived.Test.YtnlnledijpcjpaoNum
import Derived.Test.YtnlnledijpcjpaoPiece3
import Derived.Test.YtnlnledijpcjpaoState4
import Derived.Test.YtnlnledijpcjpaoState5
import Derived.Test.YtnlnledijpcjpaoStMark
import Derived.Test.YtnlnledijpcjpaoPieceOk
import Derived.Test.YtnlnledijpcjpaoState6
import Derived.Test.YtnlnledijpcjpaoStHeld
import Derived.Test.YtnlnledijpcjpaoStEq
import Derived.Test.YtnlnledijpcjpaoStSame
import Derived.Test.YtnlnledijpcjpaoRegCut
import Derived.Test.YtnlnledijpcjpaoStLaw
import Derived.Test.YtnlnledijpcjpaoState7
import Derived.Test.YtnlnledijpcjpaoBytes
import Derived.Test.YtnlnledijpcjpaoState8
import Derived.Test.YtnlnledijpcjpaoStAt
import Derived.Test.YtnlnledijpcjpaoPieceI1
import Derived.Test.YtnlnledijpcjpaoPieceI2
import Derived.Test.YtnlnledijpcjpaoPieceOkI
import Derived.Test.YtnlnledijpcjpaoStOkA
import Derived.Test.YtnlnledijpcjpaoStOkB
import Derived.Test.YtnlnledijpcjpaoStHas
import Derived.Test.YtnlnledijpcjpaoStOkI
import Derived.Test.YtnlnledijpcjpaoStSameS
import Derived.Test.YtnlnledijpcjpaoStSameI
import Derived.Test.YtnlnledijpcjpaoStNew
import Derived.Test.YtnlnledijpcjpaoStField
import Derived.Test.YtnlnledijpcjpaoStLawI
import Derived.WalkKit
import Derived.ProofKit
import Derived.OpenShut
import Derived.ShutString
import Derived.ChangeOld
import Derived.Below
namespace Go.Proofs.Ytnlnledijpcjpao.fnExactStateOk
open Go.ChangeShapes Go.WideShapes Go.ChangeAt Go.RowKit
set_option linter.unusedVariables false

theorem own : ownKnob Try.prog.godebug = none := by kernel_rfl
theorem laidOut : laidOutB Try.prog = true := by kernel_rfl

def IsRow (k : IntKind) (w : World) (a : Option Addr) (len cap : Nat) (zs : List Int) : Prop :=
  (a = none ∧ len = 0 ∧ cap = 0 ∧ zs = []) ∨
  ∃ x, a = some x ∧ len ≤ cap ∧ cap ≤ maxLen ∧ zs.length = cap ∧ (∀ i, i < zs.length → w.cell? (x.add i) = some (.int k (zs.getD i 0))) ∧ ∀ n ∈ zs, (Lit.int k n).wf = true

set_option maxHeartbeats 2000000 in
set_option maxHeartbeats 4000000 in
theorem walk (p0 : Stt) (w : World) (w0 : p0.ok w) :
    Calls Try.prog 3 #[.agg #[.slice p0.pa p0.pn p0.pcap, .slice p0.sa p0.sn p0.scap, .int .i64 p0.ac, .int .i64 p0.cl]] w fun e w' => e = .returned (.bool true) ∧ Below w.heap.size w w' := by
  have m_ : Try.prog.follows Departure.mixedOrders = true := by kernel_rfl
  have hBw := (Below.refl _ w).alloc (by exact Nat.le_refl _) (.cells #[.slice p0.pa p0.pn p0.pcap, .slice p0.sa p0.sn p0.scap, .int .i64 p0.ac, .int .i64 p0.cl] 25)
  have b_p0 := boxR_new w 25 #[.slice p0.pa p0.pn p0.pcap, .slice p0.sa p0.sn p0.scap, .int .i64 p0.ac, .int .i64 p0.cl]
  generalize hW : w.alloc (.cells #[.slice p0.pa p0.pn p0.pcap, .slice p0.sa p0.sn p0.scap, .int .i64 p0.ac, .int .i64 p0.cl] 25) = W at hBw b_p0
  have hsz : w.heap.size ≤ W.heap.size := hBw.size
  have k_p0 := stt_grew w0 hBw
  have l_p0 := b_p0.lt
  have hB := Below.refl W.heap.size W
  by_cases z0 : (1048576 : Int) - (p0.pn : Int) - (p0.sn : Int) < 0
  · have Z0 : Hid (szS p0.pn p0.sn (1048576 : Int) = -1) := szS_no z0
    go_enter Try.func3, Try.ntmps3
    have c_p0_0 := b_p0.cell 0
    have c_p0_1 := b_p0.cell 1
    have c_p0_2 := b_p0.cell 2
    have c_p0_3 := b_p0.cell 3
    simp at c_p0_0 c_p0_1 c_p0_2 c_p0_3
    go_wp2_with fail
    refine (szState_any p0 (1048576 : Int) _ (by have := k_p0.1; have := k_p0.2.1; unfold maxLen at *; omega) (by have := k_p0.2.2.2.1; have := k_p0.2.2.2.2.1; unfold maxLen at *; omega) (by omega)).mono ?_
    rintro e y1_ ⟨rfl, hb⟩
    clear c_p0_0 c_p0_1 c_p0_2 c_p0_3
    try clear hW
    replace b_p0 := b_p0.grew hb
    replace hB := below_app hB hb hB.size
    clear hb
    rw [Z0.out]
    go_wp2
    go_ret
    exact ⟨rfl, below_app hBw hB hsz⟩
  have n_p0 : p0.pn ≤ 1048576 := by omega
  have n2_p0 : p0.sn ≤ 1048576 := by omega
  have Y0 : Hid (szS p0.pn p0.sn (1048576 : Int) = (1048576 : Int) - p0.pn - p0.sn) := szS_le z0
  have y0 : 0 ≤ (1048576 : Int) - p0.pn - p0.sn := by omega
  go_enter Try.func3, Try.ntmps3
  have c_p0_0 := b_p0.cell 0
  have c_p0_1 := b_p0.cell 1
  have c_p0_2 := b_p0.cell 2
  have c_p0_3 := b_p0.cell 3
  simp at c_p0_0 c_p0_1 c_p0_2 c_p0_3
  go_wp2_with fail
  refine (szState_any p0 (1048576 : Int) _ (by omega) (by omega) (by omega)).mono ?_
  rintro e y1_ ⟨rfl, hb⟩
  clear c_p0_0 c_p0_1 c_p0_2 c_p0_3
  try clear hW
  replace b_p0 := b_p0.grew hb
  replace hB := below_app hB hb hB.size
  clear hb
  rw [Y0.out]
  have c_p0_0 := b_p0.cell 0
  have c_p0_1 := b_p0.cell 1
  have c_p0_2 := b_p0.cell 2
  have c_p0_3 := b_p0.cell 3
  simp at c_p0_0 c_p0_1 c_p0_2 c_p0_3
  go_wp2_with fail
  refine (toState_ans p0 _ (stt_grew k_p0 hB) n_p0 n2_p0).mono ?_
  rintro e y2_ ⟨t_y, rfl, hb, o_y, e_y⟩
  clear c_p0_0 c_p0_1 c_p0_2 c_p0_3
  have d_p0_y := away_old o_y b_p0.lt
  have f_y : W.heap.size ≤ y1_.heap.size := hB.size
  replace b_p0 := b_p0.grew hb
  replace hB := below_app hB hb hB.size
  clear hb
  go_wp2_with fail
  refine (specStateOk_al o_y e_y k_p0 n_p0 n2_p0).mono ?_
  rintro e y3_ ⟨rfl, hb⟩
  replace o_y := o_y.grew hb
  replace b_p0 := b_p0.grew hb
  replace hB := below_app hB hb hB.size
  clear hb
  clear o_y
  have c_p0_0 := b_p0.cell 0
  have c_p0_1 := b_p0.cell 1
  have c_p0_2 := b_p0.cell 2
  have c_p0_3 := b_p0.cell 3
  simp at c_p0_0 c_p0_1 c_p0_2 c_p0_3
  go_wp2_with fail
  refine (toState_ans p0 _ (stt_grew k_p0 hB) n_p0 n2_p0).mono ?_
  rintro e y4_ ⟨t_x, rfl, hb, o_x, e_x⟩
  clear c_p0_0 c_p0_1 c_p0_2 c_p0_3
  have d_p0_x := away_old o_x b_p0.lt
  have f_x : W.heap.size ≤ y3_.heap.size := hB.size
  replace b_p0 := b_p0.grew hb
  replace hB := below_app hB hb hB.size
  clear hb
  have hb := (Below.refl _ y4_).alloc (Nat.le_refl _) (.cells #[.slice t_x.pa t_x.pn t_x.pcap, .slice t_x.sa t_x.sn t_x.scap, .int .i64 t_x.ac, .int .i64 t_x.cl] 31)
  have b_x := boxR_new y4_ 31 #[.slice t_x.pa t_x.pn t_x.pcap, .slice t_x.sa t_x.sn t_x.scap, .int .i64 t_x.ac, .int .i64 t_x.cl]
  have d_x_x := away_new o_x (Nat.le_refl y4_.heap.size)
  generalize hVx : y4_.alloc (.cells #[.slice t_x.pa t_x.pn t_x.pcap, .slice t_x.sa t_x.sn t_x.scap, .int .i64 t_x.ac, .int .i64 t_x.cl] 31) = y5_ at hb b_x
  replace o_x := o_x.grew hb
  replace b_p0 := b_p0.grew hb
  replace hB := below_app hB hb hB.size
  clear hb
  have c_x_0 := b_x.cell 0
  have c_x_1 := b_x.cell 1
  have c_x_2 := b_x.cell 2
  have c_x_3 := b_x.cell 3
  simp at c_x_0 c_x_1 c_x_2 c_x_3
  go_wp2_with fail
  refine (implStateOk_al o_x e_x k_p0 n_p0 n2_p0).mono ?_
  rintro e y6_ ⟨rfl, hb⟩
  clear c_x_0 c_x_1 c_x_2 c_x_3
  replace o_x := o_x.grew hb
  replace b_p0 := b_p0.grew hb
  replace b_x := b_x.grew hb
  replace hB := below_app hB hb hB.size
  clear hb
  go_wp2_with fail
  refine wp_cutT (fun t : Stt => [(22, (.agg #[.slice t_x.pa t_x.pn t_x.pcap, .slice t_x.sa t_x.sn t_x.scap, .int .i64 t_x.ac, .int .i64 t_x.cl])), (23, (.agg #[.slice p0.pa p0.pn p0.pcap, .slice p0.sa p0.sn p0.scap, .int .i64 p0.ac, .int .i64 p0.cl])), (24, (.agg #[.slice t.pa t.pn t.pcap, .slice t.sa t.sn t.scap, .int .i64 t.ac, .int .i64 t.cl])), (25, .bool true), (26, .bool false)]) (fun _ u => Below y6_.heap.size y6_ u) ?_ ?_
  · have tb : Calls Try.prog 11 #[(.agg #[.slice p0.pa p0.pn p0.pcap, .slice p0.sa p0.sn p0.scap, .int .i64 p0.ac, .int .i64 p0.cl])] y6_.drew fun e v => ∃ t : Stt, e = .returned (.agg #[.slice t.pa t.pn t.pcap, .slice t.sa t.sn t.scap, .int .i64 t.ac, .int .i64 t.cl]) ∧ Below y6_.heap.size y6_ v ∧ OwnT v y6_.heap.size t ∧ Alike t p0 ∧ OwnT v y3_.heap.size t_x ∧ v.cell? ⟨y4_.heap.size, 0, none⟩ = some (.slice t_x.pa t_x.pn t_x.pcap) ∧ v.cell? ⟨y4_.heap.size, 1, none⟩ = some (.slice t_x.sa t_x.sn t_x.scap) ∧ v.cell? ⟨y4_.heap.size, 2, none⟩ = some (.int .i64 t_x.ac) ∧ v.cell? ⟨y4_.heap.size, 3, none⟩ = some (.int .i64 t_x.cl) := (toState_ans p0 y6_.drew (show p0.ok y6_.drew from stt_grew k_p0 hB.drew) n_p0 n2_p0).mono (by rintro e v ⟨t, h1, h2, h3, h4⟩; have h5 : Below y6_.heap.size y6_ v := ((Below.refl _ y6_).drew).trans h2; have b := b_x.grew h5; exact ⟨t, h1, h5, h3, h4, o_x.grew h5, b.cell 0, b.cell 1, b.cell 2, b.cell 3⟩)
    have c_x_0 := b_x.cell 0
    have c_x_1 := b_x.cell 1
    have c_x_2 := b_x.cell 2
    have c_x_3 := b_x.cell 3
    have c_p0_0 := b_p0.cell 0
    have c_p0_1 := b_p0.cell 1
    have c_p0_2 := b_p0.cell 2
    have c_p0_3 := b_p0.cell 3
    simp at c_x_0 c_x_1 c_x_2 c_x_3 c_p0_0 c_p0_1 c_p0_2 c_p0_3
    go_region_with_o (first | (go_at_call 11; refine tb.mono ?_; rintro e v1 ⟨t1, rfl, hb1, ot, et, ox, r0, r1, r2, r3⟩) | (go_at_call 13; refine (eqState_alike t_x t1 p0 _ ox ot e_x et (by omega) (by omega)).mono ?_; rintro e v2 ⟨rfl, hb2⟩))
    all_goals exact ⟨t1, rfl, below_app hb1 hb2 hb1.size⟩
  rintro t_ y7_ hb
  simp only [puts, List.foldl, Act.put, List.setIfInBounds_toArray, List.set_cons_zero, List.set_cons_succ]
  replace o_x := o_x.grew hb
  replace b_p0 := b_p0.grew hb
  replace b_x := b_x.grew hb
  replace hB := below_app hB hb hB.size
  clear hb
  go_wp2
  go_ret
  exact ⟨rfl, below_app hBw hB hsz⟩

set_option maxRecDepth 100000 in
theorem lifted (os : Os) (started : os.Started) (H : Type) (enc : TypeId × Value → H) :
    ReturnsInHanded {} Try.checked os 3 .any (Rows.fnExactStateOkSpec.pre6 enc Try.prog Try.f3 Rows.fnExactStateOkRow.domain false) (Rows.fnExactStateOkSpec.post enc Try.prog Try.f3 false true false false) := by
  refine returnsInHanded_of_change (C := Try.checked) own started (by kernel_rfl) Try.func3
    (ChangeSpec.witness6 (enc := enc) (C := Try.checked) false ⟨#[], #[.agg #[.slice none 0 0, .slice none 0 0, .int .i64 0, .int .i64 0]], []⟩ 8 (by kernel_rfl) (by kernel_rfl) (by kernel_rfl) (by kernel_rfl)) ?_
  intro W base args ds gs before hval0 hW hcnd _
  have hval : ∀ (j : Nat) t v, Try.f3.params[j]? = some t → args[j]? = some v → Value.okWide Try.prog W .any base t v := hval0
  have hW' := hW
  obtain ⟨p, q, hA0, hV, rfl, hfz, hnd⟩ := hW
  have hA : DataW.TrodAll enc Try.prog W 0 (fun _ => true) true Try.f3.params.toList args.toList ds p := hA0
  rw [Try.params3] at hA hval
  obtain ⟨v0, vs0, d0, ds0, p0', q0, hargs, rfl, rfl, h0, r0⟩ := trodAll_cons hA
  obtain ⟨rfl, rfl, rfl⟩ := trodAll_nil r0
  obtain rfl : args = #[v0] := by cases args; simp_all
  obtain ⟨rfl, rfl⟩ := trodVars_none hV
  have k0 := h0
  have lt0 : ∀ x ∈ p0', x.block < W.heap.size := by obtain ⟨m, hm⟩ := k0; exact DataW.trod_lt m _ _ _ hm
  obtain ⟨p0, rfl, w0⟩ := open_state (hval 0 25 v0 rfl rfl) h0
  clear hA0 hval0
  refine (walk p0 W w0).mono fun e W' ⟨he, bel⟩ => ?_
  subst he
  exact ⟨_, rfl, _, _, _, [], _, [], hW', trodAll_mk1 (shut_bool Try.underlying4 _), (trodAll_cons_mk (Below.trod laidOut (by kernel_rfl) (of_decide_eq_true (by kernel_rfl)) k0 bel lt0) trodAll_mk0), rfl, bel.frame _, fun h => by cases h⟩

theorem over : Rows.fnExactStateOkRow.holds Try.pinned (OpenSpec.ofChange Rows.fnExactStateOkSpec) :=
  OpenClaim.holds_of_wide 3 Try.f3 rfl rfl rfl rfl rfl rfl rfl ⟨rfl, rfl, rfl, rfl, rfl⟩ rfl rfl rfl rfl rfl (by kernel_rfl) Try.func3 (by kernel_rfl)
    (of_decide_eq_true (by kernel_rfl)) (by unfold Func.isWrapper; first | (rw [if_pos (by decide +kernel)]; kernel_rfl) | (rw [if_neg (by decide +kernel)]; exact ⟨rfl, rfl⟩))
    (fun os started H enc _ => lifted os started H enc)

theorem proved : Rows.FnExactStateOkSaid := over
#print axioms proved
end Go.Proofs.Ytnlnledijpcjpao.fnExactStateOk
