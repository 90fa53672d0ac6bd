/-
  What is proved: at every two states, the law FnExactSameState answers true: the program's and the specification's answer alike, and the arguments read afterwards as before; no condition.
-/
import Derived.Test.YtpdoefcdajcloaoRows
import Derived.Test.YtpdoefcdajcloaoNum
import Derived.Test.YtpdoefcdajcloaoCur
import Derived.Test.YtpdoefcdajcloaoRow
import Derived.Test.YtpdoefcdajcloaoRowLaw
import Derived.Test.YtpdoefcdajcloaoPiece
import Derived.Test.YtpdoefcdajcloaoPiece2
import Derived.Test.YtpdoefcdajcloaoState1
import Derived.Test.YtpdoefcdajcloaoState2
import Derived.Test.YtpdoefcdajcloaoState3
import Derived.Test.YtpdoefcdajcloaoSeg
import Derived.Test.YtpdoefcdajcloaoRegCut
import Derived.Test.YtpdoefcdajcloaoRegTail
import Derived.Test.YtpdoefcdajcloaoRegBelow
import Derived.Test.YtpdoefcdajcloaoPiece3
import Derived.Test.YtpdoefcdajcloaoState4
import Derived.Test.YtpdoefcdajcloaoState5
import Derived.Test.YtpdoefcdajcloaoPieceOk
import Derived.Test.YtpdoefcdajcloaoState6
import Derived.Test.YtpdoefcdajcloaoState7
import Derived.Test.YtpdoefcdajcloaoBytes
import Derived.Test.YtpdoefcdajcloaoState8
import Derived.Test.YtpdoefcdajcloaoStAt
import Derived.Test.YtpdoefcdajcloaoStField
import Derived.Test.YtpdoefcdajcloaoPieceI1
import Derived.Test.YtpdoefcdajcloaoPieceI2
import Derived.Test.YtpdoefcdajcloaoPieceOkI
import Derived.Test.YtpdoefcdajcloaoStOkA
import Derived.Test.YtpdoefcdajcloaoStOkB
import Derived.Test.YtpdoefcdajcloaoStOkI
import Derived.Test.YtpdoefcdajcloaoStEq
import Derived.Test.YtpdoefcdajcloaoStSame
import Derived.Test.YtpdoefcdajcloaoStSameS
import Derived.Test.YtpdoefcdajcloaoStSameI
import Derived.Test.YtpdoefcdajcloaoStMark
import Derived.Test.YtpdoefcdajcloaoStHeld
import Derived.Test.YtpdoefcdajcloaoStNew
import Derived.Test.YtpdoefcdajcloaoStLaw
import Derived.Test.YtpdoefcdajcloaoStLawI
import Derived.WalkKit
import Derived.ProofKit
import Derived.OpenShut
import Derived.ShutString
import Derived.ChangeOld
import Derived.Below
namespace Go.Proofs.Ytpdoefcdajcloao.fnExactSameState
open Go.ChangeShapes Go.WideShapes Go.ChangeAt Go.RowKit
set_option linter.unusedVariables false

theorem own : ownKnob Try.prog.godebug = none := by kernel_rfl
theorem laidOut : laidOutB Try.prog = true := by kernel_rfl

def IsRow (k : IntKind) (w : World) (a : Option Addr) (len cap : Nat) (zs : List Int) : Prop :=
  (a = none ∧ len = 0 ∧ cap = 0 ∧ zs = []) ∨
  ∃ x, a = some x ∧ len ≤ cap ∧ cap ≤ maxLen ∧ zs.length = cap ∧ (∀ i, i < zs.length → w.cell? (x.add i) = some (.int k (zs.getD i 0))) ∧ ∀ n ∈ zs, (Lit.int k n).wf = true

set_option maxHeartbeats 2000000 in
set_option maxHeartbeats 4000000 in
theorem walk (p0 : Stt) (p1 : Stt) (w : World) (w0 : p0.ok w) (w1 : p1.ok w) :
    Calls Try.prog 4 #[.agg #[.slice p0.pa p0.pn p0.pcap, .slice p0.sa p0.sn p0.scap, .int .i64 p0.ac, .int .i64 p0.cl], .agg #[.slice p1.pa p1.pn p1.pcap, .slice p1.sa p1.sn p1.scap, .int .i64 p1.ac, .int .i64 p1.cl]] w fun e w' => e = .returned (.bool true) ∧ Below w.heap.size w w' := by
  have m_ : Try.prog.follows Departure.mixedOrders = true := by kernel_rfl
  have hBw := ((Below.refl _ w).alloc (by exact Nat.le_refl _) (.cells #[.slice p0.pa p0.pn p0.pcap, .slice p0.sa p0.sn p0.scap, .int .i64 p0.ac, .int .i64 p0.cl] 25)).alloc (by simp) (.cells #[.slice p1.pa p1.pn p1.pcap, .slice p1.sa p1.sn p1.scap, .int .i64 p1.ac, .int .i64 p1.cl] 25)
  have b_p0 := (boxR_new w 25 #[.slice p0.pa p0.pn p0.pcap, .slice p0.sa p0.sn p0.scap, .int .i64 p0.ac, .int .i64 p0.cl]).alloc (.cells #[.slice p1.pa p1.pn p1.pcap, .slice p1.sa p1.sn p1.scap, .int .i64 p1.ac, .int .i64 p1.cl] 25)
  have b_p1 := boxR_new (w.alloc (.cells #[.slice p0.pa p0.pn p0.pcap, .slice p0.sa p0.sn p0.scap, .int .i64 p0.ac, .int .i64 p0.cl] 25)) 25 #[.slice p1.pa p1.pn p1.pcap, .slice p1.sa p1.sn p1.scap, .int .i64 p1.ac, .int .i64 p1.cl]
  simp only [World.size_alloc] at b_p1
  generalize hW : (w.alloc (.cells #[.slice p0.pa p0.pn p0.pcap, .slice p0.sa p0.sn p0.scap, .int .i64 p0.ac, .int .i64 p0.cl] 25)).alloc (.cells #[.slice p1.pa p1.pn p1.pcap, .slice p1.sa p1.sn p1.scap, .int .i64 p1.ac, .int .i64 p1.cl] 25) = W at hBw b_p0 b_p1
  have hsz : w.heap.size ≤ W.heap.size := hBw.size
  have k_p0 := stt_grew w0 hBw
  have l_p0 := b_p0.lt
  have k_p1 := stt_grew w1 hBw
  have l_p1 := b_p1.lt
  have hB := Below.refl W.heap.size W
  by_cases z0 : (1048576 : Int) - (p0.pn : Int) - (p0.sn : Int) < 0
  · have Z0 : Hid (szS p0.pn p0.sn (1048576 : Int) = -1) := szS_no z0
    go_enter Try.func4, Try.ntmps4
    have c_p0_0 := b_p0.cell 0
    have c_p0_1 := b_p0.cell 1
    have c_p0_2 := b_p0.cell 2
    have c_p0_3 := b_p0.cell 3
    simp at c_p0_0 c_p0_1 c_p0_2 c_p0_3
    go_wp2_with fail
    refine (szState_any p0 (1048576 : Int) _ (by have := k_p0.1; have := k_p0.2.1; unfold maxLen at *; omega) (by have := k_p0.2.2.2.1; have := k_p0.2.2.2.2.1; unfold maxLen at *; omega) (by omega)).mono ?_
    rintro e u1 ⟨rfl, hb⟩
    clear c_p0_0 c_p0_1 c_p0_2 c_p0_3
    try clear hW
    replace b_p0 := b_p0.grew hb
    replace b_p1 := b_p1.grew hb
    replace hB := below_app hB hb hB.size
    clear hb
    rw [Z0.out]
    go_wp2
    go_ret
    exact ⟨rfl, below_app hBw hB hsz⟩
  by_cases z1 : ((1048576 : Int) - p0.pn - p0.sn) - (p1.pn : Int) - (p1.sn : Int) < 0
  · have Z1 : Hid (szS p1.pn p1.sn ((1048576 : Int) - p0.pn - p0.sn) = -1) := szS_no z1
    have Y0 : Hid (szS p0.pn p0.sn (1048576 : Int) = (1048576 : Int) - p0.pn - p0.sn) := szS_le z0
    go_enter Try.func4, Try.ntmps4
    have c_p0_0 := b_p0.cell 0
    have c_p0_1 := b_p0.cell 1
    have c_p0_2 := b_p0.cell 2
    have c_p0_3 := b_p0.cell 3
    simp at c_p0_0 c_p0_1 c_p0_2 c_p0_3
    go_wp2_with fail
    refine (szState_any p0 (1048576 : Int) _ (by have := k_p0.1; have := k_p0.2.1; unfold maxLen at *; omega) (by have := k_p0.2.2.2.1; have := k_p0.2.2.2.2.1; unfold maxLen at *; omega) (by omega)).mono ?_
    rintro e u1 ⟨rfl, hb⟩
    clear c_p0_0 c_p0_1 c_p0_2 c_p0_3
    try clear hW
    replace b_p0 := b_p0.grew hb
    replace b_p1 := b_p1.grew hb
    replace hB := below_app hB hb hB.size
    clear hb
    rw [Y0.out]
    have y0 : 0 ≤ (1048576 : Int) - p0.pn - p0.sn := by omega
    have c_p1_0 := b_p1.cell 0
    have c_p1_1 := b_p1.cell 1
    have c_p1_2 := b_p1.cell 2
    have c_p1_3 := b_p1.cell 3
    simp at c_p1_0 c_p1_1 c_p1_2 c_p1_3
    go_wp2_with fail
    refine (szState_any p1 ((1048576 : Int) - p0.pn - p0.sn) _ (by have := k_p1.1; have := k_p1.2.1; unfold maxLen at *; omega) (by have := k_p1.2.2.2.1; have := k_p1.2.2.2.2.1; unfold maxLen at *; omega) (by omega)).mono ?_
    rintro e u2 ⟨rfl, hb⟩
    clear c_p1_0 c_p1_1 c_p1_2 c_p1_3
    replace b_p0 := b_p0.grew hb
    replace b_p1 := b_p1.grew hb
    replace hB := below_app hB hb hB.size
    clear hb
    rw [Z1.out]
    go_wp2
    go_ret
    exact ⟨rfl, below_app hBw hB hsz⟩
  have n_p0 : p0.pn ≤ 1048576 := by omega
  have n2_p0 : p0.sn ≤ 1048576 := by omega
  have n_p1 : p1.pn ≤ 1048576 := by omega
  have n2_p1 : p1.sn ≤ 1048576 := by omega
  have Y0 : Hid (szS p0.pn p0.sn (1048576 : Int) = (1048576 : Int) - p0.pn - p0.sn) := szS_le z0
  have y0 : 0 ≤ (1048576 : Int) - p0.pn - p0.sn := by omega
  have Y1 : Hid (szS p1.pn p1.sn ((1048576 : Int) - p0.pn - p0.sn) = ((1048576 : Int) - p0.pn - p0.sn) - p1.pn - p1.sn) := szS_le z1
  have y1 : 0 ≤ ((1048576 : Int) - p0.pn - p0.sn) - p1.pn - p1.sn := by omega
  go_enter Try.func4, Try.ntmps4
  have c_p0_0 := b_p0.cell 0
  have c_p0_1 := b_p0.cell 1
  have c_p0_2 := b_p0.cell 2
  have c_p0_3 := b_p0.cell 3
  simp at c_p0_0 c_p0_1 c_p0_2 c_p0_3
  go_wp2_with fail
  refine (szState_any p0 (1048576 : Int) _ (by omega) (by omega) (by omega)).mono ?_
  rintro e u1 ⟨rfl, hb⟩
  clear c_p0_0 c_p0_1 c_p0_2 c_p0_3
  try clear hW
  replace b_p0 := b_p0.grew hb
  replace b_p1 := b_p1.grew hb
  replace hB := below_app hB hb hB.size
  clear hb
  rw [Y0.out]
  have c_p1_0 := b_p1.cell 0
  have c_p1_1 := b_p1.cell 1
  have c_p1_2 := b_p1.cell 2
  have c_p1_3 := b_p1.cell 3
  simp at c_p1_0 c_p1_1 c_p1_2 c_p1_3
  go_wp2_with fail
  refine (szState_any p1 ((1048576 : Int) - p0.pn - p0.sn) _ (by omega) (by omega) (by omega)).mono ?_
  rintro e u2 ⟨rfl, hb⟩
  clear c_p1_0 c_p1_1 c_p1_2 c_p1_3
  replace b_p0 := b_p0.grew hb
  replace b_p1 := b_p1.grew hb
  replace hB := below_app hB hb hB.size
  clear hb
  rw [Y1.out]
  go_wp2_with fail
  refine wp_cutT (fun t : Stt × Stt => [(20, (.agg #[.slice p0.pa p0.pn p0.pcap, .slice p0.sa p0.sn p0.scap, .int .i64 p0.ac, .int .i64 p0.cl])), (21, (.agg #[.slice t.1.pa t.1.pn t.1.pcap, .slice t.1.sa t.1.sn t.1.scap, .int .i64 t.1.ac, .int .i64 t.1.cl])), (22, (.agg #[.slice p1.pa p1.pn p1.pcap, .slice p1.sa p1.sn p1.scap, .int .i64 p1.ac, .int .i64 p1.cl])), (23, (.agg #[.slice t.2.pa t.2.pn t.2.pcap, .slice t.2.sa t.2.sn t.2.scap, .int .i64 t.2.ac, .int .i64 t.2.cl])), (24, .bool (smS p0 p1)), (6, .bool (smS p0 p1))]) (fun _ u => Below u2.heap.size u2 u) ?_ ?_
  · have tb0 : Calls Try.prog 11 #[(.agg #[.slice p0.pa p0.pn p0.pcap, .slice p0.sa p0.sn p0.scap, .int .i64 p0.ac, .int .i64 p0.cl])] u2.drew fun e v => ∃ t : Stt, e = .returned (.agg #[.slice t.pa t.pn t.pcap, .slice t.sa t.sn t.scap, .int .i64 t.ac, .int .i64 t.cl]) ∧ Below u2.heap.size u2 v ∧ OwnT v u2.heap.size t ∧ Alike t p0 ∧ p1.ok v ∧ v.cell? ⟨w.heap.size + 1, 0, none⟩ = some (.slice p1.pa p1.pn p1.pcap) ∧ v.cell? ⟨w.heap.size + 1, 1, none⟩ = some (.slice p1.sa p1.sn p1.scap) ∧ v.cell? ⟨w.heap.size + 1, 2, none⟩ = some (.int .i64 p1.ac) ∧ v.cell? ⟨w.heap.size + 1, 3, none⟩ = some (.int .i64 p1.cl) := (toState_ans p0 u2.drew (show p0.ok u2.drew from stt_grew k_p0 hB.drew) n_p0 n2_p0).mono (by rintro e v ⟨t, h1, h2, h3, h4⟩; have h5 : Below u2.heap.size u2 v := ((Below.refl _ u2).drew).trans h2; have b := b_p1.grew h5; exact ⟨t, h1, h5, h3, h4, stt_grew k_p1 (below_app hB h5 hB.size), b.cell 0, b.cell 1, b.cell 2, b.cell 3⟩)
    have tb1 : Calls Try.prog 11 #[(.agg #[.slice p1.pa p1.pn p1.pcap, .slice p1.sa p1.sn p1.scap, .int .i64 p1.ac, .int .i64 p1.cl])] u2.drew fun e v => ∃ t : Stt, e = .returned (.agg #[.slice t.pa t.pn t.pcap, .slice t.sa t.sn t.scap, .int .i64 t.ac, .int .i64 t.cl]) ∧ Below u2.heap.size u2 v ∧ OwnT v u2.heap.size t ∧ Alike t p1 ∧ p0.ok v ∧ v.cell? ⟨w.heap.size, 0, none⟩ = some (.slice p0.pa p0.pn p0.pcap) ∧ v.cell? ⟨w.heap.size, 1, none⟩ = some (.slice p0.sa p0.sn p0.scap) ∧ v.cell? ⟨w.heap.size, 2, none⟩ = some (.int .i64 p0.ac) ∧ v.cell? ⟨w.heap.size, 3, none⟩ = some (.int .i64 p0.cl) := (toState_ans p1 u2.drew (show p1.ok u2.drew from stt_grew k_p1 hB.drew) n_p1 n2_p1).mono (by rintro e v ⟨t, h1, h2, h3, h4⟩; have h5 : Below u2.heap.size u2 v := ((Below.refl _ u2).drew).trans h2; have b := b_p0.grew h5; exact ⟨t, h1, h5, h3, h4, stt_grew k_p0 (below_app hB h5 hB.size), b.cell 0, b.cell 1, b.cell 2, b.cell 3⟩)
    have c_p0_0 := b_p0.cell 0
    have c_p0_1 := b_p0.cell 1
    have c_p0_2 := b_p0.cell 2
    have c_p0_3 := b_p0.cell 3
    have c_p1_0 := b_p1.cell 0
    have c_p1_1 := b_p1.cell 1
    have c_p1_2 := b_p1.cell 2
    have c_p1_3 := b_p1.cell 3
    simp at c_p0_0 c_p0_1 c_p0_2 c_p0_3 c_p1_0 c_p1_1 c_p1_2 c_p1_3
    go_region_with_o (first | (go_at_call_of 11 (p0.ac); first | (refine (toState_ans p0 _ ok0 n_p0 n2_p0).mono ?_; rintro e v2 ⟨s0, rfl, hb2, o0, e0⟩; replace o1 := o1.grew hb2) | (refine tb0.mono ?_; rintro e v1 ⟨s0, rfl, hb1, o0, e0, ok1, r0, r1, r2, r3⟩)) | (go_at_call_of 11 (p1.ac); first | (refine (toState_ans p1 _ ok1 n_p1 n2_p1).mono ?_; rintro e v2 ⟨s1, rfl, hb2, o1, e1⟩; replace o0 := o0.grew hb2) | (refine tb1.mono ?_; rintro e v1 ⟨s1, rfl, hb1, o1, e1, ok0, r0, r1, r2, r3⟩)) | (go_at_call 14; refine (specSameState_al o0 e0 k_p0 n_p0 n2_p0 o1 e1 k_p1 n_p1 n2_p1).mono ?_; rintro e v3 ⟨rfl, hb3⟩))
    all_goals exact ⟨(s0, s1), rfl, below_app hb1 (below_app hb2 hb3 hb2.size) hb1.size⟩
  rintro t_ u3 hb
  simp only [puts, List.foldl, Act.put, List.setIfInBounds_toArray, List.set_cons_zero, List.set_cons_succ]
  replace b_p0 := b_p0.grew hb
  replace b_p1 := b_p1.grew hb
  replace hB := below_app hB hb hB.size
  clear hb
  have c_p0_0 := b_p0.cell 0
  have c_p0_1 := b_p0.cell 1
  have c_p0_2 := b_p0.cell 2
  have c_p0_3 := b_p0.cell 3
  simp at c_p0_0 c_p0_1 c_p0_2 c_p0_3
  go_wp2_with fail
  refine (toState_ans p0 _ (stt_grew k_p0 hB) n_p0 n2_p0).mono ?_
  rintro e u4 ⟨t_x, rfl, hb, o_x, e_x⟩
  clear c_p0_0 c_p0_1 c_p0_2 c_p0_3
  have d_p0_x := away_old o_x b_p0.lt
  have d_p1_x := away_old o_x b_p1.lt
  have f_x : W.heap.size ≤ u3.heap.size := hB.size
  replace b_p0 := b_p0.grew hb
  replace b_p1 := b_p1.grew hb
  replace hB := below_app hB hb hB.size
  clear hb
  have hb := (Below.refl _ u4).alloc (Nat.le_refl _) (.cells #[.slice t_x.pa t_x.pn t_x.pcap, .slice t_x.sa t_x.sn t_x.scap, .int .i64 t_x.ac, .int .i64 t_x.cl] 31)
  have b_x := boxR_new u4 31 #[.slice t_x.pa t_x.pn t_x.pcap, .slice t_x.sa t_x.sn t_x.scap, .int .i64 t_x.ac, .int .i64 t_x.cl]
  have d_x_x := away_new o_x (Nat.le_refl u4.heap.size)
  generalize hVx : u4.alloc (.cells #[.slice t_x.pa t_x.pn t_x.pcap, .slice t_x.sa t_x.sn t_x.scap, .int .i64 t_x.ac, .int .i64 t_x.cl] 31) = u5 at hb b_x
  replace o_x := o_x.grew hb
  replace b_p0 := b_p0.grew hb
  replace b_p1 := b_p1.grew hb
  replace hB := below_app hB hb hB.size
  clear hb
  have c_p1_0 := b_p1.cell 0
  have c_p1_1 := b_p1.cell 1
  have c_p1_2 := b_p1.cell 2
  have c_p1_3 := b_p1.cell 3
  simp at c_p1_0 c_p1_1 c_p1_2 c_p1_3
  go_wp2_with fail
  refine (toState_ans p1 _ (stt_grew k_p1 hB) n_p1 n2_p1).mono ?_
  rintro e u6 ⟨t_y, rfl, hb, o_y, e_y⟩
  clear c_p1_0 c_p1_1 c_p1_2 c_p1_3
  have a_x_y := apart_old o_x o_y (Nat.le_refl _)
  have a_y_x := apart_new o_y o_x (Nat.le_refl _)
  have d_p0_y := away_old o_y b_p0.lt
  have d_p1_y := away_old o_y b_p1.lt
  have d_x_y := away_old o_y b_x.lt
  have f_y : W.heap.size ≤ u5.heap.size := hB.size
  replace o_x := o_x.grew hb
  replace b_p0 := b_p0.grew hb
  replace b_p1 := b_p1.grew hb
  replace b_x := b_x.grew hb
  replace hB := below_app hB hb hB.size
  clear hb
  have hb := (Below.refl _ u6).alloc (Nat.le_refl _) (.cells #[.slice t_y.pa t_y.pn t_y.pcap, .slice t_y.sa t_y.sn t_y.scap, .int .i64 t_y.ac, .int .i64 t_y.cl] 31)
  have b_y := boxR_new u6 31 #[.slice t_y.pa t_y.pn t_y.pcap, .slice t_y.sa t_y.sn t_y.scap, .int .i64 t_y.ac, .int .i64 t_y.cl]
  have d_y_x := away_new o_x (Nat.le_refl u6.heap.size)
  have d_y_y := away_new o_y (Nat.le_refl u6.heap.size)
  generalize hVy : u6.alloc (.cells #[.slice t_y.pa t_y.pn t_y.pcap, .slice t_y.sa t_y.sn t_y.scap, .int .i64 t_y.ac, .int .i64 t_y.cl] 31) = u7 at hb b_y
  replace o_x := o_x.grew hb
  replace o_y := o_y.grew hb
  replace b_p0 := b_p0.grew hb
  replace b_p1 := b_p1.grew hb
  replace b_x := b_x.grew hb
  replace hB := below_app hB hb hB.size
  clear hb
  have c_x_0 := b_x.cell 0
  have c_x_1 := b_x.cell 1
  have c_x_2 := b_x.cell 2
  have c_x_3 := b_x.cell 3
  have c_y_0 := b_y.cell 0
  have c_y_1 := b_y.cell 1
  have c_y_2 := b_y.cell 2
  have c_y_3 := b_y.cell 3
  simp at c_x_0 c_x_1 c_x_2 c_x_3 c_y_0 c_y_1 c_y_2 c_y_3
  go_wp2_with fail
  refine (implSameState_al o_x e_x k_p0 n_p0 n2_p0 o_y e_y k_p1 n_p1 n2_p1).mono ?_
  rintro e u8 ⟨rfl, hb⟩
  clear c_x_0 c_x_1 c_x_2 c_x_3 c_y_0 c_y_1 c_y_2 c_y_3
  replace o_x := o_x.grew hb
  replace o_y := o_y.grew hb
  replace b_p0 := b_p0.grew hb
  replace b_p1 := b_p1.grew hb
  replace b_x := b_x.grew hb
  replace b_y := b_y.grew hb
  replace hB := below_app hB hb hB.size
  clear hb
  go_wp2_with fail
  refine wp_cutT (fun t : Stt => [(35, (.agg #[.slice t_x.pa t_x.pn t_x.pcap, .slice t_x.sa t_x.sn t_x.scap, .int .i64 t_x.ac, .int .i64 t_x.cl])), (36, (.agg #[.slice p0.pa p0.pn p0.pcap, .slice p0.sa p0.sn p0.scap, .int .i64 p0.ac, .int .i64 p0.cl])), (37, (.agg #[.slice t.pa t.pn t.pcap, .slice t.sa t.sn t.scap, .int .i64 t.ac, .int .i64 t.cl])), (38, .bool true), (39, .bool false)]) (fun _ u => Below u8.heap.size u8 u) ?_ ?_
  · have tb : Calls Try.prog 11 #[(.agg #[.slice p0.pa p0.pn p0.pcap, .slice p0.sa p0.sn p0.scap, .int .i64 p0.ac, .int .i64 p0.cl])] u8.drew fun e v => ∃ t : Stt, e = .returned (.agg #[.slice t.pa t.pn t.pcap, .slice t.sa t.sn t.scap, .int .i64 t.ac, .int .i64 t.cl]) ∧ Below u8.heap.size u8 v ∧ OwnT v u8.heap.size t ∧ Alike t p0 ∧ OwnT v u3.heap.size t_x ∧ v.cell? ⟨u4.heap.size, 0, none⟩ = some (.slice t_x.pa t_x.pn t_x.pcap) ∧ v.cell? ⟨u4.heap.size, 1, none⟩ = some (.slice t_x.sa t_x.sn t_x.scap) ∧ v.cell? ⟨u4.heap.size, 2, none⟩ = some (.int .i64 t_x.ac) ∧ v.cell? ⟨u4.heap.size, 3, none⟩ = some (.int .i64 t_x.cl) := (toState_ans p0 u8.drew (show p0.ok u8.drew from stt_grew k_p0 hB.drew) n_p0 n2_p0).mono (by rintro e v ⟨t, h1, h2, h3, h4⟩; have h5 : Below u8.heap.size u8 v := ((Below.refl _ u8).drew).trans h2; have b := b_x.grew h5; exact ⟨t, h1, h5, h3, h4, o_x.grew h5, b.cell 0, b.cell 1, b.cell 2, b.cell 3⟩)
    have c_x_0 := b_x.cell 0
    have c_x_1 := b_x.cell 1
    have c_x_2 := b_x.cell 2
    have c_x_3 := b_x.cell 3
    have c_p0_0 := b_p0.cell 0
    have c_p0_1 := b_p0.cell 1
    have c_p0_2 := b_p0.cell 2
    have c_p0_3 := b_p0.cell 3
    simp at c_x_0 c_x_1 c_x_2 c_x_3 c_p0_0 c_p0_1 c_p0_2 c_p0_3
    go_region_with_o (first | (go_at_call 11; refine tb.mono ?_; rintro e v1 ⟨t1, rfl, hb1, ot, et, ox, r0, r1, r2, r3⟩) | (go_at_call 13; refine (eqState_alike t_x t1 p0 _ ox ot e_x et (by omega) (by omega)).mono ?_; rintro e v2 ⟨rfl, hb2⟩))
    all_goals exact ⟨t1, rfl, below_app hb1 hb2 hb1.size⟩
  rintro t_ u9 hb
  simp only [puts, List.foldl, Act.put, List.setIfInBounds_toArray, List.set_cons_zero, List.set_cons_succ]
  replace o_x := o_x.grew hb
  replace o_y := o_y.grew hb
  replace b_p0 := b_p0.grew hb
  replace b_p1 := b_p1.grew hb
  replace b_x := b_x.grew hb
  replace b_y := b_y.grew hb
  replace hB := below_app hB hb hB.size
  clear hb
  clear o_x
  clear b_x
  go_wp2_with fail
  refine wp_cutT (fun t : Stt => [(40, (.agg #[.slice t_y.pa t_y.pn t_y.pcap, .slice t_y.sa t_y.sn t_y.scap, .int .i64 t_y.ac, .int .i64 t_y.cl])), (41, (.agg #[.slice p1.pa p1.pn p1.pcap, .slice p1.sa p1.sn p1.scap, .int .i64 p1.ac, .int .i64 p1.cl])), (42, (.agg #[.slice t.pa t.pn t.pcap, .slice t.sa t.sn t.scap, .int .i64 t.ac, .int .i64 t.cl])), (43, .bool true), (44, .bool false)]) (fun _ u => Below u9.heap.size u9 u) ?_ ?_
  · have tb : Calls Try.prog 11 #[(.agg #[.slice p1.pa p1.pn p1.pcap, .slice p1.sa p1.sn p1.scap, .int .i64 p1.ac, .int .i64 p1.cl])] u9.drew fun e v => ∃ t : Stt, e = .returned (.agg #[.slice t.pa t.pn t.pcap, .slice t.sa t.sn t.scap, .int .i64 t.ac, .int .i64 t.cl]) ∧ Below u9.heap.size u9 v ∧ OwnT v u9.heap.size t ∧ Alike t p1 ∧ OwnT v u5.heap.size t_y ∧ v.cell? ⟨u6.heap.size, 0, none⟩ = some (.slice t_y.pa t_y.pn t_y.pcap) ∧ v.cell? ⟨u6.heap.size, 1, none⟩ = some (.slice t_y.sa t_y.sn t_y.scap) ∧ v.cell? ⟨u6.heap.size, 2, none⟩ = some (.int .i64 t_y.ac) ∧ v.cell? ⟨u6.heap.size, 3, none⟩ = some (.int .i64 t_y.cl) := (toState_ans p1 u9.drew (show p1.ok u9.drew from stt_grew k_p1 hB.drew) n_p1 n2_p1).mono (by rintro e v ⟨t, h1, h2, h3, h4⟩; have h5 : Below u9.heap.size u9 v := ((Below.refl _ u9).drew).trans h2; have b := b_y.grew h5; exact ⟨t, h1, h5, h3, h4, o_y.grew h5, b.cell 0, b.cell 1, b.cell 2, b.cell 3⟩)
    have c_y_0 := b_y.cell 0
    have c_y_1 := b_y.cell 1
    have c_y_2 := b_y.cell 2
    have c_y_3 := b_y.cell 3
    have c_p1_0 := b_p1.cell 0
    have c_p1_1 := b_p1.cell 1
    have c_p1_2 := b_p1.cell 2
    have c_p1_3 := b_p1.cell 3
    simp at c_y_0 c_y_1 c_y_2 c_y_3 c_p1_0 c_p1_1 c_p1_2 c_p1_3
    go_region_with_o (first | (go_at_call 11; refine tb.mono ?_; rintro e v1 ⟨t1, rfl, hb1, ot, et, ox, r0, r1, r2, r3⟩) | (go_at_call 13; refine (eqState_alike t_y t1 p1 _ ox ot e_y et (by omega) (by omega)).mono ?_; rintro e v2 ⟨rfl, hb2⟩))
    all_goals exact ⟨t1, rfl, below_app hb1 hb2 hb1.size⟩
  rintro t_ u10 hb
  simp only [puts, List.foldl, Act.put, List.setIfInBounds_toArray, List.set_cons_zero, List.set_cons_succ]
  replace o_y := o_y.grew hb
  replace b_p0 := b_p0.grew hb
  replace b_p1 := b_p1.grew hb
  replace b_y := b_y.grew hb
  replace hB := below_app hB hb hB.size
  clear hb
  go_wp2
  go_ret
  exact ⟨rfl, below_app hBw hB hsz⟩

set_option maxRecDepth 100000 in
theorem lifted (os : Os) (started : os.Started) (H : Type) (enc : TypeId × Value → H) :
    ReturnsInHanded {} Try.checked os 4 .any (Rows.fnExactSameStateSpec.pre6 enc Try.prog Try.f4 Rows.fnExactSameStateRow.domain false) (Rows.fnExactSameStateSpec.post enc Try.prog Try.f4 false true false false) := by
  refine returnsInHanded_of_change (C := Try.checked) own started (by kernel_rfl) Try.func4
    (ChangeSpec.witness6 (enc := enc) (C := Try.checked) false ⟨#[], #[.agg #[.slice none 0 0, .slice none 0 0, .int .i64 0, .int .i64 0], .agg #[.slice none 0 0, .slice none 0 0, .int .i64 0, .int .i64 0]], []⟩ 8 (by kernel_rfl) (by kernel_rfl) (by kernel_rfl) (by kernel_rfl)) ?_
  intro W base args ds gs before hval0 hW hcnd _
  have hval : ∀ (j : Nat) t v, Try.f4.params[j]? = some t → args[j]? = some v → Value.okWide Try.prog W .any base t v := hval0
  have hW' := hW
  obtain ⟨p, q, hA0, hV, rfl, hfz, hnd⟩ := hW
  have hA : DataW.TrodAll enc Try.prog W 0 (fun _ => true) true Try.f4.params.toList args.toList ds p := hA0
  rw [Try.params4] at hA hval
  obtain ⟨v0, vs0, d0, ds0, p0', q0, hargs, rfl, rfl, h0, r0⟩ := trodAll_cons hA
  obtain ⟨v1, vs1, d1, ds1, p1', q1, rfl, rfl, rfl, h1, r1⟩ := trodAll_cons r0
  obtain ⟨rfl, rfl, rfl⟩ := trodAll_nil r1
  obtain rfl : args = #[v0, v1] := by cases args; simp_all
  obtain ⟨rfl, rfl⟩ := trodVars_none hV
  have k0 := h0
  have lt0 : ∀ x ∈ p0', x.block < W.heap.size := by obtain ⟨m, hm⟩ := k0; exact DataW.trod_lt m _ _ _ hm
  obtain ⟨p0, rfl, w0⟩ := open_state (hval 0 25 v0 rfl rfl) h0
  have k1 := h1
  have lt1 : ∀ x ∈ p1', x.block < W.heap.size := by obtain ⟨m, hm⟩ := k1; exact DataW.trod_lt m _ _ _ hm
  obtain ⟨p1, rfl, w1⟩ := open_state (hval 1 25 v1 rfl rfl) h1
  clear hA0 hval0
  refine (walk p0 p1 W w0 w1).mono fun e W' ⟨he, bel⟩ => ?_
  subst he
  exact ⟨_, rfl, _, _, _, [], _, [], hW', trodAll_mk1 (shut_bool Try.underlying4 _), (trodAll_cons_mk (Below.trod laidOut (by kernel_rfl) (of_decide_eq_true (by kernel_rfl)) k0 bel lt0) (trodAll_cons_mk (Below.trod laidOut (by kernel_rfl) (of_decide_eq_true (by kernel_rfl)) k1 bel lt1) trodAll_mk0)), rfl, bel.frame _, fun h => by cases h⟩

theorem over : Rows.fnExactSameStateRow.holds Try.pinned (OpenSpec.ofChange Rows.fnExactSameStateSpec) :=
  OpenClaim.holds_of_wide 4 Try.f4 rfl rfl rfl rfl rfl rfl rfl ⟨rfl, rfl, rfl, rfl, rfl⟩ rfl rfl rfl rfl rfl (by kernel_rfl) Try.func4 (by kernel_rfl)
    (of_decide_eq_true (by kernel_rfl)) (by unfold Func.isWrapper; first | (rw [if_pos (by decide +kernel)]; kernel_rfl) | (rw [if_neg (by decide +kernel)]; exact ⟨rfl, rfl⟩))
    (fun os started H enc _ => lifted os started H enc)

theorem proved : Rows.FnExactSameStateSaid := over
#print axioms proved
end Go.Proofs.Ytpdoefcdajcloao.fnExactSameState
