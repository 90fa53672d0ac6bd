/-
  What is proved: at every state, the law FnExactPutState answers true: the program's and the specification's answer alike, the answer lies in new memory, and the arguments read afterwards as before; no condition.
-/
import Derived.Test.YtnlnledijpcjpapRows
import Derived.Test.YtnlnledijpcjpapCur
import Derived.Test.YtnlnledijpcjpapPiece
import Derived.Test.YtnlnledijpcjpapRow
import Derived.Test.YtnlnledijpcjpapPiece2
import Derived.Test.YtnlnledijpcjpapRowLaw
import Derived.Test.YtnlnledijpcjpapStaA
import Derived.Test.YtnlnledijpcjpapRegs
import Derived.Test.YtnlnledijpcjpapNum
import Derived.Test.YtnlnledijpcjpapPiece3
import Derived.Test.YtnlnledijpcjpapState4
import Derived.Test.YtnlnledijpcjpapState5
import Derived.Test.YtnlnledijpcjpapPieceOk
import Derived.Test.YtnlnledijpcjpapState6
import Derived.Test.YtnlnledijpcjpapState7
import Derived.Test.YtnlnledijpcjpapBytesA
import Derived.Test.YtnlnledijpcjpapPiece4
import Derived.Test.YtnlnledijpcjpapState8
import Derived.Test.YtnlnledijpcjpapStAt
import Derived.Test.YtnlnledijpcjpapStPut
import Derived.Test.YtnlnledijpcjpapPcI
import Derived.Test.YtnlnledijpcjpapPieceOkI
import Derived.Test.YtnlnledijpcjpapStOk
import Derived.Test.YtnlnledijpcjpapPiece5
import Derived.Test.YtnlnledijpcjpapListsA
import Derived.Test.YtnlnledijpcjpapPieceI4
import Derived.Test.YtnlnledijpcjpapStMark
import Derived.Test.YtnlnledijpcjpapStHeld
import Derived.Test.YtnlnledijpcjpapStEq
import Derived.Test.YtnlnledijpcjpapStSame
import Derived.Test.YtnlnledijpcjpapStLaw
import Derived.Test.YtnlnledijpcjpapStPuts
import Derived.WalkKit
import Derived.ProofKit
import Derived.OpenShut
import Derived.ShutString
import Derived.ChangeOld
import Derived.Below
namespace Go.Proofs.Ytnlnledijpcjpap.fnExactPutState
open Go.ChangeShapes Go.WideShapes Go.ChangeAt Go.RowKit
set_option linter.unusedVariables false

theorem own : ownKnob Try.prog.godebug = none := by kernel_rfl
theorem laidOut : laidOutB Try.prog = true := by kernel_rfl

def IsRow (k : IntKind) (w : World) (a : Option Addr) (len cap : Nat) (zs : List Int) : Prop :=
  (a = none ∧ len = 0 ∧ cap = 0 ∧ zs = []) ∨
  ∃ x, a = some x ∧ len ≤ cap ∧ cap ≤ maxLen ∧ zs.length = cap ∧ (∀ i, i < zs.length → w.cell? (x.add i) = some (.int k (zs.getD i 0))) ∧ ∀ n ∈ zs, (Lit.int k n).wf = true

set_option maxHeartbeats 2000000 in
set_option maxHeartbeats 4000000 in
theorem walk (p0 : Stt) (w : World) (w0 : p0.ok w) :
    Calls Try.prog 3 #[.agg #[.slice p0.pa p0.pn p0.pcap, .slice p0.sa p0.sn p0.scap, .int .i64 p0.ac, .int .i64 p0.cl]] w fun e w' => e = .returned (.bool true) ∧ Below w.heap.size w w' := by
  have m_ : Try.prog.follows Departure.mixedOrders = true := by kernel_rfl
  have hBw := (Below.refl _ w).alloc (by exact Nat.le_refl _) (.cells #[.slice p0.pa p0.pn p0.pcap, .slice p0.sa p0.sn p0.scap, .int .i64 p0.ac, .int .i64 p0.cl] 25)
  have b_p0 := boxR_new w 25 #[.slice p0.pa p0.pn p0.pcap, .slice p0.sa p0.sn p0.scap, .int .i64 p0.ac, .int .i64 p0.cl]
  generalize hW : w.alloc (.cells #[.slice p0.pa p0.pn p0.pcap, .slice p0.sa p0.sn p0.scap, .int .i64 p0.ac, .int .i64 p0.cl] 25) = W at hBw b_p0
  have hsz : w.heap.size ≤ W.heap.size := hBw.size
  have k_p0 := stt_grew w0 hBw
  have l_p0 := b_p0.lt
  have hB := Below.refl W.heap.size W
  by_cases z0 : (1048576 : Int) - (p0.pn : Int) - (p0.sn : Int) < 0
  · have Z0 : Hid (szS p0.pn p0.sn (1048576 : Int) = -1) := szS_no z0
    go_enter Try.func3, Try.ntmps3
    have c_p0_0 := b_p0.cell 0
    have c_p0_1 := b_p0.cell 1
    have c_p0_2 := b_p0.cell 2
    have c_p0_3 := b_p0.cell 3
    simp at c_p0_0 c_p0_1 c_p0_2 c_p0_3
    go_wp2_with fail
    refine (szState_any p0 (1048576 : Int) _ (by have := k_p0.1; have := k_p0.2.1; unfold maxLen at *; omega) (by have := k_p0.2.2.2.1; have := k_p0.2.2.2.2.1; unfold maxLen at *; omega) (by omega)).mono ?_
    rintro e u1 ⟨rfl, hb⟩
    clear c_p0_0 c_p0_1 c_p0_2 c_p0_3
    try clear hW
    replace b_p0 := b_p0.grew hb
    replace hB := below_app hB hb hB.size
    clear hb
    rw [Z0.out]
    go_wp2
    go_ret
    exact ⟨rfl, below_app hBw hB hsz⟩
  have n_p0 : p0.pn ≤ 1048576 := by omega
  have n2_p0 : p0.sn ≤ 1048576 := by omega
  have Y0 : Hid (szS p0.pn p0.sn (1048576 : Int) = (1048576 : Int) - p0.pn - p0.sn) := szS_le z0
  have y0 : 0 ≤ (1048576 : Int) - p0.pn - p0.sn := by omega
  go_enter Try.func3, Try.ntmps3
  have c_p0_0 := b_p0.cell 0
  have c_p0_1 := b_p0.cell 1
  have c_p0_2 := b_p0.cell 2
  have c_p0_3 := b_p0.cell 3
  simp at c_p0_0 c_p0_1 c_p0_2 c_p0_3
  go_wp2_with fail
  refine (szState_any p0 (1048576 : Int) _ (by omega) (by omega) (by omega)).mono ?_
  rintro e u1 ⟨rfl, hb⟩
  clear c_p0_0 c_p0_1 c_p0_2 c_p0_3
  try clear hW
  replace b_p0 := b_p0.grew hb
  replace hB := below_app hB hb hB.size
  clear hb
  rw [Y0.out]
  have nn := ptN_le p0
  have c_p0_0 := b_p0.cell 0
  have c_p0_1 := b_p0.cell 1
  have c_p0_2 := b_p0.cell 2
  have c_p0_3 := b_p0.cell 3
  simp at c_p0_0 c_p0_1 c_p0_2 c_p0_3
  go_wp2_with fail
  refine (toState_ans p0 _ (stt_grew k_p0 hB) n_p0 n2_p0).mono ?_
  rintro e u2 ⟨t_y, rfl, hb, o_y, e_y⟩
  clear c_p0_0 c_p0_1 c_p0_2 c_p0_3
  have d_p0_y := away_old o_y b_p0.lt
  have f_y : W.heap.size ≤ u1.heap.size := hB.size
  replace b_p0 := b_p0.grew hb
  replace hB := below_app hB hb hB.size
  clear hb
  go_wp2_with fail
  refine (specPutState_al o_y e_y k_p0 n_p0 n2_p0).mono ?_
  rintro e u3 ⟨g_w, c_w, rfl, hb, o_w⟩
  have a_w_y := away_new o_y o_w.1
  have d_p0_w : w.heap.size ≠ g_w := by have h1 := b_p0.lt; have h2 := o_w.1; omega
  have f_w : W.heap.size ≤ g_w := by have h1 := hB.size; have h2 := o_w.1; omega
  replace o_y := o_y.grew hb
  replace b_p0 := b_p0.grew hb
  replace hB := below_app hB hb hB.size
  clear hb
  clear o_y
  have c_p0_0 := b_p0.cell 0
  have c_p0_1 := b_p0.cell 1
  have c_p0_2 := b_p0.cell 2
  have c_p0_3 := b_p0.cell 3
  simp at c_p0_0 c_p0_1 c_p0_2 c_p0_3
  go_wp2_with fail
  refine (toState_ans p0 _ (stt_grew k_p0 hB) n_p0 n2_p0).mono ?_
  rintro e u4 ⟨t_x, rfl, hb, o_x, e_x⟩
  clear c_p0_0 c_p0_1 c_p0_2 c_p0_3
  have a_w_x := away_old o_x o_w.2.1
  have d_p0_x := away_old o_x b_p0.lt
  have f_x : W.heap.size ≤ u3.heap.size := hB.size
  replace o_w := o_w.grew hb
  replace b_p0 := b_p0.grew hb
  replace hB := below_app hB hb hB.size
  clear hb
  have hb := (Below.refl _ u4).alloc (Nat.le_refl _) (.cells #[.slice t_x.pa t_x.pn t_x.pcap, .slice t_x.sa t_x.sn t_x.scap, .int .i64 t_x.ac, .int .i64 t_x.cl] 32)
  have b_x := boxR_new u4 32 #[.slice t_x.pa t_x.pn t_x.pcap, .slice t_x.sa t_x.sn t_x.scap, .int .i64 t_x.ac, .int .i64 t_x.cl]
  have d_x_x := away_new o_x (Nat.le_refl u4.heap.size)
  generalize hVx : u4.alloc (.cells #[.slice t_x.pa t_x.pn t_x.pcap, .slice t_x.sa t_x.sn t_x.scap, .int .i64 t_x.ac, .int .i64 t_x.cl] 32) = u5 at hb b_x
  replace o_w := o_w.grew hb
  replace o_x := o_x.grew hb
  replace b_p0 := b_p0.grew hb
  replace hB := below_app hB hb hB.size
  clear hb
  have c_x_0 := b_x.cell 0
  have c_x_1 := b_x.cell 1
  have c_x_2 := b_x.cell 2
  have c_x_3 := b_x.cell 3
  simp at c_x_0 c_x_1 c_x_2 c_x_3
  go_wp2_with fail
  refine (implPutState_al o_x e_x k_p0 n_p0 n2_p0).mono ?_
  rintro e u6 ⟨g_g, c_g, rfl, hb, o_g⟩
  clear c_x_0 c_x_1 c_x_2 c_x_3
  have a_w_g : g_w ≠ g_g := by have h1 := o_w.2.1; have h2 := o_g.1; omega
  have a_g_w : g_g ≠ g_w := a_w_g.symm
  have a_g_x := away_new o_x o_g.1
  have d_p0_g : w.heap.size ≠ g_g := by have h1 := b_p0.lt; have h2 := o_g.1; omega
  have d_x_g : u4.heap.size ≠ g_g := by have h1 := b_x.lt; have h2 := o_g.1; omega
  have f_g : W.heap.size ≤ g_g := by have h1 := hB.size; have h2 := o_g.1; omega
  replace o_w := o_w.grew hb
  replace o_x := o_x.grew hb
  replace b_p0 := b_p0.grew hb
  replace b_x := b_x.grew hb
  replace hB := below_app hB hb hB.size
  clear hb
  go_wp2_with fail
  refine (eqByteS_same _ _ g_g g_w (ptN p0) _ _ _ _ (by omega) o_g.rd o_w.rd).mono ?_
  rintro e u7 ⟨rfl, hb⟩
  replace o_w := o_w.grew hb
  replace o_x := o_x.grew hb
  replace o_g := o_g.grew hb
  replace b_p0 := b_p0.grew hb
  replace b_x := b_x.grew hb
  replace hB := below_app hB hb hB.size
  clear hb
  go_wp2_with fail
  refine wp_cutT (fun t : Stt => [(27, (.agg #[.slice t_x.pa t_x.pn t_x.pcap, .slice t_x.sa t_x.sn t_x.scap, .int .i64 t_x.ac, .int .i64 t_x.cl])), (28, (.agg #[.slice p0.pa p0.pn p0.pcap, .slice p0.sa p0.sn p0.scap, .int .i64 p0.ac, .int .i64 p0.cl])), (29, (.agg #[.slice t.pa t.pn t.pcap, .slice t.sa t.sn t.scap, .int .i64 t.ac, .int .i64 t.cl])), (30, .bool true), (31, .bool false)]) (fun _ u => Below u7.heap.size u7 u) ?_ ?_
  · have tb : Calls Try.prog 10 #[(.agg #[.slice p0.pa p0.pn p0.pcap, .slice p0.sa p0.sn p0.scap, .int .i64 p0.ac, .int .i64 p0.cl])] u7.drew fun e v => ∃ t : Stt, e = .returned (.agg #[.slice t.pa t.pn t.pcap, .slice t.sa t.sn t.scap, .int .i64 t.ac, .int .i64 t.cl]) ∧ Below u7.heap.size u7 v ∧ OwnT v u7.heap.size t ∧ Alike t p0 ∧ OwnT v u3.heap.size t_x ∧ v.cell? ⟨u4.heap.size, 0, none⟩ = some (.slice t_x.pa t_x.pn t_x.pcap) ∧ v.cell? ⟨u4.heap.size, 1, none⟩ = some (.slice t_x.sa t_x.sn t_x.scap) ∧ v.cell? ⟨u4.heap.size, 2, none⟩ = some (.int .i64 t_x.ac) ∧ v.cell? ⟨u4.heap.size, 3, none⟩ = some (.int .i64 t_x.cl) := (toState_ans p0 u7.drew (show p0.ok u7.drew from stt_grew k_p0 hB.drew) n_p0 n2_p0).mono (by rintro e v ⟨t, h1, h2, h3, h4⟩; have h5 : Below u7.heap.size u7 v := ((Below.refl _ u7).drew).trans h2; have b := b_x.grew h5; exact ⟨t, h1, h5, h3, h4, o_x.grew h5, b.cell 0, b.cell 1, b.cell 2, b.cell 3⟩)
    have c_x_0 := b_x.cell 0
    have c_x_1 := b_x.cell 1
    have c_x_2 := b_x.cell 2
    have c_x_3 := b_x.cell 3
    have c_p0_0 := b_p0.cell 0
    have c_p0_1 := b_p0.cell 1
    have c_p0_2 := b_p0.cell 2
    have c_p0_3 := b_p0.cell 3
    simp at c_x_0 c_x_1 c_x_2 c_x_3 c_p0_0 c_p0_1 c_p0_2 c_p0_3
    go_region_with_o (first | (go_at_call 10; refine tb.mono ?_; rintro e v1 ⟨t1, rfl, hb1, ot, et, ox, r0, r1, r2, r3⟩) | (go_at_call 13; refine (eqState_alike t_x t1 p0 _ ox ot e_x et (by omega) (by omega)).mono ?_; rintro e v2 ⟨rfl, hb2⟩))
    all_goals exact ⟨t1, rfl, below_app hb1 hb2 hb1.size⟩
  rintro t_ u8 hb
  simp only [puts, List.foldl, Act.put, List.setIfInBounds_toArray, List.set_cons_zero, List.set_cons_succ]
  replace o_w := o_w.grew hb
  replace o_x := o_x.grew hb
  replace o_g := o_g.grew hb
  replace b_p0 := b_p0.grew hb
  replace b_x := b_x.grew hb
  replace hB := below_app hB hb hB.size
  clear hb
  have c_x_0 := b_x.cell 0
  have c_x_1 := b_x.cell 1
  have c_x_2 := b_x.cell 2
  have c_x_3 := b_x.cell 3
  simp at c_x_0 c_x_1 c_x_2 c_x_3
  go_wp2_with fail
  refine (markState_any t_x 1 _ (by omega) (by omega) (by rw [e_x.pn]; exact (by omega)) (by rw [e_x.sn]; exact (by omega)) o_x).mono ?_
  rintro e u9 ⟨rfl, ho, om_⟩
  clear c_x_0 c_x_1 c_x_2 c_x_3
  have y_x : 0 ≤ 1 + 13 * (t_x.pn : Int) + 3 * (t_x.sn : Int) := by omega
  replace o_w := o_w.marked ho a_w_x
  replace o_g := o_g.marked ho a_g_x
  replace b_p0 := b_p0.marked ho d_p0_x
  replace b_x := b_x.marked ho d_x_x
  replace hB := below_marked hB o_x ho f_x hB.size
  clear ho o_x
  clear om_
  clear b_x
  go_wp2_with fail
  refine (eqByteS_same _ _ g_g g_w (ptN p0) _ _ _ _ (by omega) o_g.rd o_w.rd).mono ?_
  rintro e u10 ⟨rfl, hb⟩
  replace o_w := o_w.grew hb
  replace o_g := o_g.grew hb
  replace b_p0 := b_p0.grew hb
  replace hB := below_app hB hb hB.size
  clear hb
  go_wp2_with fail
  refine (markByteS_any _ g_g (ptN p0) _ 1 _ _ (by omega) (by omega) (by omega) o_g).mono ?_
  rintro e u11 ⟨rfl, ho, om_⟩
  replace o_w := o_w.only ho a_w_g
  replace b_p0 := b_p0.onlyR ho d_p0_g
  replace hB := below_only hB f_g hB.size ho
  clear ho o_g
  have o_g := om_
  clear om_
  go_wp2_with fail
  refine (heldByteS_any _ g_g (ptN p0) _ 1 _ (by omega) (by omega) (by omega) o_g.rd).mono ?_
  rintro e u12 ⟨rfl, hb⟩
  replace o_w := o_w.grew hb
  replace o_g := o_g.grew hb
  replace b_p0 := b_p0.grew hb
  replace hB := below_app hB hb hB.size
  clear hb
  have c_p0_0 := b_p0.cell 0
  have c_p0_1 := b_p0.cell 1
  have c_p0_2 := b_p0.cell 2
  have c_p0_3 := b_p0.cell 3
  simp at c_p0_0 c_p0_1 c_p0_2 c_p0_3
  go_wp2_with fail
  refine (toState_ans p0 _ (stt_grew k_p0 hB) n_p0 n2_p0).mono ?_
  rintro e u13 ⟨t_z, rfl, hb, o_z, e_z⟩
  clear c_p0_0 c_p0_1 c_p0_2 c_p0_3
  have a_w_z := away_old o_z o_w.2.1
  have a_g_z := away_old o_z o_g.2.1
  have d_p0_z := away_old o_z b_p0.lt
  have f_z : W.heap.size ≤ u12.heap.size := hB.size
  replace o_w := o_w.grew hb
  replace o_g := o_g.grew hb
  replace b_p0 := b_p0.grew hb
  replace hB := below_app hB hb hB.size
  clear hb
  go_wp2_with fail
  refine (implPutState_al o_z e_z k_p0 n_p0 n2_p0).mono ?_
  rintro e u14 ⟨g_h, c_h, rfl, hb, o_h⟩
  have a_w_h : g_w ≠ g_h := by have h1 := o_w.2.1; have h2 := o_h.1; omega
  have a_h_w : g_h ≠ g_w := a_w_h.symm
  have a_g_h : g_g ≠ g_h := by have h1 := o_g.2.1; have h2 := o_h.1; omega
  have a_h_g : g_h ≠ g_g := a_g_h.symm
  have a_h_z := away_new o_z o_h.1
  have d_p0_h : w.heap.size ≠ g_h := by have h1 := b_p0.lt; have h2 := o_h.1; omega
  have f_h : W.heap.size ≤ g_h := by have h1 := hB.size; have h2 := o_h.1; omega
  replace o_w := o_w.grew hb
  replace o_g := o_g.grew hb
  replace o_z := o_z.grew hb
  replace b_p0 := b_p0.grew hb
  replace hB := below_app hB hb hB.size
  clear hb
  clear o_z
  go_wp2_with fail
  refine (eqByteS_same _ _ g_h g_w (ptN p0) _ _ _ _ (by omega) o_h.rd o_w.rd).mono ?_
  rintro e u15 ⟨rfl, hb⟩
  replace o_w := o_w.grew hb
  replace o_g := o_g.grew hb
  replace o_h := o_h.grew hb
  replace b_p0 := b_p0.grew hb
  replace hB := below_app hB hb hB.size
  clear hb
  clear o_h
  clear o_w
  go_wp2_with fail
  refine (heldByteS_any _ g_g (ptN p0) _ 1 _ (by omega) (by omega) (by omega) o_g.rd).mono ?_
  rintro e u16 ⟨rfl, hb⟩
  replace o_g := o_g.grew hb
  replace b_p0 := b_p0.grew hb
  replace hB := below_app hB hb hB.size
  clear hb
  go_wp2
  go_ret
  exact ⟨rfl, below_app hBw hB hsz⟩

set_option maxRecDepth 100000 in
theorem lifted (os : Os) (started : os.Started) (H : Type) (enc : TypeId × Value → H) :
    ReturnsInHanded {} Try.checked os 3 .any (Rows.fnExactPutStateSpec.pre6 enc Try.prog Try.f3 Rows.fnExactPutStateRow.domain false) (Rows.fnExactPutStateSpec.post enc Try.prog Try.f3 false true false false) := by
  refine returnsInHanded_of_change (C := Try.checked) own started (by kernel_rfl) Try.func3
    (ChangeSpec.witness6 (enc := enc) (C := Try.checked) false ⟨#[], #[.agg #[.slice none 0 0, .slice none 0 0, .int .i64 0, .int .i64 0]], []⟩ 8 (by kernel_rfl) (by kernel_rfl) (by kernel_rfl) (by kernel_rfl)) ?_
  intro W base args ds gs before hval0 hW hcnd _
  have hval : ∀ (j : Nat) t v, Try.f3.params[j]? = some t → args[j]? = some v → Value.okWide Try.prog W .any base t v := hval0
  have hW' := hW
  obtain ⟨p, q, hA0, hV, rfl, hfz, hnd⟩ := hW
  have hA : DataW.TrodAll enc Try.prog W 0 (fun _ => true) true Try.f3.params.toList args.toList ds p := hA0
  rw [Try.params3] at hA hval
  obtain ⟨v0, vs0, d0, ds0, p0', q0, hargs, rfl, rfl, h0, r0⟩ := trodAll_cons hA
  obtain ⟨rfl, rfl, rfl⟩ := trodAll_nil r0
  obtain rfl : args = #[v0] := by cases args; simp_all
  obtain ⟨rfl, rfl⟩ := trodVars_none hV
  have k0 := h0
  have lt0 : ∀ x ∈ p0', x.block < W.heap.size := by obtain ⟨m, hm⟩ := k0; exact DataW.trod_lt m _ _ _ hm
  obtain ⟨p0, rfl, w0⟩ := open_state (hval 0 25 v0 rfl rfl) h0
  clear hA0 hval0
  refine (walk p0 W w0).mono fun e W' ⟨he, bel⟩ => ?_
  subst he
  exact ⟨_, rfl, _, _, _, [], _, [], hW', trodAll_mk1 (shut_bool Try.underlying4 _), (trodAll_cons_mk (Below.trod laidOut (by kernel_rfl) (of_decide_eq_true (by kernel_rfl)) k0 bel lt0) trodAll_mk0), rfl, bel.frame _, fun h => by cases h⟩

theorem over : Rows.fnExactPutStateRow.holds Try.pinned (OpenSpec.ofChange Rows.fnExactPutStateSpec) :=
  OpenClaim.holds_of_wide 3 Try.f3 rfl rfl rfl rfl rfl rfl rfl ⟨rfl, rfl, rfl, rfl, rfl⟩ rfl rfl rfl rfl rfl (by kernel_rfl) Try.func3 (by kernel_rfl)
    (of_decide_eq_true (by kernel_rfl)) (by unfold Func.isWrapper; first | (rw [if_pos (by decide +kernel)]; kernel_rfl) | (rw [if_neg (by decide +kernel)]; exact ⟨rfl, rfl⟩))
    (fun os started H enc _ => lifted os started H enc)

theorem proved : Rows.FnExactPutStateSaid := over
#print axioms proved
end Go.Proofs.Ytnlnledijpcjpap.fnExactPutState
