/-
  What is proved: at every int, the law FnExactStateNew answers true: the program's and the specification's answer alike, the answer lies in new memory, and the arguments read afterwards as before; no condition.
-/
import Derived.Test.YtpdoefcdajcloaoRows
import Derived.Test.YtpdoefcdajcloaoNum
import Derived.Test.YtpdoefcdajcloaoCur
import Derived.Test.YtpdoefcdajcloaoRow
import Derived.Test.YtpdoefcdajcloaoRowLaw
import Derived.Test.YtpdoefcdajcloaoPiece
import Derived.Test.YtpdoefcdajcloaoPiece2
import Derived.Test.YtpdoefcdajcloaoState1
import Derived.Test.YtpdoefcdajcloaoState2
import Derived.Test.YtpdoefcdajcloaoState3
import Derived.Test.YtpdoefcdajcloaoSeg
import Derived.Test.YtpdoefcdajcloaoRegCut
import Derived.Test.YtpdoefcdajcloaoRegTail
import Derived.Test.YtpdoefcdajcloaoRegBelow
import Derived.Test.YtpdoefcdajcloaoPiece3
import Derived.Test.YtpdoefcdajcloaoState4
import Derived.Test.YtpdoefcdajcloaoState5
import Derived.Test.YtpdoefcdajcloaoPieceOk
import Derived.Test.YtpdoefcdajcloaoState6
import Derived.Test.YtpdoefcdajcloaoState7
import Derived.Test.YtpdoefcdajcloaoBytes
import Derived.Test.YtpdoefcdajcloaoState8
import Derived.Test.YtpdoefcdajcloaoStAt
import Derived.Test.YtpdoefcdajcloaoStField
import Derived.Test.YtpdoefcdajcloaoPieceI1
import Derived.Test.YtpdoefcdajcloaoPieceI2
import Derived.Test.YtpdoefcdajcloaoPieceOkI
import Derived.Test.YtpdoefcdajcloaoStOkA
import Derived.Test.YtpdoefcdajcloaoStOkB
import Derived.Test.YtpdoefcdajcloaoStOkI
import Derived.Test.YtpdoefcdajcloaoStEq
import Derived.Test.YtpdoefcdajcloaoStSame
import Derived.Test.YtpdoefcdajcloaoStSameS
import Derived.Test.YtpdoefcdajcloaoStSameI
import Derived.Test.YtpdoefcdajcloaoStMark
import Derived.Test.YtpdoefcdajcloaoStHeld
import Derived.Test.YtpdoefcdajcloaoStNew
import Derived.Test.YtpdoefcdajcloaoStLaw
import Derived.Test.YtpdoefcdajcloaoStLawI
import Derived.WalkKit
import Derived.ProofKit
import Derived.OpenShut
import Derived.ShutString
import Derived.ChangeOld
import Derived.Below
namespace Go.Proofs.Ytpdoefcdajcloao.fnExactStateNew
open Go.ChangeShapes Go.WideShapes Go.ChangeAt Go.RowKit
set_option linter.unusedVariables false

theorem own : ownKnob Try.prog.godebug = none := by kernel_rfl
theorem laidOut : laidOutB Try.prog = true := by kernel_rfl

def IsRow (k : IntKind) (w : World) (a : Option Addr) (len cap : Nat) (zs : List Int) : Prop :=
  (a = none ∧ len = 0 ∧ cap = 0 ∧ zs = []) ∨
  ∃ x, a = some x ∧ len ≤ cap ∧ cap ≤ maxLen ∧ zs.length = cap ∧ (∀ i, i < zs.length → w.cell? (x.add i) = some (.int k (zs.getD i 0))) ∧ ∀ n ∈ zs, (Lit.int k n).wf = true

set_option maxHeartbeats 2000000 in
set_option maxHeartbeats 4000000 in
theorem walk (a0 : Int) (w : World) (w0 : (Lit.int .i64 a0).wf = true) :
    Calls Try.prog 5 #[.int .i64 a0] w fun e w' => e = .returned (.bool true) ∧ Below w.heap.size w w' := by
  have m_ : Try.prog.follows Departure.mixedOrders = true := by kernel_rfl
  have hBw := Below.refl w.heap.size w
  have hB := Below.refl w.heap.size w
  go_enter Try.func5, Try.ntmps5
  go_wp2_with fail
  refine (specStateNew_al a0 _).mono ?_
  rintro e u1 ⟨t_w, rfl, hb, o_w, e_w⟩
  have f_w : w.heap.size ≤ w.heap.size := hB.size
  replace hB := below_app hB hb hB.size
  clear hb
  have hb := (Below.refl _ u1).alloc (Nat.le_refl _) (.cells #[.slice t_w.pa t_w.pn t_w.pcap, .slice t_w.sa t_w.sn t_w.scap, .int .i64 t_w.ac, .int .i64 t_w.cl] 31)
  have b_w := boxR_new u1 31 #[.slice t_w.pa t_w.pn t_w.pcap, .slice t_w.sa t_w.sn t_w.scap, .int .i64 t_w.ac, .int .i64 t_w.cl]
  have d_w_w := away_new o_w (Nat.le_refl u1.heap.size)
  generalize hVw : u1.alloc (.cells #[.slice t_w.pa t_w.pn t_w.pcap, .slice t_w.sa t_w.sn t_w.scap, .int .i64 t_w.ac, .int .i64 t_w.cl] 31) = u2 at hb b_w
  replace o_w := o_w.grew hb
  replace hB := below_app hB hb hB.size
  clear hb
  go_wp2_with fail
  refine (implStateNew_al a0 _).mono ?_
  rintro e u3 ⟨t_g, rfl, hb, o_g, e_g⟩
  have a_w_g := apart_old o_w o_g (Nat.le_refl _)
  have a_g_w := apart_new o_g o_w (Nat.le_refl _)
  have d_w_g := away_old o_g b_w.lt
  have f_g : w.heap.size ≤ u2.heap.size := hB.size
  replace o_w := o_w.grew hb
  replace b_w := b_w.grew hb
  replace hB := below_app hB hb hB.size
  clear hb
  have hb := (Below.refl _ u3).alloc (Nat.le_refl _) (.cells #[.slice t_g.pa t_g.pn t_g.pcap, .slice t_g.sa t_g.sn t_g.scap, .int .i64 t_g.ac, .int .i64 t_g.cl] 31)
  have b_g := boxR_new u3 31 #[.slice t_g.pa t_g.pn t_g.pcap, .slice t_g.sa t_g.sn t_g.scap, .int .i64 t_g.ac, .int .i64 t_g.cl]
  have d_g_w := away_new o_w (Nat.le_refl u3.heap.size)
  have d_g_g := away_new o_g (Nat.le_refl u3.heap.size)
  generalize hVg : u3.alloc (.cells #[.slice t_g.pa t_g.pn t_g.pcap, .slice t_g.sa t_g.sn t_g.scap, .int .i64 t_g.ac, .int .i64 t_g.cl] 31) = u4 at hb b_g
  replace o_w := o_w.grew hb
  replace o_g := o_g.grew hb
  replace b_w := b_w.grew hb
  replace hB := below_app hB hb hB.size
  clear hb
  have c_g_0 := b_g.cell 0
  have c_g_1 := b_g.cell 1
  have c_g_2 := b_g.cell 2
  have c_g_3 := b_g.cell 3
  have c_w_0 := b_w.cell 0
  have c_w_1 := b_w.cell 1
  have c_w_2 := b_w.cell 2
  have c_w_3 := b_w.cell 3
  simp at c_g_0 c_g_1 c_g_2 c_g_3 c_w_0 c_w_1 c_w_2 c_w_3
  go_wp2_with fail
  refine (eqState_alike t_g t_w (nwS a0) _ o_g o_w e_g e_w (Nat.zero_le _) (by have := nwN_le a0; show nwN a0 ≤ 1048577; omega)).mono ?_
  rintro e u5 ⟨rfl, hb⟩
  clear c_g_0 c_g_1 c_g_2 c_g_3 c_w_0 c_w_1 c_w_2 c_w_3
  replace o_w := o_w.grew hb
  replace o_g := o_g.grew hb
  replace b_w := b_w.grew hb
  replace b_g := b_g.grew hb
  replace hB := below_app hB hb hB.size
  clear hb
  have c_g_0 := b_g.cell 0
  have c_g_1 := b_g.cell 1
  have c_g_2 := b_g.cell 2
  have c_g_3 := b_g.cell 3
  simp at c_g_0 c_g_1 c_g_2 c_g_3
  go_wp2_with fail
  refine (markState_any t_g 1 _ (by omega) (by omega) (by rw [e_g.pn]; exact (Nat.zero_le _)) (by rw [e_g.sn]; exact (by have := nwN_le a0; show nwN a0 ≤ 1048577; omega)) o_g).mono ?_
  rintro e u6 ⟨rfl, ho, om_⟩
  clear c_g_0 c_g_1 c_g_2 c_g_3
  have y_g : 0 ≤ 1 + 13 * (t_g.pn : Int) + 3 * (t_g.sn : Int) := by omega
  replace o_w := o_w.marked ho a_w_g
  replace b_w := b_w.marked ho d_w_g
  replace b_g := b_g.marked ho d_g_g
  replace hB := below_marked hB o_g ho f_g hB.size
  clear ho o_g
  have o_g := om_
  clear om_
  have c_g_0 := b_g.cell 0
  have c_g_1 := b_g.cell 1
  have c_g_2 := b_g.cell 2
  have c_g_3 := b_g.cell 3
  simp at c_g_0 c_g_1 c_g_2 c_g_3
  go_wp2_with fail
  refine (heldState_any t_g 1 _ (by omega) (by omega) (by rw [e_g.pn]; exact (Nat.zero_le _)) (by rw [e_g.sn]; exact (by have := nwN_le a0; show nwN a0 ≤ 1048577; omega)) o_g).mono ?_
  rintro e u7 ⟨rfl, hb⟩
  clear c_g_0 c_g_1 c_g_2 c_g_3
  replace o_w := o_w.grew hb
  replace o_g := o_g.grew hb
  replace b_w := b_w.grew hb
  replace b_g := b_g.grew hb
  replace hB := below_app hB hb hB.size
  clear hb
  go_wp2_with fail
  refine (implStateNew_al a0 _).mono ?_
  rintro e u8 ⟨t_h, rfl, hb, o_h, e_h⟩
  have a_w_h := apart_old o_w o_h (Nat.le_refl _)
  have a_h_w := apart_new o_h o_w (Nat.le_refl _)
  have a_g_h := apart_old o_g o_h (Nat.le_refl _)
  have a_h_g := apart_new o_h o_g (Nat.le_refl _)
  have d_w_h := away_old o_h b_w.lt
  have d_g_h := away_old o_h b_g.lt
  have f_h : w.heap.size ≤ u7.heap.size := hB.size
  replace o_w := o_w.grew hb
  replace o_g := o_g.grew hb
  replace b_w := b_w.grew hb
  replace b_g := b_g.grew hb
  replace hB := below_app hB hb hB.size
  clear hb
  have hb := (Below.refl _ u8).alloc (Nat.le_refl _) (.cells #[.slice t_h.pa t_h.pn t_h.pcap, .slice t_h.sa t_h.sn t_h.scap, .int .i64 t_h.ac, .int .i64 t_h.cl] 31)
  have b_h := boxR_new u8 31 #[.slice t_h.pa t_h.pn t_h.pcap, .slice t_h.sa t_h.sn t_h.scap, .int .i64 t_h.ac, .int .i64 t_h.cl]
  have d_h_w := away_new o_w (Nat.le_refl u8.heap.size)
  have d_h_g := away_new o_g (Nat.le_refl u8.heap.size)
  have d_h_h := away_new o_h (Nat.le_refl u8.heap.size)
  generalize hVh : u8.alloc (.cells #[.slice t_h.pa t_h.pn t_h.pcap, .slice t_h.sa t_h.sn t_h.scap, .int .i64 t_h.ac, .int .i64 t_h.cl] 31) = u9 at hb b_h
  replace o_w := o_w.grew hb
  replace o_g := o_g.grew hb
  replace o_h := o_h.grew hb
  replace b_w := b_w.grew hb
  replace b_g := b_g.grew hb
  replace hB := below_app hB hb hB.size
  clear hb
  have c_h_0 := b_h.cell 0
  have c_h_1 := b_h.cell 1
  have c_h_2 := b_h.cell 2
  have c_h_3 := b_h.cell 3
  have c_w_0 := b_w.cell 0
  have c_w_1 := b_w.cell 1
  have c_w_2 := b_w.cell 2
  have c_w_3 := b_w.cell 3
  simp at c_h_0 c_h_1 c_h_2 c_h_3 c_w_0 c_w_1 c_w_2 c_w_3
  go_wp2_with fail
  refine (eqState_alike t_h t_w (nwS a0) _ o_h o_w e_h e_w (Nat.zero_le _) (by have := nwN_le a0; show nwN a0 ≤ 1048577; omega)).mono ?_
  rintro e u10 ⟨rfl, hb⟩
  clear c_h_0 c_h_1 c_h_2 c_h_3 c_w_0 c_w_1 c_w_2 c_w_3
  replace o_w := o_w.grew hb
  replace o_g := o_g.grew hb
  replace o_h := o_h.grew hb
  replace b_w := b_w.grew hb
  replace b_g := b_g.grew hb
  replace b_h := b_h.grew hb
  replace hB := below_app hB hb hB.size
  clear hb
  clear o_h
  clear o_w
  have c_g_0 := b_g.cell 0
  have c_g_1 := b_g.cell 1
  have c_g_2 := b_g.cell 2
  have c_g_3 := b_g.cell 3
  simp at c_g_0 c_g_1 c_g_2 c_g_3
  go_wp2_with fail
  refine (heldState_any t_g 1 _ (by omega) (by omega) (by rw [e_g.pn]; exact (Nat.zero_le _)) (by rw [e_g.sn]; exact (by have := nwN_le a0; show nwN a0 ≤ 1048577; omega)) o_g).mono ?_
  rintro e u11 ⟨rfl, hb⟩
  clear c_g_0 c_g_1 c_g_2 c_g_3
  replace o_g := o_g.grew hb
  replace b_w := b_w.grew hb
  replace b_g := b_g.grew hb
  replace b_h := b_h.grew hb
  replace hB := below_app hB hb hB.size
  clear hb
  go_wp2
  go_ret
  exact ⟨rfl, hB⟩

set_option maxRecDepth 100000 in
theorem lifted (os : Os) (started : os.Started) (H : Type) (enc : TypeId × Value → H) :
    ReturnsInHanded {} Try.checked os 5 .any (Rows.fnExactStateNewSpec.pre6 enc Try.prog Try.f5 Rows.fnExactStateNewRow.domain false) (Rows.fnExactStateNewSpec.post enc Try.prog Try.f5 false true false false) := by
  refine returnsInHanded_of_change (C := Try.checked) own started (by kernel_rfl) Try.func5
    (ChangeSpec.witness6 (enc := enc) (C := Try.checked) false ⟨#[], #[.int .i64 0], []⟩ 8 (by kernel_rfl) (by kernel_rfl) (by kernel_rfl) (by kernel_rfl)) ?_
  intro W base args ds gs before hval0 hW hcnd _
  have hval : ∀ (j : Nat) t v, Try.f5.params[j]? = some t → args[j]? = some v → Value.okWide Try.prog W .any base t v := hval0
  have hW' := hW
  obtain ⟨p, q, hA0, hV, rfl, hfz, hnd⟩ := hW
  have hA : DataW.TrodAll enc Try.prog W 0 (fun _ => true) true Try.f5.params.toList args.toList ds p := hA0
  rw [Try.params5] at hA hval
  obtain ⟨v0, vs0, d0, ds0, p0', q0, hargs, rfl, rfl, h0, r0⟩ := trodAll_cons hA
  obtain ⟨rfl, rfl, rfl⟩ := trodAll_nil r0
  obtain rfl : args = #[v0] := by cases args; simp_all
  obtain ⟨rfl, rfl⟩ := trodVars_none hV
  obtain ⟨a0, rfl, rfl, rfl, w0⟩ := open_int Try.underlying3 (hval 0 3 v0 rfl rfl) h0
  clear hA0 hval0
  refine (walk a0 W w0).mono fun e W' ⟨he, bel⟩ => ?_
  subst he
  exact ⟨_, rfl, _, _, _, [], _, [], hW', trodAll_mk1 (shut_bool Try.underlying4 _), (trodAll_cons_mk (shut_int Try.underlying3 w0) trodAll_mk0), rfl, bel.frame _, fun h => by cases h⟩

theorem over : Rows.fnExactStateNewRow.holds Try.pinned (OpenSpec.ofChange Rows.fnExactStateNewSpec) :=
  OpenClaim.holds_of_wide 5 Try.f5 rfl rfl rfl rfl rfl rfl rfl ⟨rfl, rfl, rfl, rfl, rfl⟩ rfl rfl rfl rfl rfl (by kernel_rfl) Try.func5 (by kernel_rfl)
    (of_decide_eq_true (by kernel_rfl)) (by unfold Func.isWrapper; first | (rw [if_pos (by decide +kernel)]; kernel_rfl) | (rw [if_neg (by decide +kernel)]; exact ⟨rfl, rfl⟩))
    (fun os started H enc _ => lifted os started H enc)

theorem proved : Rows.FnExactStateNewSaid := over
#print axioms proved
end Go.Proofs.Ytpdoefcdajcloao.fnExactStateNew
