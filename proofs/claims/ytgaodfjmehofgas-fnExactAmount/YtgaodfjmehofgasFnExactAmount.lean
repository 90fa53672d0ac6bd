/-
  What is proved: at every act and every int, the law FnExactAmount answers true: the program's and the specification's answer alike, and the arguments read afterwards as before; no condition.
-/
import Derived.Test.YtgaodfjmehofgasRows
import Derived.Test.YtgaodfjmehofgasRegCut
import Derived.Test.YtgaodfjmehofgasCur
import Derived.Test.YtgaodfjmehofgasPiece
import Derived.Test.YtgaodfjmehofgasRow
import Derived.Test.YtgaodfjmehofgasPiece2
import Derived.Test.YtgaodfjmehofgasState1
import Derived.Test.YtgaodfjmehofgasRowLaw
import Derived.Test.YtgaodfjmehofgasState2
import Derived.Test.YtgaodfjmehofgasState3
import Derived.Test.YtgaodfjmehofgasSeg
import Derived.Test.YtgaodfjmehofgasRegTail
import Derived.Test.YtgaodfjmehofgasRegBelow
import Derived.Test.YtgaodfjmehofgasNum
import Derived.Test.YtgaodfjmehofgasPiece3
import Derived.Test.YtgaodfjmehofgasState4
import Derived.Test.YtgaodfjmehofgasState5
import Derived.Test.YtgaodfjmehofgasStMark
import Derived.Test.YtgaodfjmehofgasPieceOk
import Derived.Test.YtgaodfjmehofgasState6
import Derived.Test.YtgaodfjmehofgasStHeld
import Derived.Test.YtgaodfjmehofgasStEq
import Derived.Test.YtgaodfjmehofgasStSame
import Derived.Test.YtgaodfjmehofgasStLaw
import Derived.Test.YtgaodfjmehofgasEvA
import Derived.Test.YtgaodfjmehofgasEvN
import Derived.Test.YtgaodfjmehofgasAcR
import Derived.Test.YtgaodfjmehofgasAcA
import Derived.Test.YtgaodfjmehofgasEvW
import Derived.Test.YtgaodfjmehofgasEvB1
import Derived.Test.YtgaodfjmehofgasEvB2
import Derived.Test.YtgaodfjmehofgasEvB
import Derived.Test.YtgaodfjmehofgasAcB
import Derived.Test.YtgaodfjmehofgasBytes
import Derived.Test.YtgaodfjmehofgasState8
import Derived.Test.YtgaodfjmehofgasStAt
import Derived.Test.YtgaodfjmehofgasAcC
import Derived.Test.YtgaodfjmehofgasAcD
import Derived.Test.YtgaodfjmehofgasAcL
import Derived.Test.YtgaodfjmehofgasPieceI1
import Derived.Test.YtgaodfjmehofgasEvC
import Derived.Test.YtgaodfjmehofgasEvC1
import Derived.Test.YtgaodfjmehofgasEvC2
import Derived.Test.YtgaodfjmehofgasEvC3
import Derived.Test.YtgaodfjmehofgasEvD
import Derived.Test.YtgaodfjmehofgasAcF
import Derived.Test.YtgaodfjmehofgasAcG
import Derived.Test.YtgaodfjmehofgasAcH
import Derived.Test.YtgaodfjmehofgasAcM
import Derived.WalkKit
import Derived.Deep.RegionHeld
import Derived.ProofKit
import Derived.OpenShut
import Derived.ShutString
import Derived.ChangeOld
import Derived.Below
namespace Go.Proofs.Ytgaodfjmehofgas.fnExactAmount
open Go.ChangeShapes Go.WideShapes Go.ChangeAt Go.RowKit
set_option linter.unusedVariables false

theorem own : ownKnob Try.prog.godebug = none := by kernel_rfl
theorem laidOut : laidOutB Try.prog = true := by kernel_rfl

def IsRow (k : IntKind) (w : World) (a : Option Addr) (len cap : Nat) (zs : List Int) : Prop :=
  (a = none ∧ len = 0 ∧ cap = 0 ∧ zs = []) ∨
  ∃ x, a = some x ∧ len ≤ cap ∧ cap ≤ maxLen ∧ zs.length = cap ∧ (∀ i, i < zs.length → w.cell? (x.add i) = some (.int k (zs.getD i 0))) ∧ ∀ n ∈ zs, (Lit.int k n).wf = true

set_option maxHeartbeats 2000000 in
set_option maxHeartbeats 4000000 in
theorem walk (p0 : Ac) (a1 : Int) (w : World) (w0 : p0.ok w) (w1 : (Lit.int .i64 a1).wf = true) :
    Calls Try.prog 3 #[.agg #[.int .i64 p0.kd, .int .i64 p0.nn, .int .i64 p0.pi, .int .i64 p0.si, .int .i64 p0.zo, .bool p0.be, .slice p0.la p0.ln p0.lcap], .int .i64 a1] w fun e w' => e = .returned (.bool true) ∧ Below w.heap.size w w' := by
  have m_ : Try.prog.follows Departure.mixedOrders = true := by kernel_rfl
  have hBw := (Below.refl _ w).alloc (Nat.le_refl _) (.cells #[.int .i64 p0.kd, .int .i64 p0.nn, .int .i64 p0.pi, .int .i64 p0.si, .int .i64 p0.zo, .bool p0.be, .slice p0.la p0.ln p0.lcap] 24)
  have b_c0 := boxR_new w 24 #[.int .i64 p0.kd, .int .i64 p0.nn, .int .i64 p0.pi, .int .i64 p0.si, .int .i64 p0.zo, .bool p0.be, .slice p0.la p0.ln p0.lcap]
  generalize hW : w.alloc (.cells #[.int .i64 p0.kd, .int .i64 p0.nn, .int .i64 p0.pi, .int .i64 p0.si, .int .i64 p0.zo, .bool p0.be, .slice p0.la p0.ln p0.lcap] 24) = W at hBw b_c0
  have l_c0 := b_c0.lt
  have hsz : w.heap.size ≤ W.heap.size := hBw.size
  have k_c0 := act_grew w0 hBw
  have hB := Below.refl W.heap.size W
  have hmx : p0.ln ≤ 9223372036854775807 := by have := k_c0.1; have := k_c0.2.1; unfold maxLen at *; omega
  by_cases z : (1048576 : Int) - (p0.ln : Int) < 0
  · have Z : Hid (szN p0.ln 1048576 = -1) := by show szN p0.ln 1048576 = -1; unfold szN; rw [if_pos z]
    go_enter Try.func3, Try.ntmps3
    have c_c0_0 : W.cell? ⟨w.heap.size, 0, none⟩ = some (.int .i64 p0.kd) := b_c0.cell 0
    have c_c0_1 : W.cell? ⟨w.heap.size, 1, none⟩ = some (.int .i64 p0.nn) := b_c0.cell 1
    have c_c0_2 : W.cell? ⟨w.heap.size, 2, none⟩ = some (.int .i64 p0.pi) := b_c0.cell 2
    have c_c0_3 : W.cell? ⟨w.heap.size, 3, none⟩ = some (.int .i64 p0.si) := b_c0.cell 3
    have c_c0_4 : W.cell? ⟨w.heap.size, 4, none⟩ = some (.int .i64 p0.zo) := b_c0.cell 4
    have c_c0_5 : W.cell? ⟨w.heap.size, 5, none⟩ = some (.bool p0.be) := b_c0.cell 5
    have c_c0_6 : W.cell? ⟨w.heap.size, 6, none⟩ = some (.slice p0.la p0.ln p0.lcap) := b_c0.cell 6
    go_wp2_with fail
    refine (szAct_any p0 1048576 _ hmx (by omega)).mono ?_
    rintro e y1_ ⟨rfl, hb⟩
    clear c_c0_0 c_c0_1 c_c0_2 c_c0_3 c_c0_4 c_c0_5 c_c0_6
    try clear hW
    replace b_c0 := b_c0.grew hb
    replace hB := below_app hB hb hB.size
    clear hb
    rw [Z.out]
    go_wp2
    go_ret
    exact ⟨rfl, below_app hBw hB hsz⟩
  have n_c0 : p0.ln ≤ 1048576 := by omega
  have Y : Hid (szN p0.ln 1048576 = 1048576 - (p0.ln : Int)) := by show szN p0.ln 1048576 = _; unfold szN; rw [if_neg z]
  have y0 : 0 ≤ 1048576 - (p0.ln : Int) := by omega
  clear z
  go_enter Try.func3, Try.ntmps3
  have c_c0_0 : W.cell? ⟨w.heap.size, 0, none⟩ = some (.int .i64 p0.kd) := b_c0.cell 0
  have c_c0_1 : W.cell? ⟨w.heap.size, 1, none⟩ = some (.int .i64 p0.nn) := b_c0.cell 1
  have c_c0_2 : W.cell? ⟨w.heap.size, 2, none⟩ = some (.int .i64 p0.pi) := b_c0.cell 2
  have c_c0_3 : W.cell? ⟨w.heap.size, 3, none⟩ = some (.int .i64 p0.si) := b_c0.cell 3
  have c_c0_4 : W.cell? ⟨w.heap.size, 4, none⟩ = some (.int .i64 p0.zo) := b_c0.cell 4
  have c_c0_5 : W.cell? ⟨w.heap.size, 5, none⟩ = some (.bool p0.be) := b_c0.cell 5
  have c_c0_6 : W.cell? ⟨w.heap.size, 6, none⟩ = some (.slice p0.la p0.ln p0.lcap) := b_c0.cell 6
  go_wp2_with fail
  refine (szAct_any p0 1048576 _ hmx (by omega)).mono ?_
  rintro e y1_ ⟨rfl, hb⟩
  clear c_c0_0 c_c0_1 c_c0_2 c_c0_3 c_c0_4 c_c0_5 c_c0_6
  try clear hW
  replace b_c0 := b_c0.grew hb
  replace hB := below_app hB hb hB.size
  clear hb
  rw [Y.out]
  clear hmx
  have c_c0_0 : y1_.cell? ⟨w.heap.size, 0, none⟩ = some (.int .i64 p0.kd) := b_c0.cell 0
  have c_c0_1 : y1_.cell? ⟨w.heap.size, 1, none⟩ = some (.int .i64 p0.nn) := b_c0.cell 1
  have c_c0_2 : y1_.cell? ⟨w.heap.size, 2, none⟩ = some (.int .i64 p0.pi) := b_c0.cell 2
  have c_c0_3 : y1_.cell? ⟨w.heap.size, 3, none⟩ = some (.int .i64 p0.si) := b_c0.cell 3
  have c_c0_4 : y1_.cell? ⟨w.heap.size, 4, none⟩ = some (.int .i64 p0.zo) := b_c0.cell 4
  have c_c0_5 : y1_.cell? ⟨w.heap.size, 5, none⟩ = some (.bool p0.be) := b_c0.cell 5
  have c_c0_6 : y1_.cell? ⟨w.heap.size, 6, none⟩ = some (.slice p0.la p0.ln p0.lcap) := b_c0.cell 6
  go_wp2_with fail
  refine (toAct_ans p0 _ (act_grew k_c0 hB) n_c0).mono ?_
  rintro e y2_ ⟨t_y, rfl, hb, o_y, e_y⟩
  clear c_c0_0 c_c0_1 c_c0_2 c_c0_3 c_c0_4 c_c0_5 c_c0_6
  have d_c0_y : w.heap.size ≠ t_y.lb := by have h1 := b_c0.lt; have h2 := o_y.2.2.1; omega
  have f_y : W.heap.size ≤ t_y.lb := by have := o_y.2.2.1; have := hB.size; omega
  replace b_c0 := b_c0.grew hb
  replace hB := below_app hB hb hB.size
  clear hb
  go_wp2_with fail
  refine (specAmount_al a1 o_y e_y k_c0 n_c0).mono ?_
  rintro e y3_ ⟨rfl, hb⟩
  replace o_y := o_y.grew hb
  replace b_c0 := b_c0.grew hb
  replace hB := below_app hB hb hB.size
  clear hb
  clear o_y
  have c_c0_0 : y3_.cell? ⟨w.heap.size, 0, none⟩ = some (.int .i64 p0.kd) := b_c0.cell 0
  have c_c0_1 : y3_.cell? ⟨w.heap.size, 1, none⟩ = some (.int .i64 p0.nn) := b_c0.cell 1
  have c_c0_2 : y3_.cell? ⟨w.heap.size, 2, none⟩ = some (.int .i64 p0.pi) := b_c0.cell 2
  have c_c0_3 : y3_.cell? ⟨w.heap.size, 3, none⟩ = some (.int .i64 p0.si) := b_c0.cell 3
  have c_c0_4 : y3_.cell? ⟨w.heap.size, 4, none⟩ = some (.int .i64 p0.zo) := b_c0.cell 4
  have c_c0_5 : y3_.cell? ⟨w.heap.size, 5, none⟩ = some (.bool p0.be) := b_c0.cell 5
  have c_c0_6 : y3_.cell? ⟨w.heap.size, 6, none⟩ = some (.slice p0.la p0.ln p0.lcap) := b_c0.cell 6
  go_wp2_with fail
  refine (toAct_ans p0 _ (act_grew k_c0 hB) n_c0).mono ?_
  rintro e y4_ ⟨t_x, rfl, hb, o_x, e_x⟩
  clear c_c0_0 c_c0_1 c_c0_2 c_c0_3 c_c0_4 c_c0_5 c_c0_6
  have d_c0_x : w.heap.size ≠ t_x.lb := by have h1 := b_c0.lt; have h2 := o_x.2.2.1; omega
  have f_x : W.heap.size ≤ t_x.lb := by have := o_x.2.2.1; have := hB.size; omega
  replace b_c0 := b_c0.grew hb
  replace hB := below_app hB hb hB.size
  clear hb
  have hb := (Below.refl _ y4_).alloc (Nat.le_refl _) (.cells #[.int .i64 t_x.kd, .int .i64 t_x.nn, .int .i64 t_x.pi, .int .i64 t_x.si, .int .i64 t_x.zo, .bool t_x.be, .slice t_x.la t_x.ln t_x.lcap] 29)
  have b_x := boxR_new y4_ 29 #[.int .i64 t_x.kd, .int .i64 t_x.nn, .int .i64 t_x.pi, .int .i64 t_x.si, .int .i64 t_x.zo, .bool t_x.be, .slice t_x.la t_x.ln t_x.lcap]
  have d_x_x : y4_.heap.size ≠ t_x.lb := by have h1 := o_x.2.2.2.1; omega
  generalize hVx : y4_.alloc (.cells #[.int .i64 t_x.kd, .int .i64 t_x.nn, .int .i64 t_x.pi, .int .i64 t_x.si, .int .i64 t_x.zo, .bool t_x.be, .slice t_x.la t_x.ln t_x.lcap] 29) = y5_ at hb b_x
  replace o_x := o_x.grew hb
  replace b_c0 := b_c0.grew hb
  replace hB := below_app hB hb hB.size
  clear hb
  have c_x_0 : y5_.cell? ⟨y4_.heap.size, 0, none⟩ = some (.int .i64 t_x.kd) := b_x.cell 0
  have c_x_1 : y5_.cell? ⟨y4_.heap.size, 1, none⟩ = some (.int .i64 t_x.nn) := b_x.cell 1
  have c_x_2 : y5_.cell? ⟨y4_.heap.size, 2, none⟩ = some (.int .i64 t_x.pi) := b_x.cell 2
  have c_x_3 : y5_.cell? ⟨y4_.heap.size, 3, none⟩ = some (.int .i64 t_x.si) := b_x.cell 3
  have c_x_4 : y5_.cell? ⟨y4_.heap.size, 4, none⟩ = some (.int .i64 t_x.zo) := b_x.cell 4
  have c_x_5 : y5_.cell? ⟨y4_.heap.size, 5, none⟩ = some (.bool t_x.be) := b_x.cell 5
  have c_x_6 : y5_.cell? ⟨y4_.heap.size, 6, none⟩ = some (.slice t_x.la t_x.ln t_x.lcap) := b_x.cell 6
  go_wp2_with fail
  refine (implAmount_al a1 o_x e_x k_c0 n_c0).mono ?_
  rintro e y6_ ⟨rfl, hb⟩
  clear c_x_0 c_x_1 c_x_2 c_x_3 c_x_4 c_x_5 c_x_6
  replace o_x := o_x.grew hb
  replace b_c0 := b_c0.grew hb
  replace b_x := b_x.grew hb
  replace hB := below_app hB hb hB.size
  clear hb
  go_wp2_with fail
  refine wp_cutT (fun t : Ac => [(26, (.agg #[.int .i64 t_x.kd, .int .i64 t_x.nn, .int .i64 t_x.pi, .int .i64 t_x.si, .int .i64 t_x.zo, .bool t_x.be, .slice t_x.la t_x.ln t_x.lcap])), (27, (.agg #[.int .i64 p0.kd, .int .i64 p0.nn, .int .i64 p0.pi, .int .i64 p0.si, .int .i64 p0.zo, .bool p0.be, .slice p0.la p0.ln p0.lcap])), (28, (.agg #[.int .i64 t.kd, .int .i64 t.nn, .int .i64 t.pi, .int .i64 t.si, .int .i64 t.zo, .bool t.be, .slice t.la t.ln t.lcap])), (29, .bool true), (30, .bool false)]) (fun _ u => Below y6_.heap.size y6_ u) ?_ ?_
  · have tb : Calls Try.prog 9 #[(.agg #[.int .i64 p0.kd, .int .i64 p0.nn, .int .i64 p0.pi, .int .i64 p0.si, .int .i64 p0.zo, .bool p0.be, .slice p0.la p0.ln p0.lcap])] y6_.drew fun e v => ∃ t : Ac, e = .returned (.agg #[.int .i64 t.kd, .int .i64 t.nn, .int .i64 t.pi, .int .i64 t.si, .int .i64 t.zo, .bool t.be, .slice t.la t.ln t.lcap]) ∧ Below y6_.heap.size y6_ v ∧ OwnA v y6_.heap.size t ∧ AlikeA t p0 ∧ OwnA v _ t_x ∧ v.cell? ⟨y4_.heap.size, 0, none⟩ = some (.int .i64 t_x.kd) ∧ v.cell? ⟨y4_.heap.size, 1, none⟩ = some (.int .i64 t_x.nn) ∧ v.cell? ⟨y4_.heap.size, 2, none⟩ = some (.int .i64 t_x.pi) ∧ v.cell? ⟨y4_.heap.size, 3, none⟩ = some (.int .i64 t_x.si) ∧ v.cell? ⟨y4_.heap.size, 4, none⟩ = some (.int .i64 t_x.zo) ∧ v.cell? ⟨y4_.heap.size, 5, none⟩ = some (.bool t_x.be) ∧ v.cell? ⟨y4_.heap.size, 6, none⟩ = some (.slice t_x.la t_x.ln t_x.lcap) := (toAct_ans p0 y6_.drew (show p0.ok y6_.drew from act_grew k_c0 hB.drew) n_c0).mono (by rintro e v ⟨t, h1, h2, h3, h4⟩; have h5 : Below y6_.heap.size y6_ v := ((Below.refl _ y6_).drew).trans h2; have b := b_x.grew h5; exact ⟨t, h1, h5, h3, h4, o_x.grew h5, b.cell 0, b.cell 1, b.cell 2, b.cell 3, b.cell 4, b.cell 5, b.cell 6⟩)
    have c_x_0 : y6_.cell? ⟨y4_.heap.size, 0, none⟩ = some (.int .i64 t_x.kd) := b_x.cell 0
    have c_x_1 : y6_.cell? ⟨y4_.heap.size, 1, none⟩ = some (.int .i64 t_x.nn) := b_x.cell 1
    have c_x_2 : y6_.cell? ⟨y4_.heap.size, 2, none⟩ = some (.int .i64 t_x.pi) := b_x.cell 2
    have c_x_3 : y6_.cell? ⟨y4_.heap.size, 3, none⟩ = some (.int .i64 t_x.si) := b_x.cell 3
    have c_x_4 : y6_.cell? ⟨y4_.heap.size, 4, none⟩ = some (.int .i64 t_x.zo) := b_x.cell 4
    have c_x_5 : y6_.cell? ⟨y4_.heap.size, 5, none⟩ = some (.bool t_x.be) := b_x.cell 5
    have c_x_6 : y6_.cell? ⟨y4_.heap.size, 6, none⟩ = some (.slice t_x.la t_x.ln t_x.lcap) := b_x.cell 6
    have c_c0_0 : y6_.cell? ⟨w.heap.size, 0, none⟩ = some (.int .i64 p0.kd) := b_c0.cell 0
    have c_c0_1 : y6_.cell? ⟨w.heap.size, 1, none⟩ = some (.int .i64 p0.nn) := b_c0.cell 1
    have c_c0_2 : y6_.cell? ⟨w.heap.size, 2, none⟩ = some (.int .i64 p0.pi) := b_c0.cell 2
    have c_c0_3 : y6_.cell? ⟨w.heap.size, 3, none⟩ = some (.int .i64 p0.si) := b_c0.cell 3
    have c_c0_4 : y6_.cell? ⟨w.heap.size, 4, none⟩ = some (.int .i64 p0.zo) := b_c0.cell 4
    have c_c0_5 : y6_.cell? ⟨w.heap.size, 5, none⟩ = some (.bool p0.be) := b_c0.cell 5
    have c_c0_6 : y6_.cell? ⟨w.heap.size, 6, none⟩ = some (.slice p0.la p0.ln p0.lcap) := b_c0.cell 6
    go_region_with_o (first | (go_at_call 9; refine tb.mono ?_; rintro e v1 ⟨t1, rfl, hb1, ot, et, ox, r0, r1, r2, r3, r4, r5, r6⟩) | (go_at_call 11; refine (eqAct_alike t_x t1 p0 _ ox ot e_x et (by omega)).mono ?_; rintro e v2 ⟨rfl, hb2⟩))
    all_goals exact ⟨t1, rfl, below_app hb1 hb2 hb1.size⟩
  rintro t_ y7_ hb
  simp only [puts, List.foldl, Act.put, List.setIfInBounds_toArray, List.set_cons_zero, List.set_cons_succ]
  replace o_x := o_x.grew hb
  replace b_c0 := b_c0.grew hb
  replace b_x := b_x.grew hb
  replace hB := below_app hB hb hB.size
  clear hb
  go_wp2
  go_ret
  exact ⟨rfl, below_app hBw hB hsz⟩

set_option maxRecDepth 100000 in
theorem lifted (os : Os) (started : os.Started) (H : Type) (enc : TypeId × Value → H) :
    ReturnsInHanded {} Try.checked os 3 .any (Rows.fnExactAmountSpec.pre6 enc Try.prog Try.f3 Rows.fnExactAmountRow.domain false) (Rows.fnExactAmountSpec.post enc Try.prog Try.f3 false true false false) := by
  refine returnsInHanded_of_change (C := Try.checked) own started (by kernel_rfl) Try.func3
    (ChangeSpec.witness6 (enc := enc) (C := Try.checked) false ⟨#[], #[.agg #[.int .i64 0, .int .i64 0, .int .i64 0, .int .i64 0, .int .i64 0, .bool false, .slice none 0 0], .int .i64 0], []⟩ 8 (by kernel_rfl) (by kernel_rfl) (by kernel_rfl) (by kernel_rfl)) ?_
  intro W base args ds gs before hval0 hW hcnd _
  have hval : ∀ (j : Nat) t v, Try.f3.params[j]? = some t → args[j]? = some v → Value.okWide Try.prog W .any base t v := hval0
  have hW' := hW
  obtain ⟨p, q, hA0, hV, rfl, hfz, hnd⟩ := hW
  have hA : DataW.TrodAll enc Try.prog W 0 (fun _ => true) true Try.f3.params.toList args.toList ds p := hA0
  rw [Try.params3] at hA hval
  obtain ⟨v0, vs0, d0, ds0, p0', q0, hargs, rfl, rfl, h0, r0⟩ := trodAll_cons hA
  obtain ⟨v1, vs1, d1, ds1, p1', q1, rfl, rfl, rfl, h1, r1⟩ := trodAll_cons r0
  obtain ⟨rfl, rfl, rfl⟩ := trodAll_nil r1
  obtain rfl : args = #[v0, v1] := by cases args; simp_all
  obtain ⟨rfl, rfl⟩ := trodVars_none hV
  have k0 := h0
  have lt0 : ∀ x ∈ p0', x.block < W.heap.size := by obtain ⟨m, hm⟩ := k0; exact DataW.trod_lt m _ _ _ hm
  obtain ⟨p0, rfl, w0⟩ := open_act (hval 0 24 v0 rfl rfl) h0
  obtain ⟨a1, rfl, rfl, rfl, w1⟩ := open_int Try.underlying3 (hval 1 3 v1 rfl rfl) h1
  clear hA0 hval0
  refine (walk p0 a1 W w0 w1).mono fun e W' ⟨he, bel⟩ => ?_
  subst he
  exact ⟨_, rfl, _, _, _, [], _, [], hW', trodAll_mk1 (shut_bool Try.underlying4 _), (trodAll_cons_mk (Below.trod laidOut (by kernel_rfl) (of_decide_eq_true (by kernel_rfl)) k0 bel lt0) (trodAll_cons_mk (shut_int Try.underlying3 w1) trodAll_mk0)), rfl, bel.frame _, fun h => by cases h⟩

theorem over : Rows.fnExactAmountRow.holds Try.pinned (OpenSpec.ofChange Rows.fnExactAmountSpec) :=
  OpenClaim.holds_of_wide 3 Try.f3 rfl rfl rfl rfl rfl rfl rfl ⟨rfl, rfl, rfl, rfl, rfl⟩ rfl rfl rfl rfl rfl (by kernel_rfl) Try.func3 (by kernel_rfl)
    (of_decide_eq_true (by kernel_rfl)) (by unfold Func.isWrapper; first | (rw [if_pos (by decide +kernel)]; kernel_rfl) | (rw [if_neg (by decide +kernel)]; exact ⟨rfl, rfl⟩))
    (fun os started H enc _ => lifted os started H enc)

theorem proved : Rows.FnExactAmountSaid := over
#print axioms proved
end Go.Proofs.Ytgaodfjmehofgas.fnExactAmount
