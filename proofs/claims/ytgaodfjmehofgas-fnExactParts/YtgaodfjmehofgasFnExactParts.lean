/-
  What is proved: at every act and thing, the law FnExactParts answers true: the program's and the specification's answer alike, the answer lies in new memory, and the arguments read afterwards as before; no condition.
-/
import Derived.Test.YtgaodfjmehofgasRows
import Derived.Test.YtgaodfjmehofgasRegCut
import Derived.Test.YtgaodfjmehofgasCur
import Derived.Test.YtgaodfjmehofgasPiece
import Derived.Test.YtgaodfjmehofgasRow
import Derived.Test.YtgaodfjmehofgasPiece2
import Derived.Test.YtgaodfjmehofgasState1
import Derived.Test.YtgaodfjmehofgasRowLaw
import Derived.Test.YtgaodfjmehofgasState2
import Derived.Test.YtgaodfjmehofgasState3
import Derived.Test.YtgaodfjmehofgasSeg
import Derived.Test.YtgaodfjmehofgasRegTail
import Derived.Test.YtgaodfjmehofgasRegBelow
import Derived.Test.YtgaodfjmehofgasNum
import Derived.Test.YtgaodfjmehofgasPiece3
import Derived.Test.YtgaodfjmehofgasState4
import Derived.Test.YtgaodfjmehofgasState5
import Derived.Test.YtgaodfjmehofgasStMark
import Derived.Test.YtgaodfjmehofgasPieceOk
import Derived.Test.YtgaodfjmehofgasState6
import Derived.Test.YtgaodfjmehofgasStHeld
import Derived.Test.YtgaodfjmehofgasStEq
import Derived.Test.YtgaodfjmehofgasStSame
import Derived.Test.YtgaodfjmehofgasStLaw
import Derived.Test.YtgaodfjmehofgasEvA
import Derived.Test.YtgaodfjmehofgasEvN
import Derived.Test.YtgaodfjmehofgasAcR
import Derived.Test.YtgaodfjmehofgasAcA
import Derived.Test.YtgaodfjmehofgasEvW
import Derived.Test.YtgaodfjmehofgasEvB1
import Derived.Test.YtgaodfjmehofgasEvB2
import Derived.Test.YtgaodfjmehofgasEvB
import Derived.Test.YtgaodfjmehofgasAcB
import Derived.Test.YtgaodfjmehofgasBytes
import Derived.Test.YtgaodfjmehofgasState8
import Derived.Test.YtgaodfjmehofgasStAt
import Derived.Test.YtgaodfjmehofgasAcC
import Derived.Test.YtgaodfjmehofgasAcD
import Derived.Test.YtgaodfjmehofgasAcL
import Derived.Test.YtgaodfjmehofgasPieceI1
import Derived.Test.YtgaodfjmehofgasEvC
import Derived.Test.YtgaodfjmehofgasEvC1
import Derived.Test.YtgaodfjmehofgasEvC2
import Derived.Test.YtgaodfjmehofgasEvC3
import Derived.Test.YtgaodfjmehofgasEvD
import Derived.Test.YtgaodfjmehofgasAcF
import Derived.Test.YtgaodfjmehofgasAcG
import Derived.Test.YtgaodfjmehofgasAcH
import Derived.Test.YtgaodfjmehofgasAcM
import Derived.WalkKit
import Derived.Deep.RegionHeld
import Derived.ProofKit
import Derived.OpenShut
import Derived.ShutString
import Derived.ChangeOld
import Derived.Below
namespace Go.Proofs.Ytgaodfjmehofgas.fnExactParts
open Go.ChangeShapes Go.WideShapes Go.ChangeAt Go.RowKit
set_option linter.unusedVariables false

theorem own : ownKnob Try.prog.godebug = none := by kernel_rfl
theorem laidOut : laidOutB Try.prog = true := by kernel_rfl

def IsRow (k : IntKind) (w : World) (a : Option Addr) (len cap : Nat) (zs : List Int) : Prop :=
  (a = none ∧ len = 0 ∧ cap = 0 ∧ zs = []) ∨
  ∃ x, a = some x ∧ len ≤ cap ∧ cap ≤ maxLen ∧ zs.length = cap ∧ (∀ i, i < zs.length → w.cell? (x.add i) = some (.int k (zs.getD i 0))) ∧ ∀ n ∈ zs, (Lit.int k n).wf = true

set_option maxHeartbeats 2000000 in
set_option maxHeartbeats 4000000 in
theorem walk (p0 : Ac) (p1 : Ev) (w : World) (w0 : p0.ok w) (w1 : p1.wf) :
    Calls Try.prog 4 #[.agg #[.int .i64 p0.kd, .int .i64 p0.nn, .int .i64 p0.pi, .int .i64 p0.si, .int .i64 p0.zo, .bool p0.be, .slice p0.la p0.ln p0.lcap], .agg #[.int .i64 p1.kd, .int .i64 p1.sr, .int .i64 p1.pi, .int .i64 p1.si, .int .i64 p1.nn, .int .i64 p1.zo, .bool p1.be]] w fun e w' => e = .returned (.bool true) ∧ Below w.heap.size w w' := by
  have m_ : Try.prog.follows Departure.mixedOrders = true := by kernel_rfl
  have hBw := ((Below.refl _ w).alloc (Nat.le_refl _) (.cells #[.int .i64 p0.kd, .int .i64 p0.nn, .int .i64 p0.pi, .int .i64 p0.si, .int .i64 p0.zo, .bool p0.be, .slice p0.la p0.ln p0.lcap] 24)).alloc (by simp) (.cells #[.int .i64 p1.kd, .int .i64 p1.sr, .int .i64 p1.pi, .int .i64 p1.si, .int .i64 p1.nn, .int .i64 p1.zo, .bool p1.be] 34)
  have b_c0 := (boxR_new w 24 #[.int .i64 p0.kd, .int .i64 p0.nn, .int .i64 p0.pi, .int .i64 p0.si, .int .i64 p0.zo, .bool p0.be, .slice p0.la p0.ln p0.lcap]).alloc (.cells #[.int .i64 p1.kd, .int .i64 p1.sr, .int .i64 p1.pi, .int .i64 p1.si, .int .i64 p1.nn, .int .i64 p1.zo, .bool p1.be] 34)
  have b_v1 : BoxR ((w.alloc (.cells #[.int .i64 p0.kd, .int .i64 p0.nn, .int .i64 p0.pi, .int .i64 p0.si, .int .i64 p0.zo, .bool p0.be, .slice p0.la p0.ln p0.lcap] 24)).alloc (.cells #[.int .i64 p1.kd, .int .i64 p1.sr, .int .i64 p1.pi, .int .i64 p1.si, .int .i64 p1.nn, .int .i64 p1.zo, .bool p1.be] 34)) (w.heap.size + 1) 34 #[.int .i64 p1.kd, .int .i64 p1.sr, .int .i64 p1.pi, .int .i64 p1.si, .int .i64 p1.nn, .int .i64 p1.zo, .bool p1.be] := heap_alloc2_new _ _ _
  generalize hW : (w.alloc (.cells #[.int .i64 p0.kd, .int .i64 p0.nn, .int .i64 p0.pi, .int .i64 p0.si, .int .i64 p0.zo, .bool p0.be, .slice p0.la p0.ln p0.lcap] 24)).alloc (.cells #[.int .i64 p1.kd, .int .i64 p1.sr, .int .i64 p1.pi, .int .i64 p1.si, .int .i64 p1.nn, .int .i64 p1.zo, .bool p1.be] 34) = W at hBw b_c0 b_v1
  have l_v1 := b_v1.lt
  have l_c0 := b_c0.lt
  have hsz : w.heap.size ≤ W.heap.size := hBw.size
  have k_c0 := act_grew w0 hBw
  have hB := Below.refl W.heap.size W
  have hmx : p0.ln ≤ 9223372036854775807 := by have := k_c0.1; have := k_c0.2.1; unfold maxLen at *; omega
  by_cases z : (1048576 : Int) - (p0.ln : Int) < 0
  · have Z : Hid (szN p0.ln 1048576 = -1) := by show szN p0.ln 1048576 = -1; unfold szN; rw [if_pos z]
    go_enter Try.func4, Try.ntmps4
    have c_c0_0 : W.cell? ⟨w.heap.size, 0, none⟩ = some (.int .i64 p0.kd) := b_c0.cell 0
    have c_c0_1 : W.cell? ⟨w.heap.size, 1, none⟩ = some (.int .i64 p0.nn) := b_c0.cell 1
    have c_c0_2 : W.cell? ⟨w.heap.size, 2, none⟩ = some (.int .i64 p0.pi) := b_c0.cell 2
    have c_c0_3 : W.cell? ⟨w.heap.size, 3, none⟩ = some (.int .i64 p0.si) := b_c0.cell 3
    have c_c0_4 : W.cell? ⟨w.heap.size, 4, none⟩ = some (.int .i64 p0.zo) := b_c0.cell 4
    have c_c0_5 : W.cell? ⟨w.heap.size, 5, none⟩ = some (.bool p0.be) := b_c0.cell 5
    have c_c0_6 : W.cell? ⟨w.heap.size, 6, none⟩ = some (.slice p0.la p0.ln p0.lcap) := b_c0.cell 6
    go_wp2_with fail
    refine (szAct_any p0 1048576 _ hmx (by omega)).mono ?_
    rintro e y1_ ⟨rfl, hb⟩
    clear c_c0_0 c_c0_1 c_c0_2 c_c0_3 c_c0_4 c_c0_5 c_c0_6
    try clear hW
    replace b_v1 := b_v1.grew hb
    replace b_c0 := b_c0.grew hb
    replace hB := below_app hB hb hB.size
    clear hb
    rw [Z.out]
    go_wp2
    go_ret
    exact ⟨rfl, below_app hBw hB hsz⟩
  have n_c0 : p0.ln ≤ 1048576 := by omega
  have Y : Hid (szN p0.ln 1048576 = 1048576 - (p0.ln : Int)) := by show szN p0.ln 1048576 = _; unfold szN; rw [if_neg z]
  have y0 : 0 ≤ 1048576 - (p0.ln : Int) := by omega
  clear z
  go_enter Try.func4, Try.ntmps4
  have c_c0_0 : W.cell? ⟨w.heap.size, 0, none⟩ = some (.int .i64 p0.kd) := b_c0.cell 0
  have c_c0_1 : W.cell? ⟨w.heap.size, 1, none⟩ = some (.int .i64 p0.nn) := b_c0.cell 1
  have c_c0_2 : W.cell? ⟨w.heap.size, 2, none⟩ = some (.int .i64 p0.pi) := b_c0.cell 2
  have c_c0_3 : W.cell? ⟨w.heap.size, 3, none⟩ = some (.int .i64 p0.si) := b_c0.cell 3
  have c_c0_4 : W.cell? ⟨w.heap.size, 4, none⟩ = some (.int .i64 p0.zo) := b_c0.cell 4
  have c_c0_5 : W.cell? ⟨w.heap.size, 5, none⟩ = some (.bool p0.be) := b_c0.cell 5
  have c_c0_6 : W.cell? ⟨w.heap.size, 6, none⟩ = some (.slice p0.la p0.ln p0.lcap) := b_c0.cell 6
  go_wp2_with fail
  refine (szAct_any p0 1048576 _ hmx (by omega)).mono ?_
  rintro e y1_ ⟨rfl, hb⟩
  clear c_c0_0 c_c0_1 c_c0_2 c_c0_3 c_c0_4 c_c0_5 c_c0_6
  try clear hW
  replace b_v1 := b_v1.grew hb
  replace b_c0 := b_c0.grew hb
  replace hB := below_app hB hb hB.size
  clear hb
  rw [Y.out]
  clear hmx
  have nn8 : paN p0 ≤ 1048577 := by unfold paN; split <;> omega
  have nn9 : paN p0 ≤ 9223372036854775807 := by omega
  have nn7 : 0 ≤ 1 + 7 * (paN p0 : Int) := by omega
  go_wp2_with fail
  refine wp_cutT (fun x : Ac × Nat × Nat => [(18, (.agg #[.int .i64 p0.kd, .int .i64 p0.nn, .int .i64 p0.pi, .int .i64 p0.si, .int .i64 p0.zo, .bool p0.be, .slice p0.la p0.ln p0.lcap])), (19, (.agg #[.int .i64 x.1.kd, .int .i64 x.1.nn, .int .i64 x.1.pi, .int .i64 x.1.si, .int .i64 x.1.zo, .bool x.1.be, .slice x.1.la x.1.ln x.1.lcap])), (20, (.agg #[.int .i64 p1.kd, .int .i64 p1.sr, .int .i64 p1.pi, .int .i64 p1.si, .int .i64 p1.nn, .int .i64 p1.zo, .bool p1.be])), (21, (.agg #[.int .i64 p1.kd, .int .i64 p1.sr, .int .i64 p1.pi, .int .i64 p1.si, .int .i64 p1.nn, .int .i64 p1.zo, .bool p1.be])), (22, .slice (some ⟨x.2.1, 0, none⟩) (paN p0) x.2.2), (6, .slice (some ⟨x.2.1, 0, none⟩) (paN p0) x.2.2)]) (fun x u => Below y1_.heap.size y1_ u ∧ OwnE evC 7 u y1_.heap.size x.2.1 (some ⟨x.2.1, 0, none⟩) (paN p0) (paF p0 p1)) ?_ ?_
  · have hq0 : Below y1_.heap.size y1_ y1_.drew := (Below.refl _ y1_).drew
    have c_c0_0 : y1_.cell? ⟨w.heap.size, 0, none⟩ = some (.int .i64 p0.kd) := b_c0.cell 0
    have c_c0_1 : y1_.cell? ⟨w.heap.size, 1, none⟩ = some (.int .i64 p0.nn) := b_c0.cell 1
    have c_c0_2 : y1_.cell? ⟨w.heap.size, 2, none⟩ = some (.int .i64 p0.pi) := b_c0.cell 2
    have c_c0_3 : y1_.cell? ⟨w.heap.size, 3, none⟩ = some (.int .i64 p0.si) := b_c0.cell 3
    have c_c0_4 : y1_.cell? ⟨w.heap.size, 4, none⟩ = some (.int .i64 p0.zo) := b_c0.cell 4
    have c_c0_5 : y1_.cell? ⟨w.heap.size, 5, none⟩ = some (.bool p0.be) := b_c0.cell 5
    have c_c0_6 : y1_.cell? ⟨w.heap.size, 6, none⟩ = some (.slice p0.la p0.ln p0.lcap) := b_c0.cell 6
    have c_v1_0 : y1_.cell? ⟨w.heap.size + 1, 0, none⟩ = some (.int .i64 p1.kd) := b_v1.cell 0
    have c_v1_1 : y1_.cell? ⟨w.heap.size + 1, 1, none⟩ = some (.int .i64 p1.sr) := b_v1.cell 1
    have c_v1_2 : y1_.cell? ⟨w.heap.size + 1, 2, none⟩ = some (.int .i64 p1.pi) := b_v1.cell 2
    have c_v1_3 : y1_.cell? ⟨w.heap.size + 1, 3, none⟩ = some (.int .i64 p1.si) := b_v1.cell 3
    have c_v1_4 : y1_.cell? ⟨w.heap.size + 1, 4, none⟩ = some (.int .i64 p1.nn) := b_v1.cell 4
    have c_v1_5 : y1_.cell? ⟨w.heap.size + 1, 5, none⟩ = some (.int .i64 p1.zo) := b_v1.cell 5
    have c_v1_6 : y1_.cell? ⟨w.heap.size + 1, 6, none⟩ = some (.bool p1.be) := b_v1.cell 6
    have SK : ∀ u : World, Below y1_.heap.size y1_ u → u.cell? ⟨w.heap.size, 0, none⟩ = some (.int .i64 p0.kd) ∧ u.cell? ⟨w.heap.size, 1, none⟩ = some (.int .i64 p0.nn) ∧ u.cell? ⟨w.heap.size, 2, none⟩ = some (.int .i64 p0.pi) ∧ u.cell? ⟨w.heap.size, 3, none⟩ = some (.int .i64 p0.si) ∧ u.cell? ⟨w.heap.size, 4, none⟩ = some (.int .i64 p0.zo) ∧ u.cell? ⟨w.heap.size, 5, none⟩ = some (.bool p0.be) ∧ u.cell? ⟨w.heap.size, 6, none⟩ = some (.slice p0.la p0.ln p0.lcap) ∧ u.cell? ⟨w.heap.size + 1, 0, none⟩ = some (.int .i64 p1.kd) ∧ u.cell? ⟨w.heap.size + 1, 1, none⟩ = some (.int .i64 p1.sr) ∧ u.cell? ⟨w.heap.size + 1, 2, none⟩ = some (.int .i64 p1.pi) ∧ u.cell? ⟨w.heap.size + 1, 3, none⟩ = some (.int .i64 p1.si) ∧ u.cell? ⟨w.heap.size + 1, 4, none⟩ = some (.int .i64 p1.nn) ∧ u.cell? ⟨w.heap.size + 1, 5, none⟩ = some (.int .i64 p1.zo) ∧ u.cell? ⟨w.heap.size + 1, 6, none⟩ = some (.bool p1.be) := fun u hu => ⟨(hu.cell (World.block_lt_of_cell? _ _ c_c0_0)).trans c_c0_0, (hu.cell (World.block_lt_of_cell? _ _ c_c0_1)).trans c_c0_1, (hu.cell (World.block_lt_of_cell? _ _ c_c0_2)).trans c_c0_2, (hu.cell (World.block_lt_of_cell? _ _ c_c0_3)).trans c_c0_3, (hu.cell (World.block_lt_of_cell? _ _ c_c0_4)).trans c_c0_4, (hu.cell (World.block_lt_of_cell? _ _ c_c0_5)).trans c_c0_5, (hu.cell (World.block_lt_of_cell? _ _ c_c0_6)).trans c_c0_6, (hu.cell (World.block_lt_of_cell? _ _ c_v1_0)).trans c_v1_0, (hu.cell (World.block_lt_of_cell? _ _ c_v1_1)).trans c_v1_1, (hu.cell (World.block_lt_of_cell? _ _ c_v1_2)).trans c_v1_2, (hu.cell (World.block_lt_of_cell? _ _ c_v1_3)).trans c_v1_3, (hu.cell (World.block_lt_of_cell? _ _ c_v1_4)).trans c_v1_4, (hu.cell (World.block_lt_of_cell? _ _ c_v1_5)).trans c_v1_5, (hu.cell (World.block_lt_of_cell? _ _ c_v1_6)).trans c_v1_6⟩
    have okK : ∀ u : World, Below y1_.heap.size y1_ u → p0.ok u := fun u hu => act_grew k_c0 (below_app hB hu hB.size)
    clear c_c0_0 c_c0_1 c_c0_2 c_c0_3 c_c0_4 c_c0_5 c_c0_6 c_v1_0 c_v1_1 c_v1_2 c_v1_3 c_v1_4 c_v1_5 c_v1_6
    go_region_held (fun u : World => u.cell? ⟨w.heap.size, 0, none⟩ = some (.int .i64 p0.kd) ∧ u.cell? ⟨w.heap.size, 1, none⟩ = some (.int .i64 p0.nn) ∧ u.cell? ⟨w.heap.size, 2, none⟩ = some (.int .i64 p0.pi) ∧ u.cell? ⟨w.heap.size, 3, none⟩ = some (.int .i64 p0.si) ∧ u.cell? ⟨w.heap.size, 4, none⟩ = some (.int .i64 p0.zo) ∧ u.cell? ⟨w.heap.size, 5, none⟩ = some (.bool p0.be) ∧ u.cell? ⟨w.heap.size, 6, none⟩ = some (.slice p0.la p0.ln p0.lcap) ∧ u.cell? ⟨w.heap.size + 1, 0, none⟩ = some (.int .i64 p1.kd) ∧ u.cell? ⟨w.heap.size + 1, 1, none⟩ = some (.int .i64 p1.sr) ∧ u.cell? ⟨w.heap.size + 1, 2, none⟩ = some (.int .i64 p1.pi) ∧ u.cell? ⟨w.heap.size + 1, 3, none⟩ = some (.int .i64 p1.si) ∧ u.cell? ⟨w.heap.size + 1, 4, none⟩ = some (.int .i64 p1.nn) ∧ u.cell? ⟨w.heap.size + 1, 5, none⟩ = some (.int .i64 p1.zo) ∧ u.cell? ⟨w.heap.size + 1, 6, none⟩ = some (.bool p1.be)) (first | (refine SK _ ?_; first | with_reducible exact hq0 | with_reducible exact hq1 | with_reducible exact hq2 | with_reducible exact hq3)) (first | (go_at_call 9; refine (toAct_ans p0 _ (okK _ hq0) n_c0).mono ?_; rintro e v1 ⟨ty, rfl, hb1, oy, ey⟩; have hq1 : Below y1_.heap.size y1_ v1 := below_app hq0 hb1 hq0.size) | (go_at_call 13; refine (toEvent_any p1 _).mono ?_; rintro e v2 ⟨rfl, hb2⟩; have hq2 : Below y1_.heap.size y1_ v2 := below_app hq1 hb2 hq1.size; replace oy := oy.grew hb2) | (go_at_call 12; refine (specParts_al p1 oy ey k_c0 n_c0).mono ?_; rintro e v3 ⟨q9, c9, rfl, hb3, o9⟩; have hq3 : Below y1_.heap.size y1_ v3 := below_app hq2 hb3 hq2.size))
    all_goals exact ⟨(ty, q9, c9), rfl, hq3, ⟨by show y1_.heap.size ≤ q9; have h1 := hq2.size; have h2 := o9.1; omega, o9.2⟩⟩
  rintro ⟨t__w, q_w, cp_w⟩ y2_ ⟨hb, o_w⟩
  simp only [puts, List.foldl, Act.put, List.setIfInBounds_toArray, List.set_cons_zero, List.set_cons_succ]
  dsimp only at o_w ⊢
  have d_v1_w : w.heap.size + 1 ≠ q_w := by have h1 := b_v1.lt; have h2 := o_w.1; omega
  have d_c0_w : w.heap.size ≠ q_w := by have h1 := b_c0.lt; have h2 := o_w.1; omega
  have f_w : W.heap.size ≤ q_w := by have := o_w.1; have := hB.size; omega
  replace b_v1 := b_v1.grew hb
  replace b_c0 := b_c0.grew hb
  replace hB := below_app hB hb hB.size
  clear hb
  have c_c0_0 : y2_.cell? ⟨w.heap.size, 0, none⟩ = some (.int .i64 p0.kd) := b_c0.cell 0
  have c_c0_1 : y2_.cell? ⟨w.heap.size, 1, none⟩ = some (.int .i64 p0.nn) := b_c0.cell 1
  have c_c0_2 : y2_.cell? ⟨w.heap.size, 2, none⟩ = some (.int .i64 p0.pi) := b_c0.cell 2
  have c_c0_3 : y2_.cell? ⟨w.heap.size, 3, none⟩ = some (.int .i64 p0.si) := b_c0.cell 3
  have c_c0_4 : y2_.cell? ⟨w.heap.size, 4, none⟩ = some (.int .i64 p0.zo) := b_c0.cell 4
  have c_c0_5 : y2_.cell? ⟨w.heap.size, 5, none⟩ = some (.bool p0.be) := b_c0.cell 5
  have c_c0_6 : y2_.cell? ⟨w.heap.size, 6, none⟩ = some (.slice p0.la p0.ln p0.lcap) := b_c0.cell 6
  go_wp2_with fail
  refine (toAct_ans p0 _ (act_grew k_c0 hB) n_c0).mono ?_
  rintro e y3_ ⟨t_x, rfl, hb, o_x, e_x⟩
  clear c_c0_0 c_c0_1 c_c0_2 c_c0_3 c_c0_4 c_c0_5 c_c0_6
  have a_w_x : q_w ≠ t_x.lb := by have h1 := o_w.2.1; have h2 := o_x.2.2.1; omega
  have a_x_w : t_x.lb ≠ q_w := a_w_x.symm
  have d_v1_x : w.heap.size + 1 ≠ t_x.lb := by have h1 := b_v1.lt; have h2 := o_x.2.2.1; omega
  have d_c0_x : w.heap.size ≠ t_x.lb := by have h1 := b_c0.lt; have h2 := o_x.2.2.1; omega
  have f_x : W.heap.size ≤ t_x.lb := by have := o_x.2.2.1; have := hB.size; omega
  replace o_w := o_w.grew hb
  replace b_v1 := b_v1.grew hb
  replace b_c0 := b_c0.grew hb
  replace hB := below_app hB hb hB.size
  clear hb
  have hb := (Below.refl _ y3_).alloc (Nat.le_refl _) (.cells #[.int .i64 t_x.kd, .int .i64 t_x.nn, .int .i64 t_x.pi, .int .i64 t_x.si, .int .i64 t_x.zo, .bool t_x.be, .slice t_x.la t_x.ln t_x.lcap] 29)
  have b_x := boxR_new y3_ 29 #[.int .i64 t_x.kd, .int .i64 t_x.nn, .int .i64 t_x.pi, .int .i64 t_x.si, .int .i64 t_x.zo, .bool t_x.be, .slice t_x.la t_x.ln t_x.lcap]
  have d_x_w : y3_.heap.size ≠ q_w := by have h1 := o_w.2.1; omega
  have d_x_x : y3_.heap.size ≠ t_x.lb := by have h1 := o_x.2.2.2.1; omega
  generalize hVx : y3_.alloc (.cells #[.int .i64 t_x.kd, .int .i64 t_x.nn, .int .i64 t_x.pi, .int .i64 t_x.si, .int .i64 t_x.zo, .bool t_x.be, .slice t_x.la t_x.ln t_x.lcap] 29) = y4_ at hb b_x
  replace o_w := o_w.grew hb
  replace o_x := o_x.grew hb
  replace b_v1 := b_v1.grew hb
  replace b_c0 := b_c0.grew hb
  replace hB := below_app hB hb hB.size
  clear hb
  go_wp2_with fail
  refine wp_cutT (fun x : Ac × Nat × Nat => [(25, (.agg #[.int .i64 t_x.kd, .int .i64 t_x.nn, .int .i64 t_x.pi, .int .i64 t_x.si, .int .i64 t_x.zo, .bool t_x.be, .slice t_x.la t_x.ln t_x.lcap])), (26, (.agg #[.int .i64 p1.kd, .int .i64 p1.sr, .int .i64 p1.pi, .int .i64 p1.si, .int .i64 p1.nn, .int .i64 p1.zo, .bool p1.be])), (27, (.agg #[.int .i64 p1.kd, .int .i64 p1.sr, .int .i64 p1.pi, .int .i64 p1.si, .int .i64 p1.nn, .int .i64 p1.zo, .bool p1.be])), (28, .slice (some ⟨x.2.1, 0, none⟩) (paN p0) x.2.2), (8, .slice (some ⟨x.2.1, 0, none⟩) (paN p0) x.2.2)]) (fun x u => Below y4_.heap.size y4_ u ∧ OwnE evC 7 u y4_.heap.size x.2.1 (some ⟨x.2.1, 0, none⟩) (paN p0) (paF p0 p1)) ?_ ?_
  · have hq0 : Below y4_.heap.size y4_ y4_.drew := (Below.refl _ y4_).drew
    have c_x_0 : y4_.cell? ⟨y3_.heap.size, 0, none⟩ = some (.int .i64 t_x.kd) := b_x.cell 0
    have c_x_1 : y4_.cell? ⟨y3_.heap.size, 1, none⟩ = some (.int .i64 t_x.nn) := b_x.cell 1
    have c_x_2 : y4_.cell? ⟨y3_.heap.size, 2, none⟩ = some (.int .i64 t_x.pi) := b_x.cell 2
    have c_x_3 : y4_.cell? ⟨y3_.heap.size, 3, none⟩ = some (.int .i64 t_x.si) := b_x.cell 3
    have c_x_4 : y4_.cell? ⟨y3_.heap.size, 4, none⟩ = some (.int .i64 t_x.zo) := b_x.cell 4
    have c_x_5 : y4_.cell? ⟨y3_.heap.size, 5, none⟩ = some (.bool t_x.be) := b_x.cell 5
    have c_x_6 : y4_.cell? ⟨y3_.heap.size, 6, none⟩ = some (.slice t_x.la t_x.ln t_x.lcap) := b_x.cell 6
    have c_v1_0 : y4_.cell? ⟨w.heap.size + 1, 0, none⟩ = some (.int .i64 p1.kd) := b_v1.cell 0
    have c_v1_1 : y4_.cell? ⟨w.heap.size + 1, 1, none⟩ = some (.int .i64 p1.sr) := b_v1.cell 1
    have c_v1_2 : y4_.cell? ⟨w.heap.size + 1, 2, none⟩ = some (.int .i64 p1.pi) := b_v1.cell 2
    have c_v1_3 : y4_.cell? ⟨w.heap.size + 1, 3, none⟩ = some (.int .i64 p1.si) := b_v1.cell 3
    have c_v1_4 : y4_.cell? ⟨w.heap.size + 1, 4, none⟩ = some (.int .i64 p1.nn) := b_v1.cell 4
    have c_v1_5 : y4_.cell? ⟨w.heap.size + 1, 5, none⟩ = some (.int .i64 p1.zo) := b_v1.cell 5
    have c_v1_6 : y4_.cell? ⟨w.heap.size + 1, 6, none⟩ = some (.bool p1.be) := b_v1.cell 6
    have SK : ∀ u : World, Below y4_.heap.size y4_ u → u.cell? ⟨y3_.heap.size, 0, none⟩ = some (.int .i64 t_x.kd) ∧ u.cell? ⟨y3_.heap.size, 1, none⟩ = some (.int .i64 t_x.nn) ∧ u.cell? ⟨y3_.heap.size, 2, none⟩ = some (.int .i64 t_x.pi) ∧ u.cell? ⟨y3_.heap.size, 3, none⟩ = some (.int .i64 t_x.si) ∧ u.cell? ⟨y3_.heap.size, 4, none⟩ = some (.int .i64 t_x.zo) ∧ u.cell? ⟨y3_.heap.size, 5, none⟩ = some (.bool t_x.be) ∧ u.cell? ⟨y3_.heap.size, 6, none⟩ = some (.slice t_x.la t_x.ln t_x.lcap) ∧ u.cell? ⟨w.heap.size + 1, 0, none⟩ = some (.int .i64 p1.kd) ∧ u.cell? ⟨w.heap.size + 1, 1, none⟩ = some (.int .i64 p1.sr) ∧ u.cell? ⟨w.heap.size + 1, 2, none⟩ = some (.int .i64 p1.pi) ∧ u.cell? ⟨w.heap.size + 1, 3, none⟩ = some (.int .i64 p1.si) ∧ u.cell? ⟨w.heap.size + 1, 4, none⟩ = some (.int .i64 p1.nn) ∧ u.cell? ⟨w.heap.size + 1, 5, none⟩ = some (.int .i64 p1.zo) ∧ u.cell? ⟨w.heap.size + 1, 6, none⟩ = some (.bool p1.be) := fun u hu => ⟨(hu.cell (World.block_lt_of_cell? _ _ c_x_0)).trans c_x_0, (hu.cell (World.block_lt_of_cell? _ _ c_x_1)).trans c_x_1, (hu.cell (World.block_lt_of_cell? _ _ c_x_2)).trans c_x_2, (hu.cell (World.block_lt_of_cell? _ _ c_x_3)).trans c_x_3, (hu.cell (World.block_lt_of_cell? _ _ c_x_4)).trans c_x_4, (hu.cell (World.block_lt_of_cell? _ _ c_x_5)).trans c_x_5, (hu.cell (World.block_lt_of_cell? _ _ c_x_6)).trans c_x_6, (hu.cell (World.block_lt_of_cell? _ _ c_v1_0)).trans c_v1_0, (hu.cell (World.block_lt_of_cell? _ _ c_v1_1)).trans c_v1_1, (hu.cell (World.block_lt_of_cell? _ _ c_v1_2)).trans c_v1_2, (hu.cell (World.block_lt_of_cell? _ _ c_v1_3)).trans c_v1_3, (hu.cell (World.block_lt_of_cell? _ _ c_v1_4)).trans c_v1_4, (hu.cell (World.block_lt_of_cell? _ _ c_v1_5)).trans c_v1_5, (hu.cell (World.block_lt_of_cell? _ _ c_v1_6)).trans c_v1_6⟩
    have okK : ∀ u : World, Below y4_.heap.size y4_ u → p0.ok u := fun u hu => act_grew k_c0 (below_app hB hu hB.size)
    have oK : ∀ u : World, Below y4_.heap.size y4_ u → OwnA u _ t_x := fun u hu => o_x.grew hu
    clear c_x_0 c_x_1 c_x_2 c_x_3 c_x_4 c_x_5 c_x_6 c_v1_0 c_v1_1 c_v1_2 c_v1_3 c_v1_4 c_v1_5 c_v1_6
    go_region_held (fun u : World => u.cell? ⟨y3_.heap.size, 0, none⟩ = some (.int .i64 t_x.kd) ∧ u.cell? ⟨y3_.heap.size, 1, none⟩ = some (.int .i64 t_x.nn) ∧ u.cell? ⟨y3_.heap.size, 2, none⟩ = some (.int .i64 t_x.pi) ∧ u.cell? ⟨y3_.heap.size, 3, none⟩ = some (.int .i64 t_x.si) ∧ u.cell? ⟨y3_.heap.size, 4, none⟩ = some (.int .i64 t_x.zo) ∧ u.cell? ⟨y3_.heap.size, 5, none⟩ = some (.bool t_x.be) ∧ u.cell? ⟨y3_.heap.size, 6, none⟩ = some (.slice t_x.la t_x.ln t_x.lcap) ∧ u.cell? ⟨w.heap.size + 1, 0, none⟩ = some (.int .i64 p1.kd) ∧ u.cell? ⟨w.heap.size + 1, 1, none⟩ = some (.int .i64 p1.sr) ∧ u.cell? ⟨w.heap.size + 1, 2, none⟩ = some (.int .i64 p1.pi) ∧ u.cell? ⟨w.heap.size + 1, 3, none⟩ = some (.int .i64 p1.si) ∧ u.cell? ⟨w.heap.size + 1, 4, none⟩ = some (.int .i64 p1.nn) ∧ u.cell? ⟨w.heap.size + 1, 5, none⟩ = some (.int .i64 p1.zo) ∧ u.cell? ⟨w.heap.size + 1, 6, none⟩ = some (.bool p1.be)) (first | (refine SK _ ?_; first | with_reducible exact hq0 | with_reducible exact hq1 | with_reducible exact hq2)) (first | (go_at_call 13; refine (toEvent_any p1 _).mono ?_; rintro e v1 ⟨rfl, hb1⟩; have hq1 : Below y4_.heap.size y4_ v1 := below_app hq0 hb1 hq0.size) | (go_at_call 14; refine (implParts_al p1 (oK _ hq1) e_x k_c0 n_c0).mono ?_; rintro e v2 ⟨q9, c9, rfl, hb2, o9⟩; have hq2 : Below y4_.heap.size y4_ v2 := below_app hq1 hb2 hq1.size))
    all_goals exact ⟨(t_x, q9, c9), rfl, hq2, ⟨by show y4_.heap.size ≤ q9; have h1 := hq1.size; have h2 := o9.1; omega, o9.2⟩⟩
  rintro ⟨t__g, q_g, cp_g⟩ y5_ ⟨hb, o_g⟩
  simp only [puts, List.foldl, Act.put, List.setIfInBounds_toArray, List.set_cons_zero, List.set_cons_succ]
  dsimp only at o_g ⊢
  have a_w_g : q_w ≠ q_g := by have h1 := o_w.2.1; have h2 := o_g.1; omega
  have a_g_w : q_g ≠ q_w := a_w_g.symm
  have a_x_g : t_x.lb ≠ q_g := by have h1 := o_x.2.2.2.1; have h2 := o_g.1; omega
  have a_g_x : q_g ≠ t_x.lb := a_x_g.symm
  have d_v1_g : w.heap.size + 1 ≠ q_g := by have h1 := b_v1.lt; have h2 := o_g.1; omega
  have d_c0_g : w.heap.size ≠ q_g := by have h1 := b_c0.lt; have h2 := o_g.1; omega
  have d_x_g : y3_.heap.size ≠ q_g := by have h1 := b_x.lt; have h2 := o_g.1; omega
  have f_g : W.heap.size ≤ q_g := by have := o_g.1; have := hB.size; omega
  replace o_w := o_w.grew hb
  replace o_x := o_x.grew hb
  replace b_v1 := b_v1.grew hb
  replace b_c0 := b_c0.grew hb
  replace b_x := b_x.grew hb
  replace hB := below_app hB hb hB.size
  clear hb
  go_wp2_with fail
  refine (eqEventS_same _ _ q_g q_w (paN p0) _ _ (paF p0 p1) _ nn9 o_g.rd o_w.rd).mono ?_
  rintro e y6_ ⟨rfl, hb⟩
  replace o_w := o_w.grew hb
  replace o_x := o_x.grew hb
  replace o_g := o_g.grew hb
  replace b_v1 := b_v1.grew hb
  replace b_c0 := b_c0.grew hb
  replace b_x := b_x.grew hb
  replace hB := below_app hB hb hB.size
  clear hb
  go_wp2_with fail
  refine wp_cutT (fun t : Ac => [(33, (.agg #[.int .i64 t_x.kd, .int .i64 t_x.nn, .int .i64 t_x.pi, .int .i64 t_x.si, .int .i64 t_x.zo, .bool t_x.be, .slice t_x.la t_x.ln t_x.lcap])), (34, (.agg #[.int .i64 p0.kd, .int .i64 p0.nn, .int .i64 p0.pi, .int .i64 p0.si, .int .i64 p0.zo, .bool p0.be, .slice p0.la p0.ln p0.lcap])), (35, (.agg #[.int .i64 t.kd, .int .i64 t.nn, .int .i64 t.pi, .int .i64 t.si, .int .i64 t.zo, .bool t.be, .slice t.la t.ln t.lcap])), (36, .bool true), (37, .bool false)]) (fun _ u => Below y6_.heap.size y6_ u) ?_ ?_
  · have tb : Calls Try.prog 9 #[(.agg #[.int .i64 p0.kd, .int .i64 p0.nn, .int .i64 p0.pi, .int .i64 p0.si, .int .i64 p0.zo, .bool p0.be, .slice p0.la p0.ln p0.lcap])] y6_.drew fun e v => ∃ t : Ac, e = .returned (.agg #[.int .i64 t.kd, .int .i64 t.nn, .int .i64 t.pi, .int .i64 t.si, .int .i64 t.zo, .bool t.be, .slice t.la t.ln t.lcap]) ∧ Below y6_.heap.size y6_ v ∧ OwnA v y6_.heap.size t ∧ AlikeA t p0 ∧ OwnA v _ t_x ∧ v.cell? ⟨y3_.heap.size, 0, none⟩ = some (.int .i64 t_x.kd) ∧ v.cell? ⟨y3_.heap.size, 1, none⟩ = some (.int .i64 t_x.nn) ∧ v.cell? ⟨y3_.heap.size, 2, none⟩ = some (.int .i64 t_x.pi) ∧ v.cell? ⟨y3_.heap.size, 3, none⟩ = some (.int .i64 t_x.si) ∧ v.cell? ⟨y3_.heap.size, 4, none⟩ = some (.int .i64 t_x.zo) ∧ v.cell? ⟨y3_.heap.size, 5, none⟩ = some (.bool t_x.be) ∧ v.cell? ⟨y3_.heap.size, 6, none⟩ = some (.slice t_x.la t_x.ln t_x.lcap) := (toAct_ans p0 y6_.drew (show p0.ok y6_.drew from act_grew k_c0 hB.drew) n_c0).mono (by rintro e v ⟨t, h1, h2, h3, h4⟩; have h5 : Below y6_.heap.size y6_ v := ((Below.refl _ y6_).drew).trans h2; have b := b_x.grew h5; exact ⟨t, h1, h5, h3, h4, o_x.grew h5, b.cell 0, b.cell 1, b.cell 2, b.cell 3, b.cell 4, b.cell 5, b.cell 6⟩)
    have c_x_0 : y6_.cell? ⟨y3_.heap.size, 0, none⟩ = some (.int .i64 t_x.kd) := b_x.cell 0
    have c_x_1 : y6_.cell? ⟨y3_.heap.size, 1, none⟩ = some (.int .i64 t_x.nn) := b_x.cell 1
    have c_x_2 : y6_.cell? ⟨y3_.heap.size, 2, none⟩ = some (.int .i64 t_x.pi) := b_x.cell 2
    have c_x_3 : y6_.cell? ⟨y3_.heap.size, 3, none⟩ = some (.int .i64 t_x.si) := b_x.cell 3
    have c_x_4 : y6_.cell? ⟨y3_.heap.size, 4, none⟩ = some (.int .i64 t_x.zo) := b_x.cell 4
    have c_x_5 : y6_.cell? ⟨y3_.heap.size, 5, none⟩ = some (.bool t_x.be) := b_x.cell 5
    have c_x_6 : y6_.cell? ⟨y3_.heap.size, 6, none⟩ = some (.slice t_x.la t_x.ln t_x.lcap) := b_x.cell 6
    have c_c0_0 : y6_.cell? ⟨w.heap.size, 0, none⟩ = some (.int .i64 p0.kd) := b_c0.cell 0
    have c_c0_1 : y6_.cell? ⟨w.heap.size, 1, none⟩ = some (.int .i64 p0.nn) := b_c0.cell 1
    have c_c0_2 : y6_.cell? ⟨w.heap.size, 2, none⟩ = some (.int .i64 p0.pi) := b_c0.cell 2
    have c_c0_3 : y6_.cell? ⟨w.heap.size, 3, none⟩ = some (.int .i64 p0.si) := b_c0.cell 3
    have c_c0_4 : y6_.cell? ⟨w.heap.size, 4, none⟩ = some (.int .i64 p0.zo) := b_c0.cell 4
    have c_c0_5 : y6_.cell? ⟨w.heap.size, 5, none⟩ = some (.bool p0.be) := b_c0.cell 5
    have c_c0_6 : y6_.cell? ⟨w.heap.size, 6, none⟩ = some (.slice p0.la p0.ln p0.lcap) := b_c0.cell 6
    go_region_with_o (first | (go_at_call 9; refine tb.mono ?_; rintro e v1 ⟨t1, rfl, hb1, ot, et, ox, r0, r1, r2, r3, r4, r5, r6⟩) | (go_at_call 11; refine (eqAct_alike t_x t1 p0 _ ox ot e_x et (by omega)).mono ?_; rintro e v2 ⟨rfl, hb2⟩))
    all_goals exact ⟨t1, rfl, below_app hb1 hb2 hb1.size⟩
  rintro t_ y7_ hb
  simp only [puts, List.foldl, Act.put, List.setIfInBounds_toArray, List.set_cons_zero, List.set_cons_succ]
  replace o_w := o_w.grew hb
  replace o_x := o_x.grew hb
  replace o_g := o_g.grew hb
  replace b_v1 := b_v1.grew hb
  replace b_c0 := b_c0.grew hb
  replace b_x := b_x.grew hb
  replace hB := below_app hB hb hB.size
  clear hb
  have c_x_0 : y7_.cell? ⟨y3_.heap.size, 0, none⟩ = some (.int .i64 t_x.kd) := b_x.cell 0
  have c_x_1 : y7_.cell? ⟨y3_.heap.size, 1, none⟩ = some (.int .i64 t_x.nn) := b_x.cell 1
  have c_x_2 : y7_.cell? ⟨y3_.heap.size, 2, none⟩ = some (.int .i64 t_x.pi) := b_x.cell 2
  have c_x_3 : y7_.cell? ⟨y3_.heap.size, 3, none⟩ = some (.int .i64 t_x.si) := b_x.cell 3
  have c_x_4 : y7_.cell? ⟨y3_.heap.size, 4, none⟩ = some (.int .i64 t_x.zo) := b_x.cell 4
  have c_x_5 : y7_.cell? ⟨y3_.heap.size, 5, none⟩ = some (.bool t_x.be) := b_x.cell 5
  have c_x_6 : y7_.cell? ⟨y3_.heap.size, 6, none⟩ = some (.slice t_x.la t_x.ln t_x.lcap) := b_x.cell 6
  go_wp2_with fail
  refine (markAct_any t_x 1 _ (by rw [e_x.ln]; omega) (by omega) (by omega) o_x).mono ?_
  rintro e y8_ ⟨rfl, ho, om_⟩
  clear c_x_0 c_x_1 c_x_2 c_x_3 c_x_4 c_x_5 c_x_6
  have y_x : 0 ≤ 1 + 7 * (t_x.ln : Int) := by omega
  replace o_w := o_w.onlyE ho a_w_x
  replace o_g := o_g.onlyE ho a_g_x
  replace b_v1 := b_v1.onlyR ho d_v1_x
  replace b_c0 := b_c0.onlyR ho d_c0_x
  replace b_x := b_x.onlyR ho d_x_x
  replace hB := below_only hB f_x hB.size ho
  clear ho om_ o_x
  clear b_x
  go_wp2_with fail
  refine (eqEventS_same _ _ q_g q_w (paN p0) _ _ (paF p0 p1) _ nn9 o_g.rd o_w.rd).mono ?_
  rintro e y9_ ⟨rfl, hb⟩
  replace o_w := o_w.grew hb
  replace o_g := o_g.grew hb
  replace b_v1 := b_v1.grew hb
  replace b_c0 := b_c0.grew hb
  replace hB := below_app hB hb hB.size
  clear hb
  go_wp2_with fail
  refine (markEventS_any _ q_g (paN p0) _ 1 _ _ nn8 (by omega) (by omega) o_g).mono ?_
  rintro e y10_ ⟨rfl, ho, om_⟩
  replace o_w := o_w.onlyE ho a_w_g
  replace b_v1 := b_v1.onlyR ho d_v1_g
  replace b_c0 := b_c0.onlyR ho d_c0_g
  replace hB := below_only hB f_g hB.size ho
  clear ho o_g
  have o_g := om_
  clear om_
  go_wp2_with fail
  refine (heldEventS_any _ q_g (paN p0) _ 1 _ nn8 (by omega) (by omega) o_g.rd).mono ?_
  rintro e y11_ ⟨rfl, hb⟩
  replace o_w := o_w.grew hb
  replace o_g := o_g.grew hb
  replace b_v1 := b_v1.grew hb
  replace b_c0 := b_c0.grew hb
  replace hB := below_app hB hb hB.size
  clear hb
  go_wp2_with fail
  refine wp_cutT (fun x : Ac × Nat × Nat => [(60, (.agg #[.int .i64 p0.kd, .int .i64 p0.nn, .int .i64 p0.pi, .int .i64 p0.si, .int .i64 p0.zo, .bool p0.be, .slice p0.la p0.ln p0.lcap])), (61, (.agg #[.int .i64 x.1.kd, .int .i64 x.1.nn, .int .i64 x.1.pi, .int .i64 x.1.si, .int .i64 x.1.zo, .bool x.1.be, .slice x.1.la x.1.ln x.1.lcap])), (62, (.agg #[.int .i64 p1.kd, .int .i64 p1.sr, .int .i64 p1.pi, .int .i64 p1.si, .int .i64 p1.nn, .int .i64 p1.zo, .bool p1.be])), (63, (.agg #[.int .i64 p1.kd, .int .i64 p1.sr, .int .i64 p1.pi, .int .i64 p1.si, .int .i64 p1.nn, .int .i64 p1.zo, .bool p1.be])), (64, .slice (some ⟨x.2.1, 0, none⟩) (paN p0) x.2.2), (12, .slice (some ⟨x.2.1, 0, none⟩) (paN p0) x.2.2)]) (fun x u => Below y11_.heap.size y11_ u ∧ OwnE evC 7 u y11_.heap.size x.2.1 (some ⟨x.2.1, 0, none⟩) (paN p0) (paF p0 p1)) ?_ ?_
  · have hq0 : Below y11_.heap.size y11_ y11_.drew := (Below.refl _ y11_).drew
    have c_c0_0 : y11_.cell? ⟨w.heap.size, 0, none⟩ = some (.int .i64 p0.kd) := b_c0.cell 0
    have c_c0_1 : y11_.cell? ⟨w.heap.size, 1, none⟩ = some (.int .i64 p0.nn) := b_c0.cell 1
    have c_c0_2 : y11_.cell? ⟨w.heap.size, 2, none⟩ = some (.int .i64 p0.pi) := b_c0.cell 2
    have c_c0_3 : y11_.cell? ⟨w.heap.size, 3, none⟩ = some (.int .i64 p0.si) := b_c0.cell 3
    have c_c0_4 : y11_.cell? ⟨w.heap.size, 4, none⟩ = some (.int .i64 p0.zo) := b_c0.cell 4
    have c_c0_5 : y11_.cell? ⟨w.heap.size, 5, none⟩ = some (.bool p0.be) := b_c0.cell 5
    have c_c0_6 : y11_.cell? ⟨w.heap.size, 6, none⟩ = some (.slice p0.la p0.ln p0.lcap) := b_c0.cell 6
    have c_v1_0 : y11_.cell? ⟨w.heap.size + 1, 0, none⟩ = some (.int .i64 p1.kd) := b_v1.cell 0
    have c_v1_1 : y11_.cell? ⟨w.heap.size + 1, 1, none⟩ = some (.int .i64 p1.sr) := b_v1.cell 1
    have c_v1_2 : y11_.cell? ⟨w.heap.size + 1, 2, none⟩ = some (.int .i64 p1.pi) := b_v1.cell 2
    have c_v1_3 : y11_.cell? ⟨w.heap.size + 1, 3, none⟩ = some (.int .i64 p1.si) := b_v1.cell 3
    have c_v1_4 : y11_.cell? ⟨w.heap.size + 1, 4, none⟩ = some (.int .i64 p1.nn) := b_v1.cell 4
    have c_v1_5 : y11_.cell? ⟨w.heap.size + 1, 5, none⟩ = some (.int .i64 p1.zo) := b_v1.cell 5
    have c_v1_6 : y11_.cell? ⟨w.heap.size + 1, 6, none⟩ = some (.bool p1.be) := b_v1.cell 6
    have SK : ∀ u : World, Below y11_.heap.size y11_ u → u.cell? ⟨w.heap.size, 0, none⟩ = some (.int .i64 p0.kd) ∧ u.cell? ⟨w.heap.size, 1, none⟩ = some (.int .i64 p0.nn) ∧ u.cell? ⟨w.heap.size, 2, none⟩ = some (.int .i64 p0.pi) ∧ u.cell? ⟨w.heap.size, 3, none⟩ = some (.int .i64 p0.si) ∧ u.cell? ⟨w.heap.size, 4, none⟩ = some (.int .i64 p0.zo) ∧ u.cell? ⟨w.heap.size, 5, none⟩ = some (.bool p0.be) ∧ u.cell? ⟨w.heap.size, 6, none⟩ = some (.slice p0.la p0.ln p0.lcap) ∧ u.cell? ⟨w.heap.size + 1, 0, none⟩ = some (.int .i64 p1.kd) ∧ u.cell? ⟨w.heap.size + 1, 1, none⟩ = some (.int .i64 p1.sr) ∧ u.cell? ⟨w.heap.size + 1, 2, none⟩ = some (.int .i64 p1.pi) ∧ u.cell? ⟨w.heap.size + 1, 3, none⟩ = some (.int .i64 p1.si) ∧ u.cell? ⟨w.heap.size + 1, 4, none⟩ = some (.int .i64 p1.nn) ∧ u.cell? ⟨w.heap.size + 1, 5, none⟩ = some (.int .i64 p1.zo) ∧ u.cell? ⟨w.heap.size + 1, 6, none⟩ = some (.bool p1.be) := fun u hu => ⟨(hu.cell (World.block_lt_of_cell? _ _ c_c0_0)).trans c_c0_0, (hu.cell (World.block_lt_of_cell? _ _ c_c0_1)).trans c_c0_1, (hu.cell (World.block_lt_of_cell? _ _ c_c0_2)).trans c_c0_2, (hu.cell (World.block_lt_of_cell? _ _ c_c0_3)).trans c_c0_3, (hu.cell (World.block_lt_of_cell? _ _ c_c0_4)).trans c_c0_4, (hu.cell (World.block_lt_of_cell? _ _ c_c0_5)).trans c_c0_5, (hu.cell (World.block_lt_of_cell? _ _ c_c0_6)).trans c_c0_6, (hu.cell (World.block_lt_of_cell? _ _ c_v1_0)).trans c_v1_0, (hu.cell (World.block_lt_of_cell? _ _ c_v1_1)).trans c_v1_1, (hu.cell (World.block_lt_of_cell? _ _ c_v1_2)).trans c_v1_2, (hu.cell (World.block_lt_of_cell? _ _ c_v1_3)).trans c_v1_3, (hu.cell (World.block_lt_of_cell? _ _ c_v1_4)).trans c_v1_4, (hu.cell (World.block_lt_of_cell? _ _ c_v1_5)).trans c_v1_5, (hu.cell (World.block_lt_of_cell? _ _ c_v1_6)).trans c_v1_6⟩
    have okK : ∀ u : World, Below y11_.heap.size y11_ u → p0.ok u := fun u hu => act_grew k_c0 (below_app hB hu hB.size)
    clear c_c0_0 c_c0_1 c_c0_2 c_c0_3 c_c0_4 c_c0_5 c_c0_6 c_v1_0 c_v1_1 c_v1_2 c_v1_3 c_v1_4 c_v1_5 c_v1_6
    go_region_held (fun u : World => u.cell? ⟨w.heap.size, 0, none⟩ = some (.int .i64 p0.kd) ∧ u.cell? ⟨w.heap.size, 1, none⟩ = some (.int .i64 p0.nn) ∧ u.cell? ⟨w.heap.size, 2, none⟩ = some (.int .i64 p0.pi) ∧ u.cell? ⟨w.heap.size, 3, none⟩ = some (.int .i64 p0.si) ∧ u.cell? ⟨w.heap.size, 4, none⟩ = some (.int .i64 p0.zo) ∧ u.cell? ⟨w.heap.size, 5, none⟩ = some (.bool p0.be) ∧ u.cell? ⟨w.heap.size, 6, none⟩ = some (.slice p0.la p0.ln p0.lcap) ∧ u.cell? ⟨w.heap.size + 1, 0, none⟩ = some (.int .i64 p1.kd) ∧ u.cell? ⟨w.heap.size + 1, 1, none⟩ = some (.int .i64 p1.sr) ∧ u.cell? ⟨w.heap.size + 1, 2, none⟩ = some (.int .i64 p1.pi) ∧ u.cell? ⟨w.heap.size + 1, 3, none⟩ = some (.int .i64 p1.si) ∧ u.cell? ⟨w.heap.size + 1, 4, none⟩ = some (.int .i64 p1.nn) ∧ u.cell? ⟨w.heap.size + 1, 5, none⟩ = some (.int .i64 p1.zo) ∧ u.cell? ⟨w.heap.size + 1, 6, none⟩ = some (.bool p1.be)) (first | (refine SK _ ?_; first | with_reducible exact hq0 | with_reducible exact hq1 | with_reducible exact hq2 | with_reducible exact hq3)) (first | (go_at_call 9; refine (toAct_ans p0 _ (okK _ hq0) n_c0).mono ?_; rintro e v1 ⟨ty, rfl, hb1, oy, ey⟩; have hq1 : Below y11_.heap.size y11_ v1 := below_app hq0 hb1 hq0.size) | (go_at_call 13; refine (toEvent_any p1 _).mono ?_; rintro e v2 ⟨rfl, hb2⟩; have hq2 : Below y11_.heap.size y11_ v2 := below_app hq1 hb2 hq1.size; replace oy := oy.grew hb2) | (go_at_call 14; refine (implParts_al p1 oy ey k_c0 n_c0).mono ?_; rintro e v3 ⟨q9, c9, rfl, hb3, o9⟩; have hq3 : Below y11_.heap.size y11_ v3 := below_app hq2 hb3 hq2.size))
    all_goals exact ⟨(ty, q9, c9), rfl, hq3, ⟨by show y11_.heap.size ≤ q9; have h1 := hq2.size; have h2 := o9.1; omega, o9.2⟩⟩
  rintro ⟨t__h, q_h, cp_h⟩ y12_ ⟨hb, o_h⟩
  simp only [puts, List.foldl, Act.put, List.setIfInBounds_toArray, List.set_cons_zero, List.set_cons_succ]
  dsimp only at o_h ⊢
  have a_w_h : q_w ≠ q_h := by have h1 := o_w.2.1; have h2 := o_h.1; omega
  have a_h_w : q_h ≠ q_w := a_w_h.symm
  have a_g_h : q_g ≠ q_h := by have h1 := o_g.2.1; have h2 := o_h.1; omega
  have a_h_g : q_h ≠ q_g := a_g_h.symm
  have d_v1_h : w.heap.size + 1 ≠ q_h := by have h1 := b_v1.lt; have h2 := o_h.1; omega
  have d_c0_h : w.heap.size ≠ q_h := by have h1 := b_c0.lt; have h2 := o_h.1; omega
  have f_h : W.heap.size ≤ q_h := by have := o_h.1; have := hB.size; omega
  replace o_w := o_w.grew hb
  replace o_g := o_g.grew hb
  replace b_v1 := b_v1.grew hb
  replace b_c0 := b_c0.grew hb
  replace hB := below_app hB hb hB.size
  clear hb
  go_wp2_with fail
  refine (eqEventS_same _ _ q_h q_w (paN p0) _ _ (paF p0 p1) _ nn9 o_h.rd o_w.rd).mono ?_
  rintro e y13_ ⟨rfl, hb⟩
  replace o_w := o_w.grew hb
  replace o_g := o_g.grew hb
  replace o_h := o_h.grew hb
  replace b_v1 := b_v1.grew hb
  replace b_c0 := b_c0.grew hb
  replace hB := below_app hB hb hB.size
  clear hb
  clear o_h
  clear o_w
  go_wp2_with fail
  refine (heldEventS_any _ q_g (paN p0) _ 1 _ nn8 (by omega) (by omega) o_g.rd).mono ?_
  rintro e y14_ ⟨rfl, hb⟩
  replace o_g := o_g.grew hb
  replace b_v1 := b_v1.grew hb
  replace b_c0 := b_c0.grew hb
  replace hB := below_app hB hb hB.size
  clear hb
  go_wp2
  go_ret
  exact ⟨rfl, below_app hBw hB hsz⟩

set_option maxRecDepth 100000 in
theorem lifted (os : Os) (started : os.Started) (H : Type) (enc : TypeId × Value → H) :
    ReturnsInHanded {} Try.checked os 4 .any (Rows.fnExactPartsSpec.pre6 enc Try.prog Try.f4 Rows.fnExactPartsRow.domain false) (Rows.fnExactPartsSpec.post enc Try.prog Try.f4 false true false false) := by
  refine returnsInHanded_of_change (C := Try.checked) own started (by kernel_rfl) Try.func4
    (ChangeSpec.witness6 (enc := enc) (C := Try.checked) false ⟨#[], #[.agg #[.int .i64 0, .int .i64 0, .int .i64 0, .int .i64 0, .int .i64 0, .bool false, .slice none 0 0], .agg #[.int .i64 0, .int .i64 0, .int .i64 0, .int .i64 0, .int .i64 0, .int .i64 0, .bool false]], []⟩ 8 (by kernel_rfl) (by kernel_rfl) (by kernel_rfl) (by kernel_rfl)) ?_
  intro W base args ds gs before hval0 hW hcnd _
  have hval : ∀ (j : Nat) t v, Try.f4.params[j]? = some t → args[j]? = some v → Value.okWide Try.prog W .any base t v := hval0
  have hW' := hW
  obtain ⟨p, q, hA0, hV, rfl, hfz, hnd⟩ := hW
  have hA : DataW.TrodAll enc Try.prog W 0 (fun _ => true) true Try.f4.params.toList args.toList ds p := hA0
  rw [Try.params4] at hA hval
  obtain ⟨v0, vs0, d0, ds0, p0', q0, hargs, rfl, rfl, h0, r0⟩ := trodAll_cons hA
  obtain ⟨v1, vs1, d1, ds1, p1', q1, rfl, rfl, rfl, h1, r1⟩ := trodAll_cons r0
  obtain ⟨rfl, rfl, rfl⟩ := trodAll_nil r1
  obtain rfl : args = #[v0, v1] := by cases args; simp_all
  obtain ⟨rfl, rfl⟩ := trodVars_none hV
  have k0 := h0
  have lt0 : ∀ x ∈ p0', x.block < W.heap.size := by obtain ⟨m, hm⟩ := k0; exact DataW.trod_lt m _ _ _ hm
  obtain ⟨p0, rfl, w0⟩ := open_act (hval 0 24 v0 rfl rfl) h0
  have k1 := h1
  have lt1 : ∀ x ∈ p1', x.block < W.heap.size := by obtain ⟨m, hm⟩ := k1; exact DataW.trod_lt m _ _ _ hm
  obtain ⟨p1, rfl, w1⟩ := open_event (hval 1 34 v1 rfl rfl) h1
  clear hA0 hval0
  refine (walk p0 p1 W w0 w1).mono fun e W' ⟨he, bel⟩ => ?_
  subst he
  exact ⟨_, rfl, _, _, _, [], _, [], hW', trodAll_mk1 (shut_bool Try.underlying4 _), (trodAll_cons_mk (Below.trod laidOut (by kernel_rfl) (of_decide_eq_true (by kernel_rfl)) k0 bel lt0) (trodAll_cons_mk (Below.trod laidOut (by kernel_rfl) (of_decide_eq_true (by kernel_rfl)) k1 bel lt1) trodAll_mk0)), rfl, bel.frame _, fun h => by cases h⟩

theorem over : Rows.fnExactPartsRow.holds Try.pinned (OpenSpec.ofChange Rows.fnExactPartsSpec) :=
  OpenClaim.holds_of_wide 4 Try.f4 rfl rfl rfl rfl rfl rfl rfl ⟨rfl, rfl, rfl, rfl, rfl⟩ rfl rfl rfl rfl rfl (by kernel_rfl) Try.func4 (by kernel_rfl)
    (of_decide_eq_true (by kernel_rfl)) (by unfold Func.isWrapper; first | (rw [if_pos (by decide +kernel)]; kernel_rfl) | (rw [if_neg (by decide +kernel)]; exact ⟨rfl, rfl⟩))
    (fun os started H enc _ => lifted os started H enc)

theorem proved : Rows.FnExactPartsSaid := over
#print axioms proved
end Go.Proofs.Ytgaodfjmehofgas.fnExactParts
