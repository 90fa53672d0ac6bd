/-
  What is proved: at every state and every piece, the law FnExactSetPiece answers true: the program's and the specification's answer alike, the answer lies in new memory, and the arguments read afterwards as before; no condition.
-/
import Derived.Test.YtpdoefcdajcloaoRows
import Derived.Test.YtpdoefcdajcloaoNum
import Derived.Test.YtpdoefcdajcloaoCur
import Derived.Test.YtpdoefcdajcloaoRow
import Derived.Test.YtpdoefcdajcloaoRowLaw
import Derived.Test.YtpdoefcdajcloaoPiece
import Derived.Test.YtpdoefcdajcloaoPiece2
import Derived.Test.YtpdoefcdajcloaoState1
import Derived.Test.YtpdoefcdajcloaoState2
import Derived.Test.YtpdoefcdajcloaoState3
import Derived.Test.YtpdoefcdajcloaoSeg
import Derived.Test.YtpdoefcdajcloaoRegCut
import Derived.Test.YtpdoefcdajcloaoRegTail
import Derived.Test.YtpdoefcdajcloaoRegBelow
import Derived.Test.YtpdoefcdajcloaoPiece3
import Derived.Test.YtpdoefcdajcloaoState4
import Derived.Test.YtpdoefcdajcloaoState5
import Derived.Test.YtpdoefcdajcloaoPieceOk
import Derived.Test.YtpdoefcdajcloaoState6
import Derived.Test.YtpdoefcdajcloaoState7
import Derived.Test.YtpdoefcdajcloaoBytes
import Derived.Test.YtpdoefcdajcloaoState8
import Derived.Test.YtpdoefcdajcloaoStAt
import Derived.Test.YtpdoefcdajcloaoStField
import Derived.Test.YtpdoefcdajcloaoPieceI1
import Derived.Test.YtpdoefcdajcloaoPieceI2
import Derived.Test.YtpdoefcdajcloaoPieceOkI
import Derived.Test.YtpdoefcdajcloaoStOkA
import Derived.Test.YtpdoefcdajcloaoStOkB
import Derived.Test.YtpdoefcdajcloaoStOkI
import Derived.Test.YtpdoefcdajcloaoStEq
import Derived.Test.YtpdoefcdajcloaoStSame
import Derived.Test.YtpdoefcdajcloaoStSameS
import Derived.Test.YtpdoefcdajcloaoStSameI
import Derived.Test.YtpdoefcdajcloaoStMark
import Derived.Test.YtpdoefcdajcloaoStHeld
import Derived.Test.YtpdoefcdajcloaoStNew
import Derived.Test.YtpdoefcdajcloaoStLaw
import Derived.Test.YtpdoefcdajcloaoStCopy
import Derived.Test.YtpdoefcdajcloaoStSetT
import Derived.Test.YtpdoefcdajcloaoStCat
import Derived.Test.YtpdoefcdajcloaoStSetI
import Derived.Test.YtpdoefcdajcloaoStLawS
import Derived.WalkKit
import Derived.ProofKit
import Derived.OpenShut
import Derived.ShutString
import Derived.ChangeOld
import Derived.Below
namespace Go.Proofs.Ytpdoefcdajcloao.fnExactSetPiece
open Go.ChangeShapes Go.WideShapes Go.ChangeAt Go.RowKit
set_option linter.unusedVariables false

theorem own : ownKnob Try.prog.godebug = none := by kernel_rfl
theorem laidOut : laidOutB Try.prog = true := by kernel_rfl

def IsRow (k : IntKind) (w : World) (a : Option Addr) (len cap : Nat) (zs : List Int) : Prop :=
  (a = none ∧ len = 0 ∧ cap = 0 ∧ zs = []) ∨
  ∃ x, a = some x ∧ len ≤ cap ∧ cap ≤ maxLen ∧ zs.length = cap ∧ (∀ i, i < zs.length → w.cell? (x.add i) = some (.int k (zs.getD i 0))) ∧ ∀ n ∈ zs, (Lit.int k n).wf = true

set_option maxHeartbeats 2000000 in
set_option maxHeartbeats 4000000 in
theorem walk (p0 : Stt) (p1 : Pc) (w : World) (w0 : p0.ok w) (w1 : p1.wf) :
    Calls Try.prog 7 #[.agg #[.slice p0.pa p0.pn p0.pcap, .slice p0.sa p0.sn p0.scap, .int .i64 p0.ac, .int .i64 p0.cl], .agg #[.int .i64 p1.id, .int .i64 p1.ow, .int .i64 p1.si, .int .i64 p1.zo, .int .i64 p1.st, .int .i64 p1.po, .int .i64 p1.to, .int .i64 p1.tr, .int .i64 p1.pl, .int .i64 p1.mi, .int .i64 p1.ma, .bool p1.de, .bool p1.be]] w fun e w' => e = .returned (.bool true) ∧ Below w.heap.size w w' := by
  have m_ : Try.prog.follows Departure.mixedOrders = true := by kernel_rfl
  have hBw := ((Below.refl _ w).alloc (by exact Nat.le_refl _) (.cells #[.slice p0.pa p0.pn p0.pcap, .slice p0.sa p0.sn p0.scap, .int .i64 p0.ac, .int .i64 p0.cl] 25)).alloc (by simp) (.cells #[.int .i64 p1.id, .int .i64 p1.ow, .int .i64 p1.si, .int .i64 p1.zo, .int .i64 p1.st, .int .i64 p1.po, .int .i64 p1.to, .int .i64 p1.tr, .int .i64 p1.pl, .int .i64 p1.mi, .int .i64 p1.ma, .bool p1.de, .bool p1.be] 41)
  have b_p0 := (boxR_new w 25 #[.slice p0.pa p0.pn p0.pcap, .slice p0.sa p0.sn p0.scap, .int .i64 p0.ac, .int .i64 p0.cl]).alloc (.cells #[.int .i64 p1.id, .int .i64 p1.ow, .int .i64 p1.si, .int .i64 p1.zo, .int .i64 p1.st, .int .i64 p1.po, .int .i64 p1.to, .int .i64 p1.tr, .int .i64 p1.pl, .int .i64 p1.mi, .int .i64 p1.ma, .bool p1.de, .bool p1.be] 41)
  have b_q1 := boxR_new (w.alloc (.cells #[.slice p0.pa p0.pn p0.pcap, .slice p0.sa p0.sn p0.scap, .int .i64 p0.ac, .int .i64 p0.cl] 25)) 41 #[.int .i64 p1.id, .int .i64 p1.ow, .int .i64 p1.si, .int .i64 p1.zo, .int .i64 p1.st, .int .i64 p1.po, .int .i64 p1.to, .int .i64 p1.tr, .int .i64 p1.pl, .int .i64 p1.mi, .int .i64 p1.ma, .bool p1.de, .bool p1.be]
  simp only [World.size_alloc] at b_q1
  generalize hW : (w.alloc (.cells #[.slice p0.pa p0.pn p0.pcap, .slice p0.sa p0.sn p0.scap, .int .i64 p0.ac, .int .i64 p0.cl] 25)).alloc (.cells #[.int .i64 p1.id, .int .i64 p1.ow, .int .i64 p1.si, .int .i64 p1.zo, .int .i64 p1.st, .int .i64 p1.po, .int .i64 p1.to, .int .i64 p1.tr, .int .i64 p1.pl, .int .i64 p1.mi, .int .i64 p1.ma, .bool p1.de, .bool p1.be] 41) = W at hBw b_p0 b_q1
  have hsz : w.heap.size ≤ W.heap.size := hBw.size
  have k_p0 := stt_grew w0 hBw
  have l_p0 := b_p0.lt
  have l_q1 := b_q1.lt
  have hB := Below.refl W.heap.size W
  by_cases z0 : (1048576 : Int) - (p0.pn : Int) - (p0.sn : Int) < 0
  · have Z0 : Hid (szS p0.pn p0.sn (1048576 : Int) = -1) := szS_no z0
    go_enter Try.func7, Try.ntmps7
    have c_p0_0 := b_p0.cell 0
    have c_p0_1 := b_p0.cell 1
    have c_p0_2 := b_p0.cell 2
    have c_p0_3 := b_p0.cell 3
    simp at c_p0_0 c_p0_1 c_p0_2 c_p0_3
    go_wp2_with fail
    refine (szState_any p0 (1048576 : Int) _ (by have := k_p0.1; have := k_p0.2.1; unfold maxLen at *; omega) (by have := k_p0.2.2.2.1; have := k_p0.2.2.2.2.1; unfold maxLen at *; omega) (by omega)).mono ?_
    rintro e u1 ⟨rfl, hb⟩
    clear c_p0_0 c_p0_1 c_p0_2 c_p0_3
    try clear hW
    replace b_p0 := b_p0.grew hb
    replace b_q1 := b_q1.grew hb
    replace hB := below_app hB hb hB.size
    clear hb
    rw [Z0.out]
    go_wp2
    go_ret
    exact ⟨rfl, below_app hBw hB hsz⟩
  have n_p0 : p0.pn ≤ 1048576 := by omega
  have n2_p0 : p0.sn ≤ 1048576 := by omega
  have Y0 : Hid (szS p0.pn p0.sn (1048576 : Int) = (1048576 : Int) - p0.pn - p0.sn) := szS_le z0
  have y0 : 0 ≤ (1048576 : Int) - p0.pn - p0.sn := by omega
  go_enter Try.func7, Try.ntmps7
  have c_p0_0 := b_p0.cell 0
  have c_p0_1 := b_p0.cell 1
  have c_p0_2 := b_p0.cell 2
  have c_p0_3 := b_p0.cell 3
  simp at c_p0_0 c_p0_1 c_p0_2 c_p0_3
  go_wp2_with fail
  refine (szState_any p0 (1048576 : Int) _ (by omega) (by omega) (by omega)).mono ?_
  rintro e u1 ⟨rfl, hb⟩
  clear c_p0_0 c_p0_1 c_p0_2 c_p0_3
  try clear hW
  replace b_p0 := b_p0.grew hb
  replace b_q1 := b_q1.grew hb
  replace hB := below_app hB hb hB.size
  clear hb
  rw [Y0.out]
  have nn := spN_le p0 p1
  go_wp2_with fail
  refine wp_cutT (fun x : Stt × Stt × Nat => [(18, (.agg #[.slice p0.pa p0.pn p0.pcap, .slice p0.sa p0.sn p0.scap, .int .i64 p0.ac, .int .i64 p0.cl])), (19, (.agg #[.slice x.1.pa x.1.pn x.1.pcap, .slice x.1.sa x.1.sn x.1.scap, .int .i64 x.1.ac, .int .i64 x.1.cl])), (20, (.agg #[.int .i64 p1.id, .int .i64 p1.ow, .int .i64 p1.si, .int .i64 p1.zo, .int .i64 p1.st, .int .i64 p1.po, .int .i64 p1.to, .int .i64 p1.tr, .int .i64 p1.pl, .int .i64 p1.mi, .int .i64 p1.ma, .bool p1.de, .bool p1.be])), (21, (.agg #[.int .i64 p1.id, .int .i64 p1.ow, .int .i64 p1.si, .int .i64 p1.zo, .int .i64 p1.st, .int .i64 p1.po, .int .i64 p1.to, .int .i64 p1.tr, .int .i64 p1.pl, .int .i64 p1.mi, .int .i64 p1.ma, .bool p1.de, .bool p1.be])), (22, (.agg #[.slice x.2.1.pa x.2.1.pn x.2.1.pcap, .slice x.2.1.sa x.2.1.sn x.2.1.scap, .int .i64 x.2.1.ac, .int .i64 x.2.1.cl])), (6, .pointer (some ⟨x.2.2, 0, none⟩))]) (fun x u => Below u1.heap.size u1 u ∧ OwnT u u1.heap.size x.2.1 ∧ Alike x.2.1 (spS p0 p1) ∧ BoxR u x.2.2 31 #[.slice x.2.1.pa x.2.1.pn x.2.1.pcap, .slice x.2.1.sa x.2.1.sn x.2.1.scap, .int .i64 x.2.1.ac, .int .i64 x.2.1.cl] ∧ u1.heap.size ≤ x.2.2 ∧ Away x.2.2 x.2.1) ?_ ?_
  · have c_p0_0 := b_p0.cell 0
    have c_p0_1 := b_p0.cell 1
    have c_p0_2 := b_p0.cell 2
    have c_p0_3 := b_p0.cell 3
    have c_q1_0 := b_q1.cell 0
    have c_q1_1 := b_q1.cell 1
    have c_q1_2 := b_q1.cell 2
    have c_q1_3 := b_q1.cell 3
    have c_q1_4 := b_q1.cell 4
    have c_q1_5 := b_q1.cell 5
    have c_q1_6 := b_q1.cell 6
    have c_q1_7 := b_q1.cell 7
    have c_q1_8 := b_q1.cell 8
    have c_q1_9 := b_q1.cell 9
    have c_q1_10 := b_q1.cell 10
    have c_q1_11 := b_q1.cell 11
    have c_q1_12 := b_q1.cell 12
    simp at c_p0_0 c_p0_1 c_p0_2 c_p0_3 c_q1_0 c_q1_1 c_q1_2 c_q1_3 c_q1_4 c_q1_5 c_q1_6 c_q1_7 c_q1_8 c_q1_9 c_q1_10 c_q1_11 c_q1_12
    have SK : ∀ u : World, Below u1.heap.size u1 u → u.cell? ⟨w.heap.size, 0, none⟩ = some (.slice p0.pa p0.pn p0.pcap) ∧ u.cell? ⟨w.heap.size, 1, none⟩ = some (.slice p0.sa p0.sn p0.scap) ∧ u.cell? ⟨w.heap.size, 2, none⟩ = some (.int .i64 p0.ac) ∧ u.cell? ⟨w.heap.size, 3, none⟩ = some (.int .i64 p0.cl) ∧ u.cell? ⟨w.heap.size + 1, 0, none⟩ = some (.int .i64 p1.id) ∧ u.cell? ⟨w.heap.size + 1, 1, none⟩ = some (.int .i64 p1.ow) ∧ u.cell? ⟨w.heap.size + 1, 2, none⟩ = some (.int .i64 p1.si) ∧ u.cell? ⟨w.heap.size + 1, 3, none⟩ = some (.int .i64 p1.zo) ∧ u.cell? ⟨w.heap.size + 1, 4, none⟩ = some (.int .i64 p1.st) ∧ u.cell? ⟨w.heap.size + 1, 5, none⟩ = some (.int .i64 p1.po) ∧ u.cell? ⟨w.heap.size + 1, 6, none⟩ = some (.int .i64 p1.to) ∧ u.cell? ⟨w.heap.size + 1, 7, none⟩ = some (.int .i64 p1.tr) ∧ u.cell? ⟨w.heap.size + 1, 8, none⟩ = some (.int .i64 p1.pl) ∧ u.cell? ⟨w.heap.size + 1, 9, none⟩ = some (.int .i64 p1.mi) ∧ u.cell? ⟨w.heap.size + 1, 10, none⟩ = some (.int .i64 p1.ma) ∧ u.cell? ⟨w.heap.size + 1, 11, none⟩ = some (.bool p1.de) ∧ u.cell? ⟨w.heap.size + 1, 12, none⟩ = some (.bool p1.be) := fun u hu => ⟨(hu.cell (World.block_lt_of_cell? _ _ c_p0_0)).trans c_p0_0, (hu.cell (World.block_lt_of_cell? _ _ c_p0_1)).trans c_p0_1, (hu.cell (World.block_lt_of_cell? _ _ c_p0_2)).trans c_p0_2, (hu.cell (World.block_lt_of_cell? _ _ c_p0_3)).trans c_p0_3, (hu.cell (World.block_lt_of_cell? _ _ c_q1_0)).trans c_q1_0, (hu.cell (World.block_lt_of_cell? _ _ c_q1_1)).trans c_q1_1, (hu.cell (World.block_lt_of_cell? _ _ c_q1_2)).trans c_q1_2, (hu.cell (World.block_lt_of_cell? _ _ c_q1_3)).trans c_q1_3, (hu.cell (World.block_lt_of_cell? _ _ c_q1_4)).trans c_q1_4, (hu.cell (World.block_lt_of_cell? _ _ c_q1_5)).trans c_q1_5, (hu.cell (World.block_lt_of_cell? _ _ c_q1_6)).trans c_q1_6, (hu.cell (World.block_lt_of_cell? _ _ c_q1_7)).trans c_q1_7, (hu.cell (World.block_lt_of_cell? _ _ c_q1_8)).trans c_q1_8, (hu.cell (World.block_lt_of_cell? _ _ c_q1_9)).trans c_q1_9, (hu.cell (World.block_lt_of_cell? _ _ c_q1_10)).trans c_q1_10, (hu.cell (World.block_lt_of_cell? _ _ c_q1_11)).trans c_q1_11, (hu.cell (World.block_lt_of_cell? _ _ c_q1_12)).trans c_q1_12⟩
    have hD : Below u1.heap.size u1 u1.drew := (Below.refl _ u1).drew
    have okK : ∀ u : World, Below u1.heap.size u1 u → p0.ok u := fun u hu => stt_grew k_p0 (below_app hB hu hB.size)
    clear c_p0_0 c_p0_1 c_p0_2 c_p0_3 c_q1_0 c_q1_1 c_q1_2 c_q1_3 c_q1_4 c_q1_5 c_q1_6 c_q1_7 c_q1_8 c_q1_9 c_q1_10 c_q1_11 c_q1_12
    have hA0 : Below u1.heap.size u1 (u1.alloc (.cells #[.slice none 0 0, .slice none 0 0, .int .i64 0, .int .i64 0] 31)).drew := ((Below.refl _ u1).alloc (Nat.le_refl _) (.cells #[.slice none 0 0, .slice none 0 0, .int .i64 0, .int .i64 0] 31)).drew
    have bA0 : BoxR (u1.alloc (.cells #[.slice none 0 0, .slice none 0 0, .int .i64 0, .int .i64 0] 31)).drew u1.heap.size 31 #[.slice none 0 0, .slice none 0 0, .int .i64 0, .int .i64 0] := boxR_new u1 31 #[.slice none 0 0, .slice none 0 0, .int .i64 0, .int .i64 0]
    go_region_held (fun u : World => u.cell? ⟨w.heap.size, 0, none⟩ = some (.slice p0.pa p0.pn p0.pcap) ∧ u.cell? ⟨w.heap.size, 1, none⟩ = some (.slice p0.sa p0.sn p0.scap) ∧ u.cell? ⟨w.heap.size, 2, none⟩ = some (.int .i64 p0.ac) ∧ u.cell? ⟨w.heap.size, 3, none⟩ = some (.int .i64 p0.cl) ∧ u.cell? ⟨w.heap.size + 1, 0, none⟩ = some (.int .i64 p1.id) ∧ u.cell? ⟨w.heap.size + 1, 1, none⟩ = some (.int .i64 p1.ow) ∧ u.cell? ⟨w.heap.size + 1, 2, none⟩ = some (.int .i64 p1.si) ∧ u.cell? ⟨w.heap.size + 1, 3, none⟩ = some (.int .i64 p1.zo) ∧ u.cell? ⟨w.heap.size + 1, 4, none⟩ = some (.int .i64 p1.st) ∧ u.cell? ⟨w.heap.size + 1, 5, none⟩ = some (.int .i64 p1.po) ∧ u.cell? ⟨w.heap.size + 1, 6, none⟩ = some (.int .i64 p1.to) ∧ u.cell? ⟨w.heap.size + 1, 7, none⟩ = some (.int .i64 p1.tr) ∧ u.cell? ⟨w.heap.size + 1, 8, none⟩ = some (.int .i64 p1.pl) ∧ u.cell? ⟨w.heap.size + 1, 9, none⟩ = some (.int .i64 p1.mi) ∧ u.cell? ⟨w.heap.size + 1, 10, none⟩ = some (.int .i64 p1.ma) ∧ u.cell? ⟨w.heap.size + 1, 11, none⟩ = some (.bool p1.de) ∧ u.cell? ⟨w.heap.size + 1, 12, none⟩ = some (.bool p1.be)) (first | (refine SK _ ?_; first | with_reducible exact hD | with_reducible exact hA0 | with_reducible exact hq1 | with_reducible exact hq1.alloc hq1.size _ | with_reducible exact hq2 | with_reducible exact hq2.alloc hq2.size _ | with_reducible exact hq3 | with_reducible exact hq3.alloc hq3.size _ | with_reducible exact set4_below hq3 (by first | exact Nat.le_refl _ | exact hq1.size | exact hq2.size) _ _ _ _)) (first | (go_at_call 11; refine (toState_ansF p0 _ (okK _ (by first | with_reducible exact hq2 | with_reducible exact hq2.alloc hq2.size _ | with_reducible exact hA0 | with_reducible exact hD)) n_p0 n2_p0).mono ?_; rintro e v1 ⟨ty, rfl, hb1, oy, ey, fy⟩; have hq1 : Below u1.heap.size u1 v1 := (by first | with_reducible exact below_app (hq2) hb1 (hq2).size | with_reducible exact below_app (hq2.alloc hq2.size _) hb1 (hq2.alloc hq2.size _).size | with_reducible exact below_app (hA0) hb1 (hA0).size | with_reducible exact below_app (hD) hb1 (hD).size); (first | with_reducible (replace rb := rb.grew hb1) | with_reducible (have rb := bA0.grew hb1) | with_reducible (have rb := (boxR_new v1 31 #[.slice none 0 0, .slice none 0 0, .int .i64 0, .int .i64 0]).grew hb1) | with_reducible (have rb := (boxR_new v2 31 #[.slice none 0 0, .slice none 0 0, .int .i64 0, .int .i64 0]).grew hb1) | skip)) | (go_at_call 23; refine (toPiece_any p1 _).mono ?_; rintro e v2 ⟨rfl, hb2⟩; have hq2 : Below u1.heap.size u1 v2 := (by first | with_reducible exact below_app (hq1) hb2 (hq1).size | with_reducible exact below_app (hq1.alloc hq1.size _) hb2 (hq1.alloc hq1.size _).size | with_reducible exact below_app (hA0) hb2 (hA0).size | with_reducible exact below_app (hD) hb2 (hD).size); (first | with_reducible (replace oy := oy.grew hb2) | with_reducible (replace oy := (oy.grew (below_new2'' _ _)).grew hb2) | skip); (first | with_reducible (replace rb := rb.grew hb2) | with_reducible (have rb := bA0.grew hb2) | with_reducible (have rb := (boxR_new v1 31 #[.slice none 0 0, .slice none 0 0, .int .i64 0, .int .i64 0]).grew hb2) | with_reducible (have rb := (boxR_new v2 31 #[.slice none 0 0, .slice none 0 0, .int .i64 0, .int .i64 0]).grew hb2) | skip)) | (go_at_call 22; refine (specSetPiece_al p1 (by first | with_reducible exact oy | with_reducible exact oy.grew (below_new2'' _ _)) ey fy k_p0 n_p0 n2_p0).mono ?_; rintro e v3 ⟨tw, rfl, hb3, ow, ew⟩; have hq3 : Below u1.heap.size u1 v3 := (by first | with_reducible exact below_app (hq2) hb3 (hq2).size | with_reducible exact below_app (hq1) hb3 (hq1).size | with_reducible exact below_app (hq2.alloc hq2.size _) hb3 (hq2.alloc hq2.size _).size | with_reducible exact below_app (hq1.alloc hq1.size _) hb3 (hq1.alloc hq1.size _).size); have owU : OwnT v3 u1.heap.size tw := ow.down (by first | with_reducible exact (hq2).size | with_reducible exact (hq1).size | with_reducible exact (hq2.alloc hq2.size _).size | with_reducible exact (hq1.alloc hq1.size _).size); (first | with_reducible (have hrw := away_old ow rb.lt) | with_reducible (have hrw := away_old ow (boxR_new v1 31 #[.slice none 0 0, .slice none 0 0, .int .i64 0, .int .i64 0]).lt) | with_reducible (have hrw := away_old ow (boxR_new v2 31 #[.slice none 0 0, .slice none 0 0, .int .i64 0, .int .i64 0]).lt) | skip); (first | with_reducible (replace rb := rb.grew hb3) | with_reducible (have rb := bA0.grew hb3) | with_reducible (have rb := (boxR_new v1 31 #[.slice none 0 0, .slice none 0 0, .int .i64 0, .int .i64 0]).grew hb3) | with_reducible (have rb := (boxR_new v2 31 #[.slice none 0 0, .slice none 0 0, .int .i64 0, .int .i64 0]).grew hb3) | skip); (try (have f0 := rb.froz 0; have f1 := rb.froz 1; have f2 := rb.froz 2; have f3 := rb.froz 3; have d0 := rb.cell 0; have d1 := rb.cell 1; have d2 := rb.cell 2; have d3 := rb.cell 3; simp at d0 d1 d2 d3))))
    all_goals first | exact ⟨(ty, tw, v3.heap.size), rfl, hq3.alloc hq3.size _, owU.grew (below_new2'' _ _), ew, boxR_new _ _ _, hq3.size, away_new ow (Nat.le_refl _)⟩ | exact ⟨(ty, tw, _), rfl, set4_below hq3 (by first | exact Nat.le_refl _ | exact hq1.size | exact hq2.size) _ _ _ _, (((owU.set1 hrw _ _).set1 hrw _ _).set1 hrw _ _).set1 hrw _ _, ew, (((rb.put 0 _).put 1 _).put 2 _).put 3 _, (by first | exact Nat.le_refl _ | exact hq1.size | exact hq2.size), hrw⟩
  rintro ⟨t__w, t_w, r_w⟩ u2 ⟨hb, o_w, e_w, b_w, l_w, d_w_w⟩
  simp only [puts, List.foldl, Act.put, List.setIfInBounds_toArray, List.set_cons_zero, List.set_cons_succ]
  dsimp only at o_w e_w b_w l_w d_w_w ⊢
  have d_p0_w := away_old o_w b_p0.lt
  have d_q1_w := away_old o_w b_q1.lt
  have f_w : W.heap.size ≤ u1.heap.size := hB.size
  replace b_p0 := b_p0.grew hb
  replace b_q1 := b_q1.grew hb
  replace hB := below_app hB hb hB.size
  clear hb
  have c_p0_0 := b_p0.cell 0
  have c_p0_1 := b_p0.cell 1
  have c_p0_2 := b_p0.cell 2
  have c_p0_3 := b_p0.cell 3
  simp at c_p0_0 c_p0_1 c_p0_2 c_p0_3
  go_wp2_with fail
  refine (toState_ansF p0 _ (stt_grew k_p0 hB) n_p0 n2_p0).mono ?_
  rintro e u3 ⟨t_x, rfl, hb, o_x, e_x, f__x⟩
  clear c_p0_0 c_p0_1 c_p0_2 c_p0_3
  have a_w_x := apart_old o_w o_x (Nat.le_refl _)
  have a_x_w := apart_new o_x o_w (Nat.le_refl _)
  have d_p0_x := away_old o_x b_p0.lt
  have d_q1_x := away_old o_x b_q1.lt
  have d_w_x := away_old o_x b_w.lt
  have f_x : W.heap.size ≤ u2.heap.size := hB.size
  replace o_w := o_w.grew hb
  replace b_p0 := b_p0.grew hb
  replace b_q1 := b_q1.grew hb
  replace b_w := b_w.grew hb
  replace hB := below_app hB hb hB.size
  clear hb
  have hb := (Below.refl _ u3).alloc (Nat.le_refl _) (.cells #[.slice t_x.pa t_x.pn t_x.pcap, .slice t_x.sa t_x.sn t_x.scap, .int .i64 t_x.ac, .int .i64 t_x.cl] 31)
  have b_x := boxR_new u3 31 #[.slice t_x.pa t_x.pn t_x.pcap, .slice t_x.sa t_x.sn t_x.scap, .int .i64 t_x.ac, .int .i64 t_x.cl]
  have d_x_w := away_new o_w (Nat.le_refl u3.heap.size)
  have d_x_x := away_new o_x (Nat.le_refl u3.heap.size)
  generalize hVx : u3.alloc (.cells #[.slice t_x.pa t_x.pn t_x.pcap, .slice t_x.sa t_x.sn t_x.scap, .int .i64 t_x.ac, .int .i64 t_x.cl] 31) = u4 at hb b_x
  replace o_w := o_w.grew hb
  replace o_x := o_x.grew hb
  replace b_p0 := b_p0.grew hb
  replace b_q1 := b_q1.grew hb
  replace b_w := b_w.grew hb
  replace hB := below_app hB hb hB.size
  clear hb
  go_wp2_with fail
  refine wp_cutT (fun x : Stt × Stt × Nat => [(25, (.agg #[.slice t_x.pa t_x.pn t_x.pcap, .slice t_x.sa t_x.sn t_x.scap, .int .i64 t_x.ac, .int .i64 t_x.cl])), (26, (.agg #[.int .i64 p1.id, .int .i64 p1.ow, .int .i64 p1.si, .int .i64 p1.zo, .int .i64 p1.st, .int .i64 p1.po, .int .i64 p1.to, .int .i64 p1.tr, .int .i64 p1.pl, .int .i64 p1.mi, .int .i64 p1.ma, .bool p1.de, .bool p1.be])), (27, (.agg #[.int .i64 p1.id, .int .i64 p1.ow, .int .i64 p1.si, .int .i64 p1.zo, .int .i64 p1.st, .int .i64 p1.po, .int .i64 p1.to, .int .i64 p1.tr, .int .i64 p1.pl, .int .i64 p1.mi, .int .i64 p1.ma, .bool p1.de, .bool p1.be])), (28, (.agg #[.slice x.2.1.pa x.2.1.pn x.2.1.pcap, .slice x.2.1.sa x.2.1.sn x.2.1.scap, .int .i64 x.2.1.ac, .int .i64 x.2.1.cl])), (8, .pointer (some ⟨x.2.2, 0, none⟩))]) (fun x u => Below u4.heap.size u4 u ∧ OwnT u u4.heap.size x.2.1 ∧ Alike x.2.1 (spS p0 p1) ∧ BoxR u x.2.2 31 #[.slice x.2.1.pa x.2.1.pn x.2.1.pcap, .slice x.2.1.sa x.2.1.sn x.2.1.scap, .int .i64 x.2.1.ac, .int .i64 x.2.1.cl] ∧ u4.heap.size ≤ x.2.2 ∧ Away x.2.2 x.2.1) ?_ ?_
  · have c_x_0 := b_x.cell 0
    have c_x_1 := b_x.cell 1
    have c_x_2 := b_x.cell 2
    have c_x_3 := b_x.cell 3
    have c_q1_0 := b_q1.cell 0
    have c_q1_1 := b_q1.cell 1
    have c_q1_2 := b_q1.cell 2
    have c_q1_3 := b_q1.cell 3
    have c_q1_4 := b_q1.cell 4
    have c_q1_5 := b_q1.cell 5
    have c_q1_6 := b_q1.cell 6
    have c_q1_7 := b_q1.cell 7
    have c_q1_8 := b_q1.cell 8
    have c_q1_9 := b_q1.cell 9
    have c_q1_10 := b_q1.cell 10
    have c_q1_11 := b_q1.cell 11
    have c_q1_12 := b_q1.cell 12
    simp at c_x_0 c_x_1 c_x_2 c_x_3 c_q1_0 c_q1_1 c_q1_2 c_q1_3 c_q1_4 c_q1_5 c_q1_6 c_q1_7 c_q1_8 c_q1_9 c_q1_10 c_q1_11 c_q1_12
    have SK : ∀ u : World, Below u4.heap.size u4 u → u.cell? ⟨u3.heap.size, 0, none⟩ = some (.slice t_x.pa t_x.pn t_x.pcap) ∧ u.cell? ⟨u3.heap.size, 1, none⟩ = some (.slice t_x.sa t_x.sn t_x.scap) ∧ u.cell? ⟨u3.heap.size, 2, none⟩ = some (.int .i64 t_x.ac) ∧ u.cell? ⟨u3.heap.size, 3, none⟩ = some (.int .i64 t_x.cl) ∧ u.cell? ⟨w.heap.size + 1, 0, none⟩ = some (.int .i64 p1.id) ∧ u.cell? ⟨w.heap.size + 1, 1, none⟩ = some (.int .i64 p1.ow) ∧ u.cell? ⟨w.heap.size + 1, 2, none⟩ = some (.int .i64 p1.si) ∧ u.cell? ⟨w.heap.size + 1, 3, none⟩ = some (.int .i64 p1.zo) ∧ u.cell? ⟨w.heap.size + 1, 4, none⟩ = some (.int .i64 p1.st) ∧ u.cell? ⟨w.heap.size + 1, 5, none⟩ = some (.int .i64 p1.po) ∧ u.cell? ⟨w.heap.size + 1, 6, none⟩ = some (.int .i64 p1.to) ∧ u.cell? ⟨w.heap.size + 1, 7, none⟩ = some (.int .i64 p1.tr) ∧ u.cell? ⟨w.heap.size + 1, 8, none⟩ = some (.int .i64 p1.pl) ∧ u.cell? ⟨w.heap.size + 1, 9, none⟩ = some (.int .i64 p1.mi) ∧ u.cell? ⟨w.heap.size + 1, 10, none⟩ = some (.int .i64 p1.ma) ∧ u.cell? ⟨w.heap.size + 1, 11, none⟩ = some (.bool p1.de) ∧ u.cell? ⟨w.heap.size + 1, 12, none⟩ = some (.bool p1.be) := fun u hu => ⟨(hu.cell (World.block_lt_of_cell? _ _ c_x_0)).trans c_x_0, (hu.cell (World.block_lt_of_cell? _ _ c_x_1)).trans c_x_1, (hu.cell (World.block_lt_of_cell? _ _ c_x_2)).trans c_x_2, (hu.cell (World.block_lt_of_cell? _ _ c_x_3)).trans c_x_3, (hu.cell (World.block_lt_of_cell? _ _ c_q1_0)).trans c_q1_0, (hu.cell (World.block_lt_of_cell? _ _ c_q1_1)).trans c_q1_1, (hu.cell (World.block_lt_of_cell? _ _ c_q1_2)).trans c_q1_2, (hu.cell (World.block_lt_of_cell? _ _ c_q1_3)).trans c_q1_3, (hu.cell (World.block_lt_of_cell? _ _ c_q1_4)).trans c_q1_4, (hu.cell (World.block_lt_of_cell? _ _ c_q1_5)).trans c_q1_5, (hu.cell (World.block_lt_of_cell? _ _ c_q1_6)).trans c_q1_6, (hu.cell (World.block_lt_of_cell? _ _ c_q1_7)).trans c_q1_7, (hu.cell (World.block_lt_of_cell? _ _ c_q1_8)).trans c_q1_8, (hu.cell (World.block_lt_of_cell? _ _ c_q1_9)).trans c_q1_9, (hu.cell (World.block_lt_of_cell? _ _ c_q1_10)).trans c_q1_10, (hu.cell (World.block_lt_of_cell? _ _ c_q1_11)).trans c_q1_11, (hu.cell (World.block_lt_of_cell? _ _ c_q1_12)).trans c_q1_12⟩
    have hD : Below u4.heap.size u4 u4.drew := (Below.refl _ u4).drew
    have okK : ∀ u : World, Below u4.heap.size u4 u → p0.ok u := fun u hu => stt_grew k_p0 (below_app hB hu hB.size)
    have oK : ∀ u : World, Below u4.heap.size u4 u → OwnT u u2.heap.size t_x := fun u hu => o_x.grew hu
    clear c_x_0 c_x_1 c_x_2 c_x_3 c_q1_0 c_q1_1 c_q1_2 c_q1_3 c_q1_4 c_q1_5 c_q1_6 c_q1_7 c_q1_8 c_q1_9 c_q1_10 c_q1_11 c_q1_12
    have hA0 : Below u4.heap.size u4 (u4.alloc (.cells #[.slice none 0 0, .slice none 0 0, .int .i64 0, .int .i64 0] 31)).drew := ((Below.refl _ u4).alloc (Nat.le_refl _) (.cells #[.slice none 0 0, .slice none 0 0, .int .i64 0, .int .i64 0] 31)).drew
    have bA0 : BoxR (u4.alloc (.cells #[.slice none 0 0, .slice none 0 0, .int .i64 0, .int .i64 0] 31)).drew u4.heap.size 31 #[.slice none 0 0, .slice none 0 0, .int .i64 0, .int .i64 0] := boxR_new u4 31 #[.slice none 0 0, .slice none 0 0, .int .i64 0, .int .i64 0]
    go_region_held (fun u : World => u.cell? ⟨u3.heap.size, 0, none⟩ = some (.slice t_x.pa t_x.pn t_x.pcap) ∧ u.cell? ⟨u3.heap.size, 1, none⟩ = some (.slice t_x.sa t_x.sn t_x.scap) ∧ u.cell? ⟨u3.heap.size, 2, none⟩ = some (.int .i64 t_x.ac) ∧ u.cell? ⟨u3.heap.size, 3, none⟩ = some (.int .i64 t_x.cl) ∧ u.cell? ⟨w.heap.size + 1, 0, none⟩ = some (.int .i64 p1.id) ∧ u.cell? ⟨w.heap.size + 1, 1, none⟩ = some (.int .i64 p1.ow) ∧ u.cell? ⟨w.heap.size + 1, 2, none⟩ = some (.int .i64 p1.si) ∧ u.cell? ⟨w.heap.size + 1, 3, none⟩ = some (.int .i64 p1.zo) ∧ u.cell? ⟨w.heap.size + 1, 4, none⟩ = some (.int .i64 p1.st) ∧ u.cell? ⟨w.heap.size + 1, 5, none⟩ = some (.int .i64 p1.po) ∧ u.cell? ⟨w.heap.size + 1, 6, none⟩ = some (.int .i64 p1.to) ∧ u.cell? ⟨w.heap.size + 1, 7, none⟩ = some (.int .i64 p1.tr) ∧ u.cell? ⟨w.heap.size + 1, 8, none⟩ = some (.int .i64 p1.pl) ∧ u.cell? ⟨w.heap.size + 1, 9, none⟩ = some (.int .i64 p1.mi) ∧ u.cell? ⟨w.heap.size + 1, 10, none⟩ = some (.int .i64 p1.ma) ∧ u.cell? ⟨w.heap.size + 1, 11, none⟩ = some (.bool p1.de) ∧ u.cell? ⟨w.heap.size + 1, 12, none⟩ = some (.bool p1.be)) (first | (refine SK _ ?_; first | with_reducible exact hD | with_reducible exact hA0 | with_reducible exact hq1 | with_reducible exact hq1.alloc hq1.size _ | with_reducible exact hq2 | with_reducible exact hq2.alloc hq2.size _ | with_reducible exact hq3 | with_reducible exact hq3.alloc hq3.size _ | with_reducible exact set4_below hq3 (by first | exact Nat.le_refl _ | exact hq1.size | exact hq2.size) _ _ _ _)) (first | (go_at_call 23; refine (toPiece_any p1 _).mono ?_; rintro e v2 ⟨rfl, hb2⟩; have hq2 : Below u4.heap.size u4 v2 := (by first | with_reducible exact below_app (hq1) hb2 (hq1).size | with_reducible exact below_app (hq1.alloc hq1.size _) hb2 (hq1.alloc hq1.size _).size | with_reducible exact below_app (hA0) hb2 (hA0).size | with_reducible exact below_app (hD) hb2 (hD).size); (first | with_reducible (replace oy := oy.grew hb2) | with_reducible (replace oy := (oy.grew (below_new2'' _ _)).grew hb2) | skip); (first | with_reducible (replace rb := rb.grew hb2) | with_reducible (have rb := bA0.grew hb2) | with_reducible (have rb := (boxR_new v1 31 #[.slice none 0 0, .slice none 0 0, .int .i64 0, .int .i64 0]).grew hb2) | with_reducible (have rb := (boxR_new v2 31 #[.slice none 0 0, .slice none 0 0, .int .i64 0, .int .i64 0]).grew hb2) | skip)) | (go_at_call 24; refine (implSetPiece_al p1 (oK _ (by first | with_reducible exact hq2 | with_reducible exact hq2.alloc hq2.size _)) e_x f__x k_p0 n_p0 n2_p0).mono ?_; rintro e v3 ⟨tw, rfl, hb3, ow, ew⟩; have hq3 : Below u4.heap.size u4 v3 := (by first | with_reducible exact below_app (hq2) hb3 (hq2).size | with_reducible exact below_app (hq1) hb3 (hq1).size | with_reducible exact below_app (hq2.alloc hq2.size _) hb3 (hq2.alloc hq2.size _).size | with_reducible exact below_app (hq1.alloc hq1.size _) hb3 (hq1.alloc hq1.size _).size); have owU : OwnT v3 u4.heap.size tw := ow.down (by first | with_reducible exact (hq2).size | with_reducible exact (hq1).size | with_reducible exact (hq2.alloc hq2.size _).size | with_reducible exact (hq1.alloc hq1.size _).size); (first | with_reducible (have hrw := away_old ow rb.lt) | with_reducible (have hrw := away_old ow (boxR_new v1 31 #[.slice none 0 0, .slice none 0 0, .int .i64 0, .int .i64 0]).lt) | with_reducible (have hrw := away_old ow (boxR_new v2 31 #[.slice none 0 0, .slice none 0 0, .int .i64 0, .int .i64 0]).lt) | skip); (first | with_reducible (replace rb := rb.grew hb3) | with_reducible (have rb := bA0.grew hb3) | with_reducible (have rb := (boxR_new v1 31 #[.slice none 0 0, .slice none 0 0, .int .i64 0, .int .i64 0]).grew hb3) | with_reducible (have rb := (boxR_new v2 31 #[.slice none 0 0, .slice none 0 0, .int .i64 0, .int .i64 0]).grew hb3) | skip); (try (have f0 := rb.froz 0; have f1 := rb.froz 1; have f2 := rb.froz 2; have f3 := rb.froz 3; have d0 := rb.cell 0; have d1 := rb.cell 1; have d2 := rb.cell 2; have d3 := rb.cell 3; simp at d0 d1 d2 d3))))
    all_goals first | exact ⟨(t_x, tw, v3.heap.size), rfl, hq3.alloc hq3.size _, owU.grew (below_new2'' _ _), ew, boxR_new _ _ _, hq3.size, away_new ow (Nat.le_refl _)⟩ | exact ⟨(t_x, tw, _), rfl, set4_below hq3 (by first | exact Nat.le_refl _ | exact hq1.size | exact hq2.size) _ _ _ _, (((owU.set1 hrw _ _).set1 hrw _ _).set1 hrw _ _).set1 hrw _ _, ew, (((rb.put 0 _).put 1 _).put 2 _).put 3 _, (by first | exact Nat.le_refl _ | exact hq1.size | exact hq2.size), hrw⟩
  rintro ⟨t__g, t_g, r_g⟩ u5 ⟨hb, o_g, e_g, b_g, l_g, d_g_g⟩
  simp only [puts, List.foldl, Act.put, List.setIfInBounds_toArray, List.set_cons_zero, List.set_cons_succ]
  dsimp only at o_g e_g b_g l_g d_g_g ⊢
  have d_g_w := away_new o_w l_g
  have d_g_x := away_new o_x l_g
  have a_w_g := apart_old o_w o_g (Nat.le_refl _)
  have a_g_w := apart_new o_g o_w (Nat.le_refl _)
  have a_x_g := apart_old o_x o_g (Nat.le_refl _)
  have a_g_x := apart_new o_g o_x (Nat.le_refl _)
  have d_p0_g := away_old o_g b_p0.lt
  have d_q1_g := away_old o_g b_q1.lt
  have d_w_g := away_old o_g b_w.lt
  have d_x_g := away_old o_g b_x.lt
  have f_g : W.heap.size ≤ u4.heap.size := hB.size
  replace o_w := o_w.grew hb
  replace o_x := o_x.grew hb
  replace b_p0 := b_p0.grew hb
  replace b_q1 := b_q1.grew hb
  replace b_w := b_w.grew hb
  replace b_x := b_x.grew hb
  replace hB := below_app hB hb hB.size
  clear hb
  have c_g_0 := b_g.cell 0
  have c_g_1 := b_g.cell 1
  have c_g_2 := b_g.cell 2
  have c_g_3 := b_g.cell 3
  have c_w_0 := b_w.cell 0
  have c_w_1 := b_w.cell 1
  have c_w_2 := b_w.cell 2
  have c_w_3 := b_w.cell 3
  simp at c_g_0 c_g_1 c_g_2 c_g_3 c_w_0 c_w_1 c_w_2 c_w_3
  go_wp2_with fail
  refine (eqState_alike t_g t_w (spS p0 p1) _ o_g o_w e_g e_w (by show spN p0 p1 ≤ 1048577; omega) (by show p0.sn ≤ 1048577; omega)).mono ?_
  rintro e u6 ⟨rfl, hb⟩
  clear c_g_0 c_g_1 c_g_2 c_g_3 c_w_0 c_w_1 c_w_2 c_w_3
  replace o_w := o_w.grew hb
  replace o_x := o_x.grew hb
  replace o_g := o_g.grew hb
  replace b_p0 := b_p0.grew hb
  replace b_q1 := b_q1.grew hb
  replace b_w := b_w.grew hb
  replace b_x := b_x.grew hb
  replace b_g := b_g.grew hb
  replace hB := below_app hB hb hB.size
  clear hb
  go_wp2_with fail
  refine wp_cutT (fun t : Stt => [(33, (.agg #[.slice t_x.pa t_x.pn t_x.pcap, .slice t_x.sa t_x.sn t_x.scap, .int .i64 t_x.ac, .int .i64 t_x.cl])), (34, (.agg #[.slice p0.pa p0.pn p0.pcap, .slice p0.sa p0.sn p0.scap, .int .i64 p0.ac, .int .i64 p0.cl])), (35, (.agg #[.slice t.pa t.pn t.pcap, .slice t.sa t.sn t.scap, .int .i64 t.ac, .int .i64 t.cl])), (36, .bool true), (37, .bool false)]) (fun _ u => Below u6.heap.size u6 u) ?_ ?_
  · have tb : Calls Try.prog 11 #[(.agg #[.slice p0.pa p0.pn p0.pcap, .slice p0.sa p0.sn p0.scap, .int .i64 p0.ac, .int .i64 p0.cl])] u6.drew fun e v => ∃ t : Stt, e = .returned (.agg #[.slice t.pa t.pn t.pcap, .slice t.sa t.sn t.scap, .int .i64 t.ac, .int .i64 t.cl]) ∧ Below u6.heap.size u6 v ∧ OwnT v u6.heap.size t ∧ Alike t p0 ∧ OwnT v u2.heap.size t_x ∧ v.cell? ⟨u3.heap.size, 0, none⟩ = some (.slice t_x.pa t_x.pn t_x.pcap) ∧ v.cell? ⟨u3.heap.size, 1, none⟩ = some (.slice t_x.sa t_x.sn t_x.scap) ∧ v.cell? ⟨u3.heap.size, 2, none⟩ = some (.int .i64 t_x.ac) ∧ v.cell? ⟨u3.heap.size, 3, none⟩ = some (.int .i64 t_x.cl) := (toState_ans p0 u6.drew (show p0.ok u6.drew from stt_grew k_p0 hB.drew) n_p0 n2_p0).mono (by rintro e v ⟨t, h1, h2, h3, h4⟩; have h5 : Below u6.heap.size u6 v := ((Below.refl _ u6).drew).trans h2; have b := b_x.grew h5; exact ⟨t, h1, h5, h3, h4, o_x.grew h5, b.cell 0, b.cell 1, b.cell 2, b.cell 3⟩)
    have c_x_0 := b_x.cell 0
    have c_x_1 := b_x.cell 1
    have c_x_2 := b_x.cell 2
    have c_x_3 := b_x.cell 3
    have c_p0_0 := b_p0.cell 0
    have c_p0_1 := b_p0.cell 1
    have c_p0_2 := b_p0.cell 2
    have c_p0_3 := b_p0.cell 3
    simp at c_x_0 c_x_1 c_x_2 c_x_3 c_p0_0 c_p0_1 c_p0_2 c_p0_3
    go_region_with_o (first | (go_at_call 11; refine tb.mono ?_; rintro e v1 ⟨t1, rfl, hb1, ot, et, ox, r0, r1, r2, r3⟩) | (go_at_call 13; refine (eqState_alike t_x t1 p0 _ ox ot e_x et (by omega) (by omega)).mono ?_; rintro e v2 ⟨rfl, hb2⟩))
    all_goals exact ⟨t1, rfl, below_app hb1 hb2 hb1.size⟩
  rintro t_ u7 hb
  simp only [puts, List.foldl, Act.put, List.setIfInBounds_toArray, List.set_cons_zero, List.set_cons_succ]
  replace o_w := o_w.grew hb
  replace o_x := o_x.grew hb
  replace o_g := o_g.grew hb
  replace b_p0 := b_p0.grew hb
  replace b_q1 := b_q1.grew hb
  replace b_w := b_w.grew hb
  replace b_x := b_x.grew hb
  replace b_g := b_g.grew hb
  replace hB := below_app hB hb hB.size
  clear hb
  have c_x_0 := b_x.cell 0
  have c_x_1 := b_x.cell 1
  have c_x_2 := b_x.cell 2
  have c_x_3 := b_x.cell 3
  simp at c_x_0 c_x_1 c_x_2 c_x_3
  go_wp2_with fail
  refine (markState_any t_x 1 _ (by omega) (by omega) (by rw [e_x.pn]; exact (by omega)) (by rw [e_x.sn]; exact (by omega)) o_x).mono ?_
  rintro e u8 ⟨rfl, ho, om_⟩
  clear c_x_0 c_x_1 c_x_2 c_x_3
  have y_x : 0 ≤ 1 + 13 * (t_x.pn : Int) + 3 * (t_x.sn : Int) := by omega
  replace o_w := o_w.marked ho a_w_x
  replace o_g := o_g.marked ho a_g_x
  replace b_p0 := b_p0.marked ho d_p0_x
  replace b_q1 := b_q1.marked ho d_q1_x
  replace b_w := b_w.marked ho d_w_x
  replace b_x := b_x.marked ho d_x_x
  replace b_g := b_g.marked ho d_g_x
  replace hB := below_marked hB o_x ho f_x hB.size
  clear ho o_x
  clear om_
  clear b_x
  have c_g_0 := b_g.cell 0
  have c_g_1 := b_g.cell 1
  have c_g_2 := b_g.cell 2
  have c_g_3 := b_g.cell 3
  have c_w_0 := b_w.cell 0
  have c_w_1 := b_w.cell 1
  have c_w_2 := b_w.cell 2
  have c_w_3 := b_w.cell 3
  simp at c_g_0 c_g_1 c_g_2 c_g_3 c_w_0 c_w_1 c_w_2 c_w_3
  go_wp2_with fail
  refine (eqState_alike t_g t_w (spS p0 p1) _ o_g o_w e_g e_w (by show spN p0 p1 ≤ 1048577; omega) (by show p0.sn ≤ 1048577; omega)).mono ?_
  rintro e u9 ⟨rfl, hb⟩
  clear c_g_0 c_g_1 c_g_2 c_g_3 c_w_0 c_w_1 c_w_2 c_w_3
  replace o_w := o_w.grew hb
  replace o_g := o_g.grew hb
  replace b_p0 := b_p0.grew hb
  replace b_q1 := b_q1.grew hb
  replace b_w := b_w.grew hb
  replace b_g := b_g.grew hb
  replace hB := below_app hB hb hB.size
  clear hb
  have c_g_0 := b_g.cell 0
  have c_g_1 := b_g.cell 1
  have c_g_2 := b_g.cell 2
  have c_g_3 := b_g.cell 3
  simp at c_g_0 c_g_1 c_g_2 c_g_3
  go_wp2_with fail
  refine (markState_any t_g 1 _ (by omega) (by omega) (by rw [e_g.pn]; exact (by show spN p0 p1 ≤ 1048577; omega)) (by rw [e_g.sn]; exact (by show p0.sn ≤ 1048577; omega)) o_g).mono ?_
  rintro e u10 ⟨rfl, ho, om_⟩
  clear c_g_0 c_g_1 c_g_2 c_g_3
  have y_g : 0 ≤ 1 + 13 * (t_g.pn : Int) + 3 * (t_g.sn : Int) := by omega
  replace o_w := o_w.marked ho a_w_g
  replace b_p0 := b_p0.marked ho d_p0_g
  replace b_q1 := b_q1.marked ho d_q1_g
  replace b_w := b_w.marked ho d_w_g
  replace b_g := b_g.marked ho d_g_g
  replace hB := below_marked hB o_g ho f_g hB.size
  clear ho o_g
  have o_g := om_
  clear om_
  have c_g_0 := b_g.cell 0
  have c_g_1 := b_g.cell 1
  have c_g_2 := b_g.cell 2
  have c_g_3 := b_g.cell 3
  simp at c_g_0 c_g_1 c_g_2 c_g_3
  go_wp2_with fail
  refine (heldState_any t_g 1 _ (by omega) (by omega) (by rw [e_g.pn]; exact (by show spN p0 p1 ≤ 1048577; omega)) (by rw [e_g.sn]; exact (by show p0.sn ≤ 1048577; omega)) o_g).mono ?_
  rintro e u11 ⟨rfl, hb⟩
  clear c_g_0 c_g_1 c_g_2 c_g_3
  replace o_w := o_w.grew hb
  replace o_g := o_g.grew hb
  replace b_p0 := b_p0.grew hb
  replace b_q1 := b_q1.grew hb
  replace b_w := b_w.grew hb
  replace b_g := b_g.grew hb
  replace hB := below_app hB hb hB.size
  clear hb
  go_wp2_with fail
  refine wp_cutT (fun x : Stt × Stt × Nat => [(60, (.agg #[.slice p0.pa p0.pn p0.pcap, .slice p0.sa p0.sn p0.scap, .int .i64 p0.ac, .int .i64 p0.cl])), (61, (.agg #[.slice x.1.pa x.1.pn x.1.pcap, .slice x.1.sa x.1.sn x.1.scap, .int .i64 x.1.ac, .int .i64 x.1.cl])), (62, (.agg #[.int .i64 p1.id, .int .i64 p1.ow, .int .i64 p1.si, .int .i64 p1.zo, .int .i64 p1.st, .int .i64 p1.po, .int .i64 p1.to, .int .i64 p1.tr, .int .i64 p1.pl, .int .i64 p1.mi, .int .i64 p1.ma, .bool p1.de, .bool p1.be])), (63, (.agg #[.int .i64 p1.id, .int .i64 p1.ow, .int .i64 p1.si, .int .i64 p1.zo, .int .i64 p1.st, .int .i64 p1.po, .int .i64 p1.to, .int .i64 p1.tr, .int .i64 p1.pl, .int .i64 p1.mi, .int .i64 p1.ma, .bool p1.de, .bool p1.be])), (64, (.agg #[.slice x.2.1.pa x.2.1.pn x.2.1.pcap, .slice x.2.1.sa x.2.1.sn x.2.1.scap, .int .i64 x.2.1.ac, .int .i64 x.2.1.cl])), (12, .pointer (some ⟨x.2.2, 0, none⟩))]) (fun x u => Below u11.heap.size u11 u ∧ OwnT u u11.heap.size x.2.1 ∧ Alike x.2.1 (spS p0 p1) ∧ BoxR u x.2.2 31 #[.slice x.2.1.pa x.2.1.pn x.2.1.pcap, .slice x.2.1.sa x.2.1.sn x.2.1.scap, .int .i64 x.2.1.ac, .int .i64 x.2.1.cl] ∧ u11.heap.size ≤ x.2.2 ∧ Away x.2.2 x.2.1) ?_ ?_
  · have c_p0_0 := b_p0.cell 0
    have c_p0_1 := b_p0.cell 1
    have c_p0_2 := b_p0.cell 2
    have c_p0_3 := b_p0.cell 3
    have c_q1_0 := b_q1.cell 0
    have c_q1_1 := b_q1.cell 1
    have c_q1_2 := b_q1.cell 2
    have c_q1_3 := b_q1.cell 3
    have c_q1_4 := b_q1.cell 4
    have c_q1_5 := b_q1.cell 5
    have c_q1_6 := b_q1.cell 6
    have c_q1_7 := b_q1.cell 7
    have c_q1_8 := b_q1.cell 8
    have c_q1_9 := b_q1.cell 9
    have c_q1_10 := b_q1.cell 10
    have c_q1_11 := b_q1.cell 11
    have c_q1_12 := b_q1.cell 12
    simp at c_p0_0 c_p0_1 c_p0_2 c_p0_3 c_q1_0 c_q1_1 c_q1_2 c_q1_3 c_q1_4 c_q1_5 c_q1_6 c_q1_7 c_q1_8 c_q1_9 c_q1_10 c_q1_11 c_q1_12
    have SK : ∀ u : World, Below u11.heap.size u11 u → u.cell? ⟨w.heap.size, 0, none⟩ = some (.slice p0.pa p0.pn p0.pcap) ∧ u.cell? ⟨w.heap.size, 1, none⟩ = some (.slice p0.sa p0.sn p0.scap) ∧ u.cell? ⟨w.heap.size, 2, none⟩ = some (.int .i64 p0.ac) ∧ u.cell? ⟨w.heap.size, 3, none⟩ = some (.int .i64 p0.cl) ∧ u.cell? ⟨w.heap.size + 1, 0, none⟩ = some (.int .i64 p1.id) ∧ u.cell? ⟨w.heap.size + 1, 1, none⟩ = some (.int .i64 p1.ow) ∧ u.cell? ⟨w.heap.size + 1, 2, none⟩ = some (.int .i64 p1.si) ∧ u.cell? ⟨w.heap.size + 1, 3, none⟩ = some (.int .i64 p1.zo) ∧ u.cell? ⟨w.heap.size + 1, 4, none⟩ = some (.int .i64 p1.st) ∧ u.cell? ⟨w.heap.size + 1, 5, none⟩ = some (.int .i64 p1.po) ∧ u.cell? ⟨w.heap.size + 1, 6, none⟩ = some (.int .i64 p1.to) ∧ u.cell? ⟨w.heap.size + 1, 7, none⟩ = some (.int .i64 p1.tr) ∧ u.cell? ⟨w.heap.size + 1, 8, none⟩ = some (.int .i64 p1.pl) ∧ u.cell? ⟨w.heap.size + 1, 9, none⟩ = some (.int .i64 p1.mi) ∧ u.cell? ⟨w.heap.size + 1, 10, none⟩ = some (.int .i64 p1.ma) ∧ u.cell? ⟨w.heap.size + 1, 11, none⟩ = some (.bool p1.de) ∧ u.cell? ⟨w.heap.size + 1, 12, none⟩ = some (.bool p1.be) := fun u hu => ⟨(hu.cell (World.block_lt_of_cell? _ _ c_p0_0)).trans c_p0_0, (hu.cell (World.block_lt_of_cell? _ _ c_p0_1)).trans c_p0_1, (hu.cell (World.block_lt_of_cell? _ _ c_p0_2)).trans c_p0_2, (hu.cell (World.block_lt_of_cell? _ _ c_p0_3)).trans c_p0_3, (hu.cell (World.block_lt_of_cell? _ _ c_q1_0)).trans c_q1_0, (hu.cell (World.block_lt_of_cell? _ _ c_q1_1)).trans c_q1_1, (hu.cell (World.block_lt_of_cell? _ _ c_q1_2)).trans c_q1_2, (hu.cell (World.block_lt_of_cell? _ _ c_q1_3)).trans c_q1_3, (hu.cell (World.block_lt_of_cell? _ _ c_q1_4)).trans c_q1_4, (hu.cell (World.block_lt_of_cell? _ _ c_q1_5)).trans c_q1_5, (hu.cell (World.block_lt_of_cell? _ _ c_q1_6)).trans c_q1_6, (hu.cell (World.block_lt_of_cell? _ _ c_q1_7)).trans c_q1_7, (hu.cell (World.block_lt_of_cell? _ _ c_q1_8)).trans c_q1_8, (hu.cell (World.block_lt_of_cell? _ _ c_q1_9)).trans c_q1_9, (hu.cell (World.block_lt_of_cell? _ _ c_q1_10)).trans c_q1_10, (hu.cell (World.block_lt_of_cell? _ _ c_q1_11)).trans c_q1_11, (hu.cell (World.block_lt_of_cell? _ _ c_q1_12)).trans c_q1_12⟩
    have hD : Below u11.heap.size u11 u11.drew := (Below.refl _ u11).drew
    have okK : ∀ u : World, Below u11.heap.size u11 u → p0.ok u := fun u hu => stt_grew k_p0 (below_app hB hu hB.size)
    clear c_p0_0 c_p0_1 c_p0_2 c_p0_3 c_q1_0 c_q1_1 c_q1_2 c_q1_3 c_q1_4 c_q1_5 c_q1_6 c_q1_7 c_q1_8 c_q1_9 c_q1_10 c_q1_11 c_q1_12
    have hA0 : Below u11.heap.size u11 (u11.alloc (.cells #[.slice none 0 0, .slice none 0 0, .int .i64 0, .int .i64 0] 31)).drew := ((Below.refl _ u11).alloc (Nat.le_refl _) (.cells #[.slice none 0 0, .slice none 0 0, .int .i64 0, .int .i64 0] 31)).drew
    have bA0 : BoxR (u11.alloc (.cells #[.slice none 0 0, .slice none 0 0, .int .i64 0, .int .i64 0] 31)).drew u11.heap.size 31 #[.slice none 0 0, .slice none 0 0, .int .i64 0, .int .i64 0] := boxR_new u11 31 #[.slice none 0 0, .slice none 0 0, .int .i64 0, .int .i64 0]
    go_region_held (fun u : World => u.cell? ⟨w.heap.size, 0, none⟩ = some (.slice p0.pa p0.pn p0.pcap) ∧ u.cell? ⟨w.heap.size, 1, none⟩ = some (.slice p0.sa p0.sn p0.scap) ∧ u.cell? ⟨w.heap.size, 2, none⟩ = some (.int .i64 p0.ac) ∧ u.cell? ⟨w.heap.size, 3, none⟩ = some (.int .i64 p0.cl) ∧ u.cell? ⟨w.heap.size + 1, 0, none⟩ = some (.int .i64 p1.id) ∧ u.cell? ⟨w.heap.size + 1, 1, none⟩ = some (.int .i64 p1.ow) ∧ u.cell? ⟨w.heap.size + 1, 2, none⟩ = some (.int .i64 p1.si) ∧ u.cell? ⟨w.heap.size + 1, 3, none⟩ = some (.int .i64 p1.zo) ∧ u.cell? ⟨w.heap.size + 1, 4, none⟩ = some (.int .i64 p1.st) ∧ u.cell? ⟨w.heap.size + 1, 5, none⟩ = some (.int .i64 p1.po) ∧ u.cell? ⟨w.heap.size + 1, 6, none⟩ = some (.int .i64 p1.to) ∧ u.cell? ⟨w.heap.size + 1, 7, none⟩ = some (.int .i64 p1.tr) ∧ u.cell? ⟨w.heap.size + 1, 8, none⟩ = some (.int .i64 p1.pl) ∧ u.cell? ⟨w.heap.size + 1, 9, none⟩ = some (.int .i64 p1.mi) ∧ u.cell? ⟨w.heap.size + 1, 10, none⟩ = some (.int .i64 p1.ma) ∧ u.cell? ⟨w.heap.size + 1, 11, none⟩ = some (.bool p1.de) ∧ u.cell? ⟨w.heap.size + 1, 12, none⟩ = some (.bool p1.be)) (first | (refine SK _ ?_; first | with_reducible exact hD | with_reducible exact hA0 | with_reducible exact hq1 | with_reducible exact hq1.alloc hq1.size _ | with_reducible exact hq2 | with_reducible exact hq2.alloc hq2.size _ | with_reducible exact hq3 | with_reducible exact hq3.alloc hq3.size _ | with_reducible exact set4_below hq3 (by first | exact Nat.le_refl _ | exact hq1.size | exact hq2.size) _ _ _ _)) (first | (go_at_call 11; refine (toState_ansF p0 _ (okK _ (by first | with_reducible exact hq2 | with_reducible exact hq2.alloc hq2.size _ | with_reducible exact hA0 | with_reducible exact hD)) n_p0 n2_p0).mono ?_; rintro e v1 ⟨ty, rfl, hb1, oy, ey, fy⟩; have hq1 : Below u11.heap.size u11 v1 := (by first | with_reducible exact below_app (hq2) hb1 (hq2).size | with_reducible exact below_app (hq2.alloc hq2.size _) hb1 (hq2.alloc hq2.size _).size | with_reducible exact below_app (hA0) hb1 (hA0).size | with_reducible exact below_app (hD) hb1 (hD).size); (first | with_reducible (replace rb := rb.grew hb1) | with_reducible (have rb := bA0.grew hb1) | with_reducible (have rb := (boxR_new v1 31 #[.slice none 0 0, .slice none 0 0, .int .i64 0, .int .i64 0]).grew hb1) | with_reducible (have rb := (boxR_new v2 31 #[.slice none 0 0, .slice none 0 0, .int .i64 0, .int .i64 0]).grew hb1) | skip)) | (go_at_call 23; refine (toPiece_any p1 _).mono ?_; rintro e v2 ⟨rfl, hb2⟩; have hq2 : Below u11.heap.size u11 v2 := (by first | with_reducible exact below_app (hq1) hb2 (hq1).size | with_reducible exact below_app (hq1.alloc hq1.size _) hb2 (hq1.alloc hq1.size _).size | with_reducible exact below_app (hA0) hb2 (hA0).size | with_reducible exact below_app (hD) hb2 (hD).size); (first | with_reducible (replace oy := oy.grew hb2) | with_reducible (replace oy := (oy.grew (below_new2'' _ _)).grew hb2) | skip); (first | with_reducible (replace rb := rb.grew hb2) | with_reducible (have rb := bA0.grew hb2) | with_reducible (have rb := (boxR_new v1 31 #[.slice none 0 0, .slice none 0 0, .int .i64 0, .int .i64 0]).grew hb2) | with_reducible (have rb := (boxR_new v2 31 #[.slice none 0 0, .slice none 0 0, .int .i64 0, .int .i64 0]).grew hb2) | skip)) | (go_at_call 24; refine (implSetPiece_al p1 (by first | with_reducible exact oy | with_reducible exact oy.grew (below_new2'' _ _)) ey fy k_p0 n_p0 n2_p0).mono ?_; rintro e v3 ⟨tw, rfl, hb3, ow, ew⟩; have hq3 : Below u11.heap.size u11 v3 := (by first | with_reducible exact below_app (hq2) hb3 (hq2).size | with_reducible exact below_app (hq1) hb3 (hq1).size | with_reducible exact below_app (hq2.alloc hq2.size _) hb3 (hq2.alloc hq2.size _).size | with_reducible exact below_app (hq1.alloc hq1.size _) hb3 (hq1.alloc hq1.size _).size); have owU : OwnT v3 u11.heap.size tw := ow.down (by first | with_reducible exact (hq2).size | with_reducible exact (hq1).size | with_reducible exact (hq2.alloc hq2.size _).size | with_reducible exact (hq1.alloc hq1.size _).size); (first | with_reducible (have hrw := away_old ow rb.lt) | with_reducible (have hrw := away_old ow (boxR_new v1 31 #[.slice none 0 0, .slice none 0 0, .int .i64 0, .int .i64 0]).lt) | with_reducible (have hrw := away_old ow (boxR_new v2 31 #[.slice none 0 0, .slice none 0 0, .int .i64 0, .int .i64 0]).lt) | skip); (first | with_reducible (replace rb := rb.grew hb3) | with_reducible (have rb := bA0.grew hb3) | with_reducible (have rb := (boxR_new v1 31 #[.slice none 0 0, .slice none 0 0, .int .i64 0, .int .i64 0]).grew hb3) | with_reducible (have rb := (boxR_new v2 31 #[.slice none 0 0, .slice none 0 0, .int .i64 0, .int .i64 0]).grew hb3) | skip); (try (have f0 := rb.froz 0; have f1 := rb.froz 1; have f2 := rb.froz 2; have f3 := rb.froz 3; have d0 := rb.cell 0; have d1 := rb.cell 1; have d2 := rb.cell 2; have d3 := rb.cell 3; simp at d0 d1 d2 d3))))
    all_goals first | exact ⟨(ty, tw, v3.heap.size), rfl, hq3.alloc hq3.size _, owU.grew (below_new2'' _ _), ew, boxR_new _ _ _, hq3.size, away_new ow (Nat.le_refl _)⟩ | exact ⟨(ty, tw, _), rfl, set4_below hq3 (by first | exact Nat.le_refl _ | exact hq1.size | exact hq2.size) _ _ _ _, (((owU.set1 hrw _ _).set1 hrw _ _).set1 hrw _ _).set1 hrw _ _, ew, (((rb.put 0 _).put 1 _).put 2 _).put 3 _, (by first | exact Nat.le_refl _ | exact hq1.size | exact hq2.size), hrw⟩
  rintro ⟨t__h, t_h, r_h⟩ u12 ⟨hb, o_h, e_h, b_h, l_h, d_h_h⟩
  simp only [puts, List.foldl, Act.put, List.setIfInBounds_toArray, List.set_cons_zero, List.set_cons_succ]
  dsimp only at o_h e_h b_h l_h d_h_h ⊢
  have d_h_w := away_new o_w l_h
  have d_h_g := away_new o_g l_h
  have a_w_h := apart_old o_w o_h (Nat.le_refl _)
  have a_h_w := apart_new o_h o_w (Nat.le_refl _)
  have a_g_h := apart_old o_g o_h (Nat.le_refl _)
  have a_h_g := apart_new o_h o_g (Nat.le_refl _)
  have d_p0_h := away_old o_h b_p0.lt
  have d_q1_h := away_old o_h b_q1.lt
  have d_w_h := away_old o_h b_w.lt
  have d_g_h := away_old o_h b_g.lt
  have f_h : W.heap.size ≤ u11.heap.size := hB.size
  replace o_w := o_w.grew hb
  replace o_g := o_g.grew hb
  replace b_p0 := b_p0.grew hb
  replace b_q1 := b_q1.grew hb
  replace b_w := b_w.grew hb
  replace b_g := b_g.grew hb
  replace hB := below_app hB hb hB.size
  clear hb
  have c_h_0 := b_h.cell 0
  have c_h_1 := b_h.cell 1
  have c_h_2 := b_h.cell 2
  have c_h_3 := b_h.cell 3
  have c_w_0 := b_w.cell 0
  have c_w_1 := b_w.cell 1
  have c_w_2 := b_w.cell 2
  have c_w_3 := b_w.cell 3
  simp at c_h_0 c_h_1 c_h_2 c_h_3 c_w_0 c_w_1 c_w_2 c_w_3
  go_wp2_with fail
  refine (eqState_alike t_h t_w (spS p0 p1) _ o_h o_w e_h e_w (by show spN p0 p1 ≤ 1048577; omega) (by show p0.sn ≤ 1048577; omega)).mono ?_
  rintro e u13 ⟨rfl, hb⟩
  clear c_h_0 c_h_1 c_h_2 c_h_3 c_w_0 c_w_1 c_w_2 c_w_3
  replace o_w := o_w.grew hb
  replace o_g := o_g.grew hb
  replace o_h := o_h.grew hb
  replace b_p0 := b_p0.grew hb
  replace b_q1 := b_q1.grew hb
  replace b_w := b_w.grew hb
  replace b_g := b_g.grew hb
  replace b_h := b_h.grew hb
  replace hB := below_app hB hb hB.size
  clear hb
  clear o_h
  clear o_w
  have c_g_0 := b_g.cell 0
  have c_g_1 := b_g.cell 1
  have c_g_2 := b_g.cell 2
  have c_g_3 := b_g.cell 3
  simp at c_g_0 c_g_1 c_g_2 c_g_3
  go_wp2_with fail
  refine (heldState_any t_g 1 _ (by omega) (by omega) (by rw [e_g.pn]; exact (by show spN p0 p1 ≤ 1048577; omega)) (by rw [e_g.sn]; exact (by show p0.sn ≤ 1048577; omega)) o_g).mono ?_
  rintro e u14 ⟨rfl, hb⟩
  clear c_g_0 c_g_1 c_g_2 c_g_3
  replace o_g := o_g.grew hb
  replace b_p0 := b_p0.grew hb
  replace b_q1 := b_q1.grew hb
  replace b_w := b_w.grew hb
  replace b_g := b_g.grew hb
  replace b_h := b_h.grew hb
  replace hB := below_app hB hb hB.size
  clear hb
  go_wp2
  go_ret
  exact ⟨rfl, below_app hBw hB hsz⟩

set_option maxRecDepth 100000 in
theorem lifted (os : Os) (started : os.Started) (H : Type) (enc : TypeId × Value → H) :
    ReturnsInHanded {} Try.checked os 7 .any (Rows.fnExactSetPieceSpec.pre6 enc Try.prog Try.f7 Rows.fnExactSetPieceRow.domain false) (Rows.fnExactSetPieceSpec.post enc Try.prog Try.f7 false true false false) := by
  refine returnsInHanded_of_change (C := Try.checked) own started (by kernel_rfl) Try.func7
    (ChangeSpec.witness6 (enc := enc) (C := Try.checked) false ⟨#[], #[.agg #[.slice none 0 0, .slice none 0 0, .int .i64 0, .int .i64 0], .agg #[.int .i64 0, .int .i64 0, .int .i64 0, .int .i64 0, .int .i64 0, .int .i64 0, .int .i64 0, .int .i64 0, .int .i64 0, .int .i64 0, .int .i64 0, .bool false, .bool false]], []⟩ 8 (by kernel_rfl) (by kernel_rfl) (by kernel_rfl) (by kernel_rfl)) ?_
  intro W base args ds gs before hval0 hW hcnd _
  have hval : ∀ (j : Nat) t v, Try.f7.params[j]? = some t → args[j]? = some v → Value.okWide Try.prog W .any base t v := hval0
  have hW' := hW
  obtain ⟨p, q, hA0, hV, rfl, hfz, hnd⟩ := hW
  have hA : DataW.TrodAll enc Try.prog W 0 (fun _ => true) true Try.f7.params.toList args.toList ds p := hA0
  rw [Try.params7] at hA hval
  obtain ⟨v0, vs0, d0, ds0, p0', q0, hargs, rfl, rfl, h0, r0⟩ := trodAll_cons hA
  obtain ⟨v1, vs1, d1, ds1, p1', q1, rfl, rfl, rfl, h1, r1⟩ := trodAll_cons r0
  obtain ⟨rfl, rfl, rfl⟩ := trodAll_nil r1
  obtain rfl : args = #[v0, v1] := by cases args; simp_all
  obtain ⟨rfl, rfl⟩ := trodVars_none hV
  have k0 := h0
  have lt0 : ∀ x ∈ p0', x.block < W.heap.size := by obtain ⟨m, hm⟩ := k0; exact DataW.trod_lt m _ _ _ hm
  obtain ⟨p0, rfl, w0⟩ := open_state (hval 0 25 v0 rfl rfl) h0
  have k1 := h1
  have lt1 : ∀ x ∈ p1', x.block < W.heap.size := by obtain ⟨m, hm⟩ := k1; exact DataW.trod_lt m _ _ _ hm
  obtain ⟨p1, rfl, w1⟩ := open_piece (hval 1 41 v1 rfl rfl) h1
  clear hA0 hval0
  refine (walk p0 p1 W w0 w1).mono fun e W' ⟨he, bel⟩ => ?_
  subst he
  exact ⟨_, rfl, _, _, _, [], _, [], hW', trodAll_mk1 (shut_bool Try.underlying4 _), (trodAll_cons_mk (Below.trod laidOut (by kernel_rfl) (of_decide_eq_true (by kernel_rfl)) k0 bel lt0) (trodAll_cons_mk (Below.trod laidOut (by kernel_rfl) (of_decide_eq_true (by kernel_rfl)) k1 bel lt1) trodAll_mk0)), rfl, bel.frame _, fun h => by cases h⟩

theorem over : Rows.fnExactSetPieceRow.holds Try.pinned (OpenSpec.ofChange Rows.fnExactSetPieceSpec) :=
  OpenClaim.holds_of_wide 7 Try.f7 rfl rfl rfl rfl rfl rfl rfl ⟨rfl, rfl, rfl, rfl, rfl⟩ rfl rfl rfl rfl rfl (by kernel_rfl) Try.func7 (by kernel_rfl)
    (of_decide_eq_true (by kernel_rfl)) (by unfold Func.isWrapper; first | (rw [if_pos (by decide +kernel)]; kernel_rfl) | (rw [if_neg (by decide +kernel)]; exact ⟨rfl, rfl⟩))
    (fun os started H enc _ => lifted os started H enc)

theorem proved : Rows.FnExactSetPieceSaid := over
#print axioms proved
end Go.Proofs.Ytpdoefcdajcloao.fnExactSetPiece
