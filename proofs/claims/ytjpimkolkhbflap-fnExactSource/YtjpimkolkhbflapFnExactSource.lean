/-
  What is proved: at every state and every thing, the law FnExactSource answers true: the program's and the specification's answer alike, and the arguments read afterwards as before; no condition.
-/
import Derived.Test.YtjpimkolkhbflapRows
import Derived.Test.YtjpimkolkhbflapCur
import Derived.Test.YtjpimkolkhbflapPiece
import Derived.Test.YtjpimkolkhbflapRow
import Derived.Test.YtjpimkolkhbflapPiece2
import Derived.Test.YtjpimkolkhbflapRowLaw
import Derived.Test.YtjpimkolkhbflapEvA
import Derived.Test.YtjpimkolkhbflapState1
import Derived.Test.YtjpimkolkhbflapState2
import Derived.Test.YtjpimkolkhbflapState3
import Derived.Test.YtjpimkolkhbflapSeg
import Derived.Test.YtjpimkolkhbflapRegTail
import Derived.Test.YtjpimkolkhbflapRegBelow
import Derived.Test.YtjpimkolkhbflapNum
import Derived.Test.YtjpimkolkhbflapPiece3
import Derived.Test.YtjpimkolkhbflapState4
import Derived.Test.YtjpimkolkhbflapState5
import Derived.Test.YtjpimkolkhbflapBytes
import Derived.Test.YtjpimkolkhbflapState8
import Derived.Test.YtjpimkolkhbflapStAt
import Derived.Test.YtjpimkolkhbflapStMark
import Derived.Test.YtjpimkolkhbflapPieceOk
import Derived.Test.YtjpimkolkhbflapState6
import Derived.Test.YtjpimkolkhbflapStHeld
import Derived.Test.YtjpimkolkhbflapStEq
import Derived.Test.YtjpimkolkhbflapStSame
import Derived.Test.YtjpimkolkhbflapRegCut
import Derived.Test.YtjpimkolkhbflapStLaw
import Derived.Test.YtjpimkolkhbflapEvS
import Derived.Test.YtjpimkolkhbflapStNew
import Derived.Test.YtjpimkolkhbflapEvL
import Derived.WalkKit
import Derived.ProofKit
import Derived.OpenShut
import Derived.ShutString
import Derived.ChangeOld
import Derived.Below
namespace Go.Proofs.Ytjpimkolkhbflap.fnExactSource
open Go.ChangeShapes Go.WideShapes Go.ChangeAt Go.RowKit
set_option linter.unusedVariables false

theorem own : ownKnob Try.prog.godebug = none := by kernel_rfl
theorem laidOut : laidOutB Try.prog = true := by kernel_rfl

def IsRow (k : IntKind) (w : World) (a : Option Addr) (len cap : Nat) (zs : List Int) : Prop :=
  (a = none ∧ len = 0 ∧ cap = 0 ∧ zs = []) ∨
  ∃ x, a = some x ∧ len ≤ cap ∧ cap ≤ maxLen ∧ zs.length = cap ∧ (∀ i, i < zs.length → w.cell? (x.add i) = some (.int k (zs.getD i 0))) ∧ ∀ n ∈ zs, (Lit.int k n).wf = true

set_option maxHeartbeats 2000000 in
set_option maxHeartbeats 4000000 in
theorem walk (p0 : Stt) (p1 : Ev) (w : World) (w0 : p0.ok w) (w1 : p1.wf) :
    Calls Try.prog 6 #[.agg #[.slice p0.pa p0.pn p0.pcap, .slice p0.sa p0.sn p0.scap, .int .i64 p0.ac, .int .i64 p0.cl], .agg #[.int .i64 p1.kd, .int .i64 p1.sr, .int .i64 p1.pi, .int .i64 p1.si, .int .i64 p1.nn, .int .i64 p1.zo, .bool p1.be]] w fun e w' => e = .returned (.bool true) ∧ Below w.heap.size w w' := by
  have m_ : Try.prog.follows Departure.mixedOrders = true := by kernel_rfl
  have hBw := ((Below.refl _ w).alloc (by exact Nat.le_refl _) (.cells #[.slice p0.pa p0.pn p0.pcap, .slice p0.sa p0.sn p0.scap, .int .i64 p0.ac, .int .i64 p0.cl] 25)).alloc (by simp) (.cells #[.int .i64 p1.kd, .int .i64 p1.sr, .int .i64 p1.pi, .int .i64 p1.si, .int .i64 p1.nn, .int .i64 p1.zo, .bool p1.be] 44)
  have b_p0 := (boxR_new w 25 #[.slice p0.pa p0.pn p0.pcap, .slice p0.sa p0.sn p0.scap, .int .i64 p0.ac, .int .i64 p0.cl]).alloc (.cells #[.int .i64 p1.kd, .int .i64 p1.sr, .int .i64 p1.pi, .int .i64 p1.si, .int .i64 p1.nn, .int .i64 p1.zo, .bool p1.be] 44)
  have b_v1 := boxR_new (w.alloc (.cells #[.slice p0.pa p0.pn p0.pcap, .slice p0.sa p0.sn p0.scap, .int .i64 p0.ac, .int .i64 p0.cl] 25)) 44 #[.int .i64 p1.kd, .int .i64 p1.sr, .int .i64 p1.pi, .int .i64 p1.si, .int .i64 p1.nn, .int .i64 p1.zo, .bool p1.be]
  simp only [World.size_alloc] at b_v1
  generalize hW : (w.alloc (.cells #[.slice p0.pa p0.pn p0.pcap, .slice p0.sa p0.sn p0.scap, .int .i64 p0.ac, .int .i64 p0.cl] 25)).alloc (.cells #[.int .i64 p1.kd, .int .i64 p1.sr, .int .i64 p1.pi, .int .i64 p1.si, .int .i64 p1.nn, .int .i64 p1.zo, .bool p1.be] 44) = W at hBw b_p0 b_v1
  have hsz : w.heap.size ≤ W.heap.size := hBw.size
  have k_p0 := stt_grew w0 hBw
  have l_p0 := b_p0.lt
  have l_v1 := b_v1.lt
  have hB := Below.refl W.heap.size W
  by_cases z0 : (1048576 : Int) - (p0.pn : Int) - (p0.sn : Int) < 0
  · have Z0 : Hid (szS p0.pn p0.sn (1048576 : Int) = -1) := szS_no z0
    go_enter Try.func6, Try.ntmps6
    have c_p0_0 := b_p0.cell 0
    have c_p0_1 := b_p0.cell 1
    have c_p0_2 := b_p0.cell 2
    have c_p0_3 := b_p0.cell 3
    simp at c_p0_0 c_p0_1 c_p0_2 c_p0_3
    go_wp2_with fail
    refine (szState_any p0 (1048576 : Int) _ (by have := k_p0.1; have := k_p0.2.1; unfold maxLen at *; omega) (by have := k_p0.2.2.2.1; have := k_p0.2.2.2.2.1; unfold maxLen at *; omega) (by omega)).mono ?_
    rintro e u1 ⟨rfl, hb⟩
    clear c_p0_0 c_p0_1 c_p0_2 c_p0_3
    try clear hW
    replace b_p0 := b_p0.grew hb
    replace b_v1 := b_v1.grew hb
    replace hB := below_app hB hb hB.size
    clear hb
    rw [Z0.out]
    go_wp2
    go_ret
    exact ⟨rfl, below_app hBw hB hsz⟩
  have n_p0 : p0.pn ≤ 1048576 := by omega
  have n2_p0 : p0.sn ≤ 1048576 := by omega
  have Y0 : Hid (szS p0.pn p0.sn (1048576 : Int) = (1048576 : Int) - p0.pn - p0.sn) := szS_le z0
  have y0 : 0 ≤ (1048576 : Int) - p0.pn - p0.sn := by omega
  go_enter Try.func6, Try.ntmps6
  have c_p0_0 := b_p0.cell 0
  have c_p0_1 := b_p0.cell 1
  have c_p0_2 := b_p0.cell 2
  have c_p0_3 := b_p0.cell 3
  simp at c_p0_0 c_p0_1 c_p0_2 c_p0_3
  go_wp2_with fail
  refine (szState_any p0 (1048576 : Int) _ (by omega) (by omega) (by omega)).mono ?_
  rintro e u1 ⟨rfl, hb⟩
  clear c_p0_0 c_p0_1 c_p0_2 c_p0_3
  try clear hW
  replace b_p0 := b_p0.grew hb
  replace b_v1 := b_v1.grew hb
  replace hB := below_app hB hb hB.size
  clear hb
  rw [Y0.out]
  go_wp2_with fail
  refine wp_cutT (fun x : Stt × Nat => [(14, (.agg #[.slice p0.pa p0.pn p0.pcap, .slice p0.sa p0.sn p0.scap, .int .i64 p0.ac, .int .i64 p0.cl])), (15, (.agg #[.slice x.1.pa x.1.pn x.1.pcap, .slice x.1.sa x.1.sn x.1.scap, .int .i64 x.1.ac, .int .i64 x.1.cl])), (16, (.agg #[.int .i64 p1.kd, .int .i64 p1.sr, .int .i64 p1.pi, .int .i64 p1.si, .int .i64 p1.nn, .int .i64 p1.zo, .bool p1.be])), (17, (.agg #[.int .i64 p1.kd, .int .i64 p1.sr, .int .i64 p1.pi, .int .i64 p1.si, .int .i64 p1.nn, .int .i64 p1.zo, .bool p1.be])), (18, (.agg #[.int .i64 (srP p0 p1).id, .int .i64 (srP p0 p1).ow, .int .i64 (srP p0 p1).si, .int .i64 (srP p0 p1).zo, .int .i64 (srP p0 p1).st, .int .i64 (srP p0 p1).po, .int .i64 (srP p0 p1).to, .int .i64 (srP p0 p1).tr, .int .i64 (srP p0 p1).pl, .int .i64 (srP p0 p1).mi, .int .i64 (srP p0 p1).ma, .bool (srP p0 p1).de, .bool (srP p0 p1).be])), (6, .pointer (some ⟨x.2, 0, none⟩))]) (fun x u => Below u1.heap.size u1 u ∧ BoxR u x.2 50 #[.int .i64 (srP p0 p1).id, .int .i64 (srP p0 p1).ow, .int .i64 (srP p0 p1).si, .int .i64 (srP p0 p1).zo, .int .i64 (srP p0 p1).st, .int .i64 (srP p0 p1).po, .int .i64 (srP p0 p1).to, .int .i64 (srP p0 p1).tr, .int .i64 (srP p0 p1).pl, .int .i64 (srP p0 p1).mi, .int .i64 (srP p0 p1).ma, .bool (srP p0 p1).de, .bool (srP p0 p1).be] ∧ u1.heap.size ≤ x.2) ?_ ?_
  · have c_p0_0 := b_p0.cell 0
    have c_p0_1 := b_p0.cell 1
    have c_p0_2 := b_p0.cell 2
    have c_p0_3 := b_p0.cell 3
    have c_v1_0 := b_v1.cell 0
    have c_v1_1 := b_v1.cell 1
    have c_v1_2 := b_v1.cell 2
    have c_v1_3 := b_v1.cell 3
    have c_v1_4 := b_v1.cell 4
    have c_v1_5 := b_v1.cell 5
    have c_v1_6 := b_v1.cell 6
    simp at c_p0_0 c_p0_1 c_p0_2 c_p0_3 c_v1_0 c_v1_1 c_v1_2 c_v1_3 c_v1_4 c_v1_5 c_v1_6
    have SK : ∀ u : World, Below u1.heap.size u1 u → u.cell? ⟨w.heap.size, 0, none⟩ = some (.slice p0.pa p0.pn p0.pcap) ∧ u.cell? ⟨w.heap.size, 1, none⟩ = some (.slice p0.sa p0.sn p0.scap) ∧ u.cell? ⟨w.heap.size, 2, none⟩ = some (.int .i64 p0.ac) ∧ u.cell? ⟨w.heap.size, 3, none⟩ = some (.int .i64 p0.cl) ∧ u.cell? ⟨w.heap.size + 1, 0, none⟩ = some (.int .i64 p1.kd) ∧ u.cell? ⟨w.heap.size + 1, 1, none⟩ = some (.int .i64 p1.sr) ∧ u.cell? ⟨w.heap.size + 1, 2, none⟩ = some (.int .i64 p1.pi) ∧ u.cell? ⟨w.heap.size + 1, 3, none⟩ = some (.int .i64 p1.si) ∧ u.cell? ⟨w.heap.size + 1, 4, none⟩ = some (.int .i64 p1.nn) ∧ u.cell? ⟨w.heap.size + 1, 5, none⟩ = some (.int .i64 p1.zo) ∧ u.cell? ⟨w.heap.size + 1, 6, none⟩ = some (.bool p1.be) := fun u hu => ⟨(hu.cell (World.block_lt_of_cell? _ _ c_p0_0)).trans c_p0_0, (hu.cell (World.block_lt_of_cell? _ _ c_p0_1)).trans c_p0_1, (hu.cell (World.block_lt_of_cell? _ _ c_p0_2)).trans c_p0_2, (hu.cell (World.block_lt_of_cell? _ _ c_p0_3)).trans c_p0_3, (hu.cell (World.block_lt_of_cell? _ _ c_v1_0)).trans c_v1_0, (hu.cell (World.block_lt_of_cell? _ _ c_v1_1)).trans c_v1_1, (hu.cell (World.block_lt_of_cell? _ _ c_v1_2)).trans c_v1_2, (hu.cell (World.block_lt_of_cell? _ _ c_v1_3)).trans c_v1_3, (hu.cell (World.block_lt_of_cell? _ _ c_v1_4)).trans c_v1_4, (hu.cell (World.block_lt_of_cell? _ _ c_v1_5)).trans c_v1_5, (hu.cell (World.block_lt_of_cell? _ _ c_v1_6)).trans c_v1_6⟩
    have hD : Below u1.heap.size u1 u1.drew := (Below.refl _ u1).drew
    have okK : ∀ u : World, Below u1.heap.size u1 u → p0.ok u := fun u hu => stt_grew k_p0 (below_app hB hu hB.size)
    clear c_p0_0 c_p0_1 c_p0_2 c_p0_3 c_v1_0 c_v1_1 c_v1_2 c_v1_3 c_v1_4 c_v1_5 c_v1_6
    have hA0 : Below u1.heap.size u1 (u1.alloc (.cells #[.int .i64 0, .int .i64 0, .int .i64 0, .int .i64 0, .int .i64 0, .int .i64 0, .int .i64 0, .int .i64 0, .int .i64 0, .int .i64 0, .int .i64 0, .bool false, .bool false] 50)).drew := ((Below.refl _ u1).alloc (Nat.le_refl _) (.cells #[.int .i64 0, .int .i64 0, .int .i64 0, .int .i64 0, .int .i64 0, .int .i64 0, .int .i64 0, .int .i64 0, .int .i64 0, .int .i64 0, .int .i64 0, .bool false, .bool false] 50)).drew
    have bA0 : BoxR (u1.alloc (.cells #[.int .i64 0, .int .i64 0, .int .i64 0, .int .i64 0, .int .i64 0, .int .i64 0, .int .i64 0, .int .i64 0, .int .i64 0, .int .i64 0, .int .i64 0, .bool false, .bool false] 50)).drew u1.heap.size 50 #[.int .i64 0, .int .i64 0, .int .i64 0, .int .i64 0, .int .i64 0, .int .i64 0, .int .i64 0, .int .i64 0, .int .i64 0, .int .i64 0, .int .i64 0, .bool false, .bool false] := boxR_new u1 50 #[.int .i64 0, .int .i64 0, .int .i64 0, .int .i64 0, .int .i64 0, .int .i64 0, .int .i64 0, .int .i64 0, .int .i64 0, .int .i64 0, .int .i64 0, .bool false, .bool false]
    go_region_held (fun u : World => u.cell? ⟨w.heap.size, 0, none⟩ = some (.slice p0.pa p0.pn p0.pcap) ∧ u.cell? ⟨w.heap.size, 1, none⟩ = some (.slice p0.sa p0.sn p0.scap) ∧ u.cell? ⟨w.heap.size, 2, none⟩ = some (.int .i64 p0.ac) ∧ u.cell? ⟨w.heap.size, 3, none⟩ = some (.int .i64 p0.cl) ∧ u.cell? ⟨w.heap.size + 1, 0, none⟩ = some (.int .i64 p1.kd) ∧ u.cell? ⟨w.heap.size + 1, 1, none⟩ = some (.int .i64 p1.sr) ∧ u.cell? ⟨w.heap.size + 1, 2, none⟩ = some (.int .i64 p1.pi) ∧ u.cell? ⟨w.heap.size + 1, 3, none⟩ = some (.int .i64 p1.si) ∧ u.cell? ⟨w.heap.size + 1, 4, none⟩ = some (.int .i64 p1.nn) ∧ u.cell? ⟨w.heap.size + 1, 5, none⟩ = some (.int .i64 p1.zo) ∧ u.cell? ⟨w.heap.size + 1, 6, none⟩ = some (.bool p1.be)) (first | (refine SK _ ?_; first | with_reducible exact hD | with_reducible exact hA0 | with_reducible exact hq1 | with_reducible exact hq1.alloc hq1.size _ | with_reducible exact hq2 | with_reducible exact hq2.alloc hq2.size _ | with_reducible exact hq3 | with_reducible exact hq3.alloc hq3.size _ | with_reducible exact set13_below hq3 (by first | exact Nat.le_refl _ | exact hq1.size | exact hq2.size) _ _ _ _ _ _ _ _ _ _ _ _ _)) (first | (go_at_call 10; refine (toState_ans p0 _ (okK _ (by first | with_reducible exact hq2 | with_reducible exact hq2.alloc hq2.size _ | with_reducible exact hA0 | with_reducible exact hD)) n_p0 n2_p0).mono ?_; rintro e v1 ⟨ty, rfl, hb1, oy, ey⟩; have hq1 : Below u1.heap.size u1 v1 := (by first | with_reducible exact below_app (hq2) hb1 (hq2).size | with_reducible exact below_app (hq2.alloc hq2.size _) hb1 (hq2.alloc hq2.size _).size | with_reducible exact below_app (hA0) hb1 (hA0).size | with_reducible exact below_app (hD) hb1 (hD).size); (first | with_reducible (replace rb := rb.grew hb1) | with_reducible (have rb := bA0.grew hb1) | with_reducible (have rb := (boxR_new v1 50 #[.int .i64 0, .int .i64 0, .int .i64 0, .int .i64 0, .int .i64 0, .int .i64 0, .int .i64 0, .int .i64 0, .int .i64 0, .int .i64 0, .int .i64 0, .bool false, .bool false]).grew hb1) | with_reducible (have rb := (boxR_new v2 50 #[.int .i64 0, .int .i64 0, .int .i64 0, .int .i64 0, .int .i64 0, .int .i64 0, .int .i64 0, .int .i64 0, .int .i64 0, .int .i64 0, .int .i64 0, .bool false, .bool false]).grew hb1) | skip)) | (go_at_call 22; refine (toEvent_any p1 _).mono ?_; rintro e v2 ⟨rfl, hb2⟩; have hq2 : Below u1.heap.size u1 v2 := (by first | with_reducible exact below_app (hq1) hb2 (hq1).size | with_reducible exact below_app (hq1.alloc hq1.size _) hb2 (hq1.alloc hq1.size _).size | with_reducible exact below_app (hA0) hb2 (hA0).size | with_reducible exact below_app (hD) hb2 (hD).size); (first | with_reducible (replace oy := oy.grew hb2) | with_reducible (replace oy := (oy.grew (below_new2'' _ _)).grew hb2) | skip); (first | with_reducible (replace rb := rb.grew hb2) | with_reducible (have rb := bA0.grew hb2) | with_reducible (have rb := (boxR_new v1 50 #[.int .i64 0, .int .i64 0, .int .i64 0, .int .i64 0, .int .i64 0, .int .i64 0, .int .i64 0, .int .i64 0, .int .i64 0, .int .i64 0, .int .i64 0, .bool false, .bool false]).grew hb2) | with_reducible (have rb := (boxR_new v2 50 #[.int .i64 0, .int .i64 0, .int .i64 0, .int .i64 0, .int .i64 0, .int .i64 0, .int .i64 0, .int .i64 0, .int .i64 0, .int .i64 0, .int .i64 0, .bool false, .bool false]).grew hb2) | skip)) | (go_at_call 24; refine (specSource_al p1 (by first | with_reducible exact oy | with_reducible exact oy.grew (below_new2'' _ _)) ey k_p0 n_p0 n2_p0).mono ?_; rintro e v3 ⟨rfl, hb3⟩; have hq3 : Below u1.heap.size u1 v3 := (by first | with_reducible exact below_app (hq2) hb3 (hq2).size | with_reducible exact below_app (hq1) hb3 (hq1).size | with_reducible exact below_app (hq2.alloc hq2.size _) hb3 (hq2.alloc hq2.size _).size | with_reducible exact below_app (hq1.alloc hq1.size _) hb3 (hq1.alloc hq1.size _).size); (first | with_reducible (replace rb := rb.grew hb3) | with_reducible (have rb := bA0.grew hb3) | with_reducible (have rb := (boxR_new v1 50 #[.int .i64 0, .int .i64 0, .int .i64 0, .int .i64 0, .int .i64 0, .int .i64 0, .int .i64 0, .int .i64 0, .int .i64 0, .int .i64 0, .int .i64 0, .bool false, .bool false]).grew hb3) | with_reducible (have rb := (boxR_new v2 50 #[.int .i64 0, .int .i64 0, .int .i64 0, .int .i64 0, .int .i64 0, .int .i64 0, .int .i64 0, .int .i64 0, .int .i64 0, .int .i64 0, .int .i64 0, .bool false, .bool false]).grew hb3) | skip); (try (have f0 := rb.froz 0; have f1 := rb.froz 1; have f2 := rb.froz 2; have f3 := rb.froz 3; have f4 := rb.froz 4; have f5 := rb.froz 5; have f6 := rb.froz 6; have f7 := rb.froz 7; have f8 := rb.froz 8; have f9 := rb.froz 9; have f10 := rb.froz 10; have f11 := rb.froz 11; have f12 := rb.froz 12; have d0 := rb.cell 0; have d1 := rb.cell 1; have d2 := rb.cell 2; have d3 := rb.cell 3; have d4 := rb.cell 4; have d5 := rb.cell 5; have d6 := rb.cell 6; have d7 := rb.cell 7; have d8 := rb.cell 8; have d9 := rb.cell 9; have d10 := rb.cell 10; have d11 := rb.cell 11; have d12 := rb.cell 12; simp at d0 d1 d2 d3 d4 d5 d6 d7 d8 d9 d10 d11 d12))))
    all_goals first | (refine ⟨(ty, v3.heap.size), ?_, (by with_reducible exact hq3.alloc hq3.size _), (by with_reducible exact boxR_new _ _ _), hq3.size⟩; rfl) | (refine ⟨(ty, v2.heap.size), ?_, (by with_reducible exact set13_below hq3 hq2.size _ _ _ _ _ _ _ _ _ _ _ _ _), (by with_reducible exact put13 rb _ _ _ _ _ _ _ _ _ _ _ _ _), hq2.size⟩; rfl) | (refine ⟨(ty, v1.heap.size), ?_, (by with_reducible exact set13_below hq3 hq1.size _ _ _ _ _ _ _ _ _ _ _ _ _), (by with_reducible exact put13 rb _ _ _ _ _ _ _ _ _ _ _ _ _), hq1.size⟩; rfl) | (refine ⟨(ty, u1.heap.size), ?_, (by with_reducible exact set13_below hq3 (Nat.le_refl _) _ _ _ _ _ _ _ _ _ _ _ _ _), (by with_reducible exact put13 rb _ _ _ _ _ _ _ _ _ _ _ _ _), (Nat.le_refl _)⟩; rfl)
  rintro ⟨t__qw, r_qw⟩ u2 ⟨hb, b_qw, l_qw⟩
  simp only [puts, List.foldl, Act.put, List.setIfInBounds_toArray, List.set_cons_zero, List.set_cons_succ]
  dsimp only at b_qw l_qw ⊢
  replace b_p0 := b_p0.grew hb
  replace b_v1 := b_v1.grew hb
  replace hB := below_app hB hb hB.size
  clear hb
  have c_p0_0 := b_p0.cell 0
  have c_p0_1 := b_p0.cell 1
  have c_p0_2 := b_p0.cell 2
  have c_p0_3 := b_p0.cell 3
  simp at c_p0_0 c_p0_1 c_p0_2 c_p0_3
  go_wp2_with fail
  refine (toState_ans p0 _ (stt_grew k_p0 hB) n_p0 n2_p0).mono ?_
  rintro e u3 ⟨t_x, rfl, hb, o_x, e_x⟩
  clear c_p0_0 c_p0_1 c_p0_2 c_p0_3
  have d_p0_x := away_old o_x b_p0.lt
  have d_v1_x := away_old o_x b_v1.lt
  have d_qw_x := away_old o_x b_qw.lt
  have f_x : W.heap.size ≤ u2.heap.size := hB.size
  replace b_p0 := b_p0.grew hb
  replace b_v1 := b_v1.grew hb
  replace b_qw := b_qw.grew hb
  replace hB := below_app hB hb hB.size
  clear hb
  have hb := (Below.refl _ u3).alloc (Nat.le_refl _) (.cells #[.slice t_x.pa t_x.pn t_x.pcap, .slice t_x.sa t_x.sn t_x.scap, .int .i64 t_x.ac, .int .i64 t_x.cl] 32)
  have b_x := boxR_new u3 32 #[.slice t_x.pa t_x.pn t_x.pcap, .slice t_x.sa t_x.sn t_x.scap, .int .i64 t_x.ac, .int .i64 t_x.cl]
  have d_x_x := away_new o_x (Nat.le_refl u3.heap.size)
  generalize hVx : u3.alloc (.cells #[.slice t_x.pa t_x.pn t_x.pcap, .slice t_x.sa t_x.sn t_x.scap, .int .i64 t_x.ac, .int .i64 t_x.cl] 32) = u4 at hb b_x
  replace o_x := o_x.grew hb
  replace b_p0 := b_p0.grew hb
  replace b_v1 := b_v1.grew hb
  replace b_qw := b_qw.grew hb
  replace hB := below_app hB hb hB.size
  clear hb
  go_wp2_with fail
  refine wp_cutT (fun x : Stt × Nat => [(21, (.agg #[.slice t_x.pa t_x.pn t_x.pcap, .slice t_x.sa t_x.sn t_x.scap, .int .i64 t_x.ac, .int .i64 t_x.cl])), (22, (.agg #[.int .i64 p1.kd, .int .i64 p1.sr, .int .i64 p1.pi, .int .i64 p1.si, .int .i64 p1.nn, .int .i64 p1.zo, .bool p1.be])), (23, (.agg #[.int .i64 p1.kd, .int .i64 p1.sr, .int .i64 p1.pi, .int .i64 p1.si, .int .i64 p1.nn, .int .i64 p1.zo, .bool p1.be])), (24, (.agg #[.int .i64 (srP p0 p1).id, .int .i64 (srP p0 p1).ow, .int .i64 (srP p0 p1).si, .int .i64 (srP p0 p1).zo, .int .i64 (srP p0 p1).st, .int .i64 (srP p0 p1).po, .int .i64 (srP p0 p1).to, .int .i64 (srP p0 p1).tr, .int .i64 (srP p0 p1).pl, .int .i64 (srP p0 p1).mi, .int .i64 (srP p0 p1).ma, .bool (srP p0 p1).de, .bool (srP p0 p1).be])), (8, .pointer (some ⟨x.2, 0, none⟩))]) (fun x u => Below u4.heap.size u4 u ∧ BoxR u x.2 50 #[.int .i64 (srP p0 p1).id, .int .i64 (srP p0 p1).ow, .int .i64 (srP p0 p1).si, .int .i64 (srP p0 p1).zo, .int .i64 (srP p0 p1).st, .int .i64 (srP p0 p1).po, .int .i64 (srP p0 p1).to, .int .i64 (srP p0 p1).tr, .int .i64 (srP p0 p1).pl, .int .i64 (srP p0 p1).mi, .int .i64 (srP p0 p1).ma, .bool (srP p0 p1).de, .bool (srP p0 p1).be] ∧ u4.heap.size ≤ x.2) ?_ ?_
  · have c_x_0 := b_x.cell 0
    have c_x_1 := b_x.cell 1
    have c_x_2 := b_x.cell 2
    have c_x_3 := b_x.cell 3
    have c_v1_0 := b_v1.cell 0
    have c_v1_1 := b_v1.cell 1
    have c_v1_2 := b_v1.cell 2
    have c_v1_3 := b_v1.cell 3
    have c_v1_4 := b_v1.cell 4
    have c_v1_5 := b_v1.cell 5
    have c_v1_6 := b_v1.cell 6
    simp at c_x_0 c_x_1 c_x_2 c_x_3 c_v1_0 c_v1_1 c_v1_2 c_v1_3 c_v1_4 c_v1_5 c_v1_6
    have SK : ∀ u : World, Below u4.heap.size u4 u → u.cell? ⟨u3.heap.size, 0, none⟩ = some (.slice t_x.pa t_x.pn t_x.pcap) ∧ u.cell? ⟨u3.heap.size, 1, none⟩ = some (.slice t_x.sa t_x.sn t_x.scap) ∧ u.cell? ⟨u3.heap.size, 2, none⟩ = some (.int .i64 t_x.ac) ∧ u.cell? ⟨u3.heap.size, 3, none⟩ = some (.int .i64 t_x.cl) ∧ u.cell? ⟨w.heap.size + 1, 0, none⟩ = some (.int .i64 p1.kd) ∧ u.cell? ⟨w.heap.size + 1, 1, none⟩ = some (.int .i64 p1.sr) ∧ u.cell? ⟨w.heap.size + 1, 2, none⟩ = some (.int .i64 p1.pi) ∧ u.cell? ⟨w.heap.size + 1, 3, none⟩ = some (.int .i64 p1.si) ∧ u.cell? ⟨w.heap.size + 1, 4, none⟩ = some (.int .i64 p1.nn) ∧ u.cell? ⟨w.heap.size + 1, 5, none⟩ = some (.int .i64 p1.zo) ∧ u.cell? ⟨w.heap.size + 1, 6, none⟩ = some (.bool p1.be) := fun u hu => ⟨(hu.cell (World.block_lt_of_cell? _ _ c_x_0)).trans c_x_0, (hu.cell (World.block_lt_of_cell? _ _ c_x_1)).trans c_x_1, (hu.cell (World.block_lt_of_cell? _ _ c_x_2)).trans c_x_2, (hu.cell (World.block_lt_of_cell? _ _ c_x_3)).trans c_x_3, (hu.cell (World.block_lt_of_cell? _ _ c_v1_0)).trans c_v1_0, (hu.cell (World.block_lt_of_cell? _ _ c_v1_1)).trans c_v1_1, (hu.cell (World.block_lt_of_cell? _ _ c_v1_2)).trans c_v1_2, (hu.cell (World.block_lt_of_cell? _ _ c_v1_3)).trans c_v1_3, (hu.cell (World.block_lt_of_cell? _ _ c_v1_4)).trans c_v1_4, (hu.cell (World.block_lt_of_cell? _ _ c_v1_5)).trans c_v1_5, (hu.cell (World.block_lt_of_cell? _ _ c_v1_6)).trans c_v1_6⟩
    have hD : Below u4.heap.size u4 u4.drew := (Below.refl _ u4).drew
    have okK : ∀ u : World, Below u4.heap.size u4 u → p0.ok u := fun u hu => stt_grew k_p0 (below_app hB hu hB.size)
    have oK : ∀ u : World, Below u4.heap.size u4 u → OwnT u u2.heap.size t_x := fun u hu => o_x.grew hu
    clear c_x_0 c_x_1 c_x_2 c_x_3 c_v1_0 c_v1_1 c_v1_2 c_v1_3 c_v1_4 c_v1_5 c_v1_6
    have hA0 : Below u4.heap.size u4 (u4.alloc (.cells #[.int .i64 0, .int .i64 0, .int .i64 0, .int .i64 0, .int .i64 0, .int .i64 0, .int .i64 0, .int .i64 0, .int .i64 0, .int .i64 0, .int .i64 0, .bool false, .bool false] 50)).drew := ((Below.refl _ u4).alloc (Nat.le_refl _) (.cells #[.int .i64 0, .int .i64 0, .int .i64 0, .int .i64 0, .int .i64 0, .int .i64 0, .int .i64 0, .int .i64 0, .int .i64 0, .int .i64 0, .int .i64 0, .bool false, .bool false] 50)).drew
    have bA0 : BoxR (u4.alloc (.cells #[.int .i64 0, .int .i64 0, .int .i64 0, .int .i64 0, .int .i64 0, .int .i64 0, .int .i64 0, .int .i64 0, .int .i64 0, .int .i64 0, .int .i64 0, .bool false, .bool false] 50)).drew u4.heap.size 50 #[.int .i64 0, .int .i64 0, .int .i64 0, .int .i64 0, .int .i64 0, .int .i64 0, .int .i64 0, .int .i64 0, .int .i64 0, .int .i64 0, .int .i64 0, .bool false, .bool false] := boxR_new u4 50 #[.int .i64 0, .int .i64 0, .int .i64 0, .int .i64 0, .int .i64 0, .int .i64 0, .int .i64 0, .int .i64 0, .int .i64 0, .int .i64 0, .int .i64 0, .bool false, .bool false]
    go_region_held (fun u : World => u.cell? ⟨u3.heap.size, 0, none⟩ = some (.slice t_x.pa t_x.pn t_x.pcap) ∧ u.cell? ⟨u3.heap.size, 1, none⟩ = some (.slice t_x.sa t_x.sn t_x.scap) ∧ u.cell? ⟨u3.heap.size, 2, none⟩ = some (.int .i64 t_x.ac) ∧ u.cell? ⟨u3.heap.size, 3, none⟩ = some (.int .i64 t_x.cl) ∧ u.cell? ⟨w.heap.size + 1, 0, none⟩ = some (.int .i64 p1.kd) ∧ u.cell? ⟨w.heap.size + 1, 1, none⟩ = some (.int .i64 p1.sr) ∧ u.cell? ⟨w.heap.size + 1, 2, none⟩ = some (.int .i64 p1.pi) ∧ u.cell? ⟨w.heap.size + 1, 3, none⟩ = some (.int .i64 p1.si) ∧ u.cell? ⟨w.heap.size + 1, 4, none⟩ = some (.int .i64 p1.nn) ∧ u.cell? ⟨w.heap.size + 1, 5, none⟩ = some (.int .i64 p1.zo) ∧ u.cell? ⟨w.heap.size + 1, 6, none⟩ = some (.bool p1.be)) (first | (refine SK _ ?_; first | with_reducible exact hD | with_reducible exact hA0 | with_reducible exact hq1 | with_reducible exact hq1.alloc hq1.size _ | with_reducible exact hq2 | with_reducible exact hq2.alloc hq2.size _ | with_reducible exact hq3 | with_reducible exact hq3.alloc hq3.size _ | with_reducible exact set13_below hq3 (by first | exact Nat.le_refl _ | exact hq1.size | exact hq2.size) _ _ _ _ _ _ _ _ _ _ _ _ _)) (first | (go_at_call 22; refine (toEvent_any p1 _).mono ?_; rintro e v2 ⟨rfl, hb2⟩; have hq2 : Below u4.heap.size u4 v2 := (by first | with_reducible exact below_app (hq1) hb2 (hq1).size | with_reducible exact below_app (hq1.alloc hq1.size _) hb2 (hq1.alloc hq1.size _).size | with_reducible exact below_app (hA0) hb2 (hA0).size | with_reducible exact below_app (hD) hb2 (hD).size); (first | with_reducible (replace oy := oy.grew hb2) | with_reducible (replace oy := (oy.grew (below_new2'' _ _)).grew hb2) | skip); (first | with_reducible (replace rb := rb.grew hb2) | with_reducible (have rb := bA0.grew hb2) | with_reducible (have rb := (boxR_new v1 50 #[.int .i64 0, .int .i64 0, .int .i64 0, .int .i64 0, .int .i64 0, .int .i64 0, .int .i64 0, .int .i64 0, .int .i64 0, .int .i64 0, .int .i64 0, .bool false, .bool false]).grew hb2) | with_reducible (have rb := (boxR_new v2 50 #[.int .i64 0, .int .i64 0, .int .i64 0, .int .i64 0, .int .i64 0, .int .i64 0, .int .i64 0, .int .i64 0, .int .i64 0, .int .i64 0, .int .i64 0, .bool false, .bool false]).grew hb2) | skip)) | (go_at_call 25; refine (implSource_al p1 (oK _ (by first | with_reducible exact hq2 | with_reducible exact hq2.alloc hq2.size _)) e_x k_p0 n_p0 n2_p0).mono ?_; rintro e v3 ⟨rfl, hb3⟩; have hq3 : Below u4.heap.size u4 v3 := (by first | with_reducible exact below_app (hq2) hb3 (hq2).size | with_reducible exact below_app (hq1) hb3 (hq1).size | with_reducible exact below_app (hq2.alloc hq2.size _) hb3 (hq2.alloc hq2.size _).size | with_reducible exact below_app (hq1.alloc hq1.size _) hb3 (hq1.alloc hq1.size _).size); (first | with_reducible (replace rb := rb.grew hb3) | with_reducible (have rb := bA0.grew hb3) | with_reducible (have rb := (boxR_new v1 50 #[.int .i64 0, .int .i64 0, .int .i64 0, .int .i64 0, .int .i64 0, .int .i64 0, .int .i64 0, .int .i64 0, .int .i64 0, .int .i64 0, .int .i64 0, .bool false, .bool false]).grew hb3) | with_reducible (have rb := (boxR_new v2 50 #[.int .i64 0, .int .i64 0, .int .i64 0, .int .i64 0, .int .i64 0, .int .i64 0, .int .i64 0, .int .i64 0, .int .i64 0, .int .i64 0, .int .i64 0, .bool false, .bool false]).grew hb3) | skip); (try (have f0 := rb.froz 0; have f1 := rb.froz 1; have f2 := rb.froz 2; have f3 := rb.froz 3; have f4 := rb.froz 4; have f5 := rb.froz 5; have f6 := rb.froz 6; have f7 := rb.froz 7; have f8 := rb.froz 8; have f9 := rb.froz 9; have f10 := rb.froz 10; have f11 := rb.froz 11; have f12 := rb.froz 12; have d0 := rb.cell 0; have d1 := rb.cell 1; have d2 := rb.cell 2; have d3 := rb.cell 3; have d4 := rb.cell 4; have d5 := rb.cell 5; have d6 := rb.cell 6; have d7 := rb.cell 7; have d8 := rb.cell 8; have d9 := rb.cell 9; have d10 := rb.cell 10; have d11 := rb.cell 11; have d12 := rb.cell 12; simp at d0 d1 d2 d3 d4 d5 d6 d7 d8 d9 d10 d11 d12))))
    all_goals first | (refine ⟨(t_x, v3.heap.size), ?_, (by with_reducible exact hq3.alloc hq3.size _), (by with_reducible exact boxR_new _ _ _), hq3.size⟩; rfl) | (refine ⟨(t_x, v2.heap.size), ?_, (by with_reducible exact set13_below hq3 hq2.size _ _ _ _ _ _ _ _ _ _ _ _ _), (by with_reducible exact put13 rb _ _ _ _ _ _ _ _ _ _ _ _ _), hq2.size⟩; rfl) | (refine ⟨(t_x, u4.heap.size), ?_, (by with_reducible exact set13_below hq3 (Nat.le_refl _) _ _ _ _ _ _ _ _ _ _ _ _ _), (by with_reducible exact put13 rb _ _ _ _ _ _ _ _ _ _ _ _ _), (Nat.le_refl _)⟩; rfl)
  rintro ⟨t__qg, r_qg⟩ u5 ⟨hb, b_qg, l_qg⟩
  simp only [puts, List.foldl, Act.put, List.setIfInBounds_toArray, List.set_cons_zero, List.set_cons_succ]
  dsimp only at b_qg l_qg ⊢
  replace o_x := o_x.grew hb
  replace b_p0 := b_p0.grew hb
  replace b_v1 := b_v1.grew hb
  replace b_qw := b_qw.grew hb
  replace b_x := b_x.grew hb
  replace hB := below_app hB hb hB.size
  clear hb
  have c_qg_0 := b_qg.cell 0
  have c_qg_1 := b_qg.cell 1
  have c_qg_2 := b_qg.cell 2
  have c_qg_3 := b_qg.cell 3
  have c_qg_4 := b_qg.cell 4
  have c_qg_5 := b_qg.cell 5
  have c_qg_6 := b_qg.cell 6
  have c_qg_7 := b_qg.cell 7
  have c_qg_8 := b_qg.cell 8
  have c_qg_9 := b_qg.cell 9
  have c_qg_10 := b_qg.cell 10
  have c_qg_11 := b_qg.cell 11
  have c_qg_12 := b_qg.cell 12
  have c_qw_0 := b_qw.cell 0
  have c_qw_1 := b_qw.cell 1
  have c_qw_2 := b_qw.cell 2
  have c_qw_3 := b_qw.cell 3
  have c_qw_4 := b_qw.cell 4
  have c_qw_5 := b_qw.cell 5
  have c_qw_6 := b_qw.cell 6
  have c_qw_7 := b_qw.cell 7
  have c_qw_8 := b_qw.cell 8
  have c_qw_9 := b_qw.cell 9
  have c_qw_10 := b_qw.cell 10
  have c_qw_11 := b_qw.cell 11
  have c_qw_12 := b_qw.cell 12
  simp at c_qg_0 c_qg_1 c_qg_2 c_qg_3 c_qg_4 c_qg_5 c_qg_6 c_qg_7 c_qg_8 c_qg_9 c_qg_10 c_qg_11 c_qg_12 c_qw_0 c_qw_1 c_qw_2 c_qw_3 c_qw_4 c_qw_5 c_qw_6 c_qw_7 c_qw_8 c_qw_9 c_qw_10 c_qw_11 c_qw_12
  go_wp2_with fail
  refine (eqPiece_any (srP p0 p1) (srP p0 p1) _).mono ?_
  rintro e u6 ⟨rfl, hb⟩
  clear c_qg_0 c_qg_1 c_qg_2 c_qg_3 c_qg_4 c_qg_5 c_qg_6 c_qg_7 c_qg_8 c_qg_9 c_qg_10 c_qg_11 c_qg_12 c_qw_0 c_qw_1 c_qw_2 c_qw_3 c_qw_4 c_qw_5 c_qw_6 c_qw_7 c_qw_8 c_qw_9 c_qw_10 c_qw_11 c_qw_12
  replace o_x := o_x.grew hb
  replace b_p0 := b_p0.grew hb
  replace b_v1 := b_v1.grew hb
  replace b_qw := b_qw.grew hb
  replace b_x := b_x.grew hb
  replace b_qg := b_qg.grew hb
  replace hB := below_app hB hb hB.size
  clear hb
  rw [smP_self]
  go_wp2_with fail
  refine wp_cutT (fun t : Stt => [(29, (.agg #[.slice t_x.pa t_x.pn t_x.pcap, .slice t_x.sa t_x.sn t_x.scap, .int .i64 t_x.ac, .int .i64 t_x.cl])), (30, (.agg #[.slice p0.pa p0.pn p0.pcap, .slice p0.sa p0.sn p0.scap, .int .i64 p0.ac, .int .i64 p0.cl])), (31, (.agg #[.slice t.pa t.pn t.pcap, .slice t.sa t.sn t.scap, .int .i64 t.ac, .int .i64 t.cl])), (32, .bool true), (33, .bool false)]) (fun _ u => Below u6.heap.size u6 u) ?_ ?_
  · have tb : Calls Try.prog 10 #[(.agg #[.slice p0.pa p0.pn p0.pcap, .slice p0.sa p0.sn p0.scap, .int .i64 p0.ac, .int .i64 p0.cl])] u6.drew fun e v => ∃ t : Stt, e = .returned (.agg #[.slice t.pa t.pn t.pcap, .slice t.sa t.sn t.scap, .int .i64 t.ac, .int .i64 t.cl]) ∧ Below u6.heap.size u6 v ∧ OwnT v u6.heap.size t ∧ Alike t p0 ∧ OwnT v u2.heap.size t_x ∧ v.cell? ⟨u3.heap.size, 0, none⟩ = some (.slice t_x.pa t_x.pn t_x.pcap) ∧ v.cell? ⟨u3.heap.size, 1, none⟩ = some (.slice t_x.sa t_x.sn t_x.scap) ∧ v.cell? ⟨u3.heap.size, 2, none⟩ = some (.int .i64 t_x.ac) ∧ v.cell? ⟨u3.heap.size, 3, none⟩ = some (.int .i64 t_x.cl) := (toState_ans p0 u6.drew (show p0.ok u6.drew from stt_grew k_p0 hB.drew) n_p0 n2_p0).mono (by rintro e v ⟨t, h1, h2, h3, h4⟩; have h5 : Below u6.heap.size u6 v := ((Below.refl _ u6).drew).trans h2; have b := b_x.grew h5; exact ⟨t, h1, h5, h3, h4, o_x.grew h5, b.cell 0, b.cell 1, b.cell 2, b.cell 3⟩)
    have c_x_0 := b_x.cell 0
    have c_x_1 := b_x.cell 1
    have c_x_2 := b_x.cell 2
    have c_x_3 := b_x.cell 3
    have c_p0_0 := b_p0.cell 0
    have c_p0_1 := b_p0.cell 1
    have c_p0_2 := b_p0.cell 2
    have c_p0_3 := b_p0.cell 3
    simp at c_x_0 c_x_1 c_x_2 c_x_3 c_p0_0 c_p0_1 c_p0_2 c_p0_3
    go_region_with_o (first | (go_at_call 10; refine tb.mono ?_; rintro e v1 ⟨t1, rfl, hb1, ot, et, ox, r0, r1, r2, r3⟩) | (go_at_call 13; refine (eqState_alike t_x t1 p0 _ ox ot e_x et (by omega) (by omega)).mono ?_; rintro e v2 ⟨rfl, hb2⟩))
    all_goals exact ⟨t1, rfl, below_app hb1 hb2 hb1.size⟩
  rintro t_ u7 hb
  simp only [puts, List.foldl, Act.put, List.setIfInBounds_toArray, List.set_cons_zero, List.set_cons_succ]
  replace o_x := o_x.grew hb
  replace b_p0 := b_p0.grew hb
  replace b_v1 := b_v1.grew hb
  replace b_qw := b_qw.grew hb
  replace b_x := b_x.grew hb
  replace b_qg := b_qg.grew hb
  replace hB := below_app hB hb hB.size
  clear hb
  go_wp2
  go_ret
  exact ⟨rfl, below_app hBw hB hsz⟩

set_option maxRecDepth 100000 in
theorem lifted (os : Os) (started : os.Started) (H : Type) (enc : TypeId × Value → H) :
    ReturnsInHanded {} Try.checked os 6 .any (Rows.fnExactSourceSpec.pre6 enc Try.prog Try.f6 Rows.fnExactSourceRow.domain false) (Rows.fnExactSourceSpec.post enc Try.prog Try.f6 false true false false) := by
  refine returnsInHanded_of_change (C := Try.checked) own started (by kernel_rfl) Try.func6
    (ChangeSpec.witness6 (enc := enc) (C := Try.checked) false ⟨#[], #[.agg #[.slice none 0 0, .slice none 0 0, .int .i64 0, .int .i64 0], .agg #[.int .i64 0, .int .i64 0, .int .i64 0, .int .i64 0, .int .i64 0, .int .i64 0, .bool false]], []⟩ 8 (by kernel_rfl) (by kernel_rfl) (by kernel_rfl) (by kernel_rfl)) ?_
  intro W base args ds gs before hval0 hW hcnd _
  have hval : ∀ (j : Nat) t v, Try.f6.params[j]? = some t → args[j]? = some v → Value.okWide Try.prog W .any base t v := hval0
  have hW' := hW
  obtain ⟨p, q, hA0, hV, rfl, hfz, hnd⟩ := hW
  have hA : DataW.TrodAll enc Try.prog W 0 (fun _ => true) true Try.f6.params.toList args.toList ds p := hA0
  rw [Try.params6] at hA hval
  obtain ⟨v0, vs0, d0, ds0, p0', q0, hargs, rfl, rfl, h0, r0⟩ := trodAll_cons hA
  obtain ⟨v1, vs1, d1, ds1, p1', q1, rfl, rfl, rfl, h1, r1⟩ := trodAll_cons r0
  obtain ⟨rfl, rfl, rfl⟩ := trodAll_nil r1
  obtain rfl : args = #[v0, v1] := by cases args; simp_all
  obtain ⟨rfl, rfl⟩ := trodVars_none hV
  have k0 := h0
  have lt0 : ∀ x ∈ p0', x.block < W.heap.size := by obtain ⟨m, hm⟩ := k0; exact DataW.trod_lt m _ _ _ hm
  obtain ⟨p0, rfl, w0⟩ := open_state (hval 0 25 v0 rfl rfl) h0
  have k1 := h1
  have lt1 : ∀ x ∈ p1', x.block < W.heap.size := by obtain ⟨m, hm⟩ := k1; exact DataW.trod_lt m _ _ _ hm
  obtain ⟨p1, rfl, w1⟩ := open_event (hval 1 44 v1 rfl rfl) h1
  clear hA0 hval0
  refine (walk p0 p1 W w0 w1).mono fun e W' ⟨he, bel⟩ => ?_
  subst he
  exact ⟨_, rfl, _, _, _, [], _, [], hW', trodAll_mk1 (shut_bool Try.underlying4 _), (trodAll_cons_mk (Below.trod laidOut (by kernel_rfl) (of_decide_eq_true (by kernel_rfl)) k0 bel lt0) (trodAll_cons_mk (Below.trod laidOut (by kernel_rfl) (of_decide_eq_true (by kernel_rfl)) k1 bel lt1) trodAll_mk0)), rfl, bel.frame _, fun h => by cases h⟩

theorem over : Rows.fnExactSourceRow.holds Try.pinned (OpenSpec.ofChange Rows.fnExactSourceSpec) :=
  OpenClaim.holds_of_wide 6 Try.f6 rfl rfl rfl rfl rfl rfl rfl ⟨rfl, rfl, rfl, rfl, rfl⟩ rfl rfl rfl rfl rfl (by kernel_rfl) Try.func6 (by kernel_rfl)
    (of_decide_eq_true (by kernel_rfl)) (by unfold Func.isWrapper; first | (rw [if_pos (by decide +kernel)]; kernel_rfl) | (rw [if_neg (by decide +kernel)]; exact ⟨rfl, rfl⟩))
    (fun os started H enc _ => lifted os started H enc)

theorem proved : Rows.FnExactSourceSaid := over
#print axioms proved
end Go.Proofs.Ytjpimkolkhbflap.fnExactSource
