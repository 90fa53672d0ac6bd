/-
  What is proved: at every effect and thing, the law FnExactNear answers true: the program's and the specification's answer alike, and the arguments read afterwards as before; no condition.
-/
import Derived.Test.YthemmhocnkpcjatRows
import Derived.Test.YthemmhocnkpcjatRegCut
import Derived.Test.YthemmhocnkpcjatCur
import Derived.Test.YthemmhocnkpcjatPiece
import Derived.Test.YthemmhocnkpcjatRow
import Derived.Test.YthemmhocnkpcjatPiece2
import Derived.Test.YthemmhocnkpcjatState1
import Derived.Test.YthemmhocnkpcjatRowLaw
import Derived.Test.YthemmhocnkpcjatState2
import Derived.Test.YthemmhocnkpcjatState3
import Derived.Test.YthemmhocnkpcjatSeg
import Derived.Test.YthemmhocnkpcjatRegTail
import Derived.Test.YthemmhocnkpcjatRegBelow
import Derived.Test.YthemmhocnkpcjatNum
import Derived.Test.YthemmhocnkpcjatPiece3
import Derived.Test.YthemmhocnkpcjatState4
import Derived.Test.YthemmhocnkpcjatState5
import Derived.Test.YthemmhocnkpcjatStMark
import Derived.Test.YthemmhocnkpcjatPieceOk
import Derived.Test.YthemmhocnkpcjatState6
import Derived.Test.YthemmhocnkpcjatStHeld
import Derived.Test.YthemmhocnkpcjatStEq
import Derived.Test.YthemmhocnkpcjatStSame
import Derived.Test.YthemmhocnkpcjatStLaw
import Derived.Test.YthemmhocnkpcjatEvA
import Derived.Test.YthemmhocnkpcjatEvN
import Derived.Test.YthemmhocnkpcjatAcR
import Derived.Test.YthemmhocnkpcjatAcA
import Derived.Test.YthemmhocnkpcjatPaA
import Derived.Test.YthemmhocnkpcjatGuA
import Derived.Test.YthemmhocnkpcjatEfA
import Derived.Test.YthemmhocnkpcjatEfB
import Derived.Test.YthemmhocnkpcjatEfC
import Derived.Test.YthemmhocnkpcjatEvW
import Derived.Test.YthemmhocnkpcjatEvB1
import Derived.Test.YthemmhocnkpcjatEvB2
import Derived.Test.YthemmhocnkpcjatEvB
import Derived.Test.YthemmhocnkpcjatAcB
import Derived.Test.YthemmhocnkpcjatAcD
import Derived.Test.YthemmhocnkpcjatPaB
import Derived.Test.YthemmhocnkpcjatGuB
import Derived.Test.YthemmhocnkpcjatEfD
import Derived.Test.YthemmhocnkpcjatBytes
import Derived.Test.YthemmhocnkpcjatState8
import Derived.Test.YthemmhocnkpcjatStAt
import Derived.Test.YthemmhocnkpcjatAcC
import Derived.Test.YthemmhocnkpcjatEfE
import Derived.Test.YthemmhocnkpcjatAcL
import Derived.Test.YthemmhocnkpcjatEfL
import Derived.Test.YthemmhocnkpcjatPieceI1
import Derived.Test.YthemmhocnkpcjatEvC
import Derived.Test.YthemmhocnkpcjatEfP
import Derived.Test.YthemmhocnkpcjatEfN
import Derived.Test.YthemmhocnkpcjatEfRn
import Derived.WalkKit
import Derived.Deep.RegionHeld
import Derived.Deep.RegionHeldLaw
import Derived.Deep.MidRow
import Derived.ProofKit
import Derived.OpenShut
import Derived.ShutString
import Derived.ChangeOld
import Derived.Below
namespace Go.Proofs.Ythemmhocnkpcjat.fnExactNear
open Go.ChangeShapes Go.WideShapes Go.ChangeAt Go.RowKit
set_option linter.unusedVariables false

theorem own : ownKnob Try.prog.godebug = none := by kernel_rfl
theorem laidOut : laidOutB Try.prog = true := by kernel_rfl

def IsRow (k : IntKind) (w : World) (a : Option Addr) (len cap : Nat) (zs : List Int) : Prop :=
  (a = none ∧ len = 0 ∧ cap = 0 ∧ zs = []) ∨
  ∃ x, a = some x ∧ len ≤ cap ∧ cap ≤ maxLen ∧ zs.length = cap ∧ (∀ i, i < zs.length → w.cell? (x.add i) = some (.int k (zs.getD i 0))) ∧ ∀ n ∈ zs, (Lit.int k n).wf = true

set_option maxHeartbeats 2000000 in
theorem BoxR.range {w : World} {g t : Nat} {cs : Array Value} (h : BoxR w g t cs) : w.rangeAt g 0 cs.toList := fun j v hv => by
  have hc := cell_of_row w g (0 + j) cs t (0, 0) h
  rw [hc]
  simpa using hv
set_option linter.unusedSimpArgs false in
set_option maxRecDepth 100000 in
set_option maxHeartbeats 4000000 in
theorem walk (p0 : Ef) (p1 : Ev) (w : World) (w0 : p0.ok w) (w1 : p1.wf) :
    Calls Try.prog 3 #[.agg #[.int .i64 p0.id, .int .i64 p0.si, .int .i64 p0.sr, .int .i64 p0.cl, .int .i64 p0.pt.kd, .int .i64 p0.pt.wh, .int .i64 p0.pt.sr, .int .i64 p0.pt.tr, .int .i64 p0.pt.pi, .int .i64 p0.pt.le, .int .i64 p0.pt.zo, .int .i64 p0.gd.kd, .int .i64 p0.gd.nn, .int .i64 p0.ac.kd, .int .i64 p0.ac.nn, .int .i64 p0.ac.pi, .int .i64 p0.ac.si, .int .i64 p0.ac.zo, .bool p0.ac.be, .slice p0.ac.la p0.ac.ln p0.ac.lcap, .int .i64 p0.un, .int .i64 p0.le], .agg #[.int .i64 p1.kd, .int .i64 p1.sr, .int .i64 p1.pi, .int .i64 p1.si, .int .i64 p1.nn, .int .i64 p1.zo, .bool p1.be]] w fun e w' => e = .returned (.bool true) ∧ Below w.heap.size w w' := by
  have m_ : Try.prog.follows Departure.mixedOrders = true := by kernel_rfl
  have hBw := ((Below.refl _ w).alloc (Nat.le_refl _) (.cells #[.int .i64 p0.id, .int .i64 p0.si, .int .i64 p0.sr, .int .i64 p0.cl, .int .i64 p0.pt.kd, .int .i64 p0.pt.wh, .int .i64 p0.pt.sr, .int .i64 p0.pt.tr, .int .i64 p0.pt.pi, .int .i64 p0.pt.le, .int .i64 p0.pt.zo, .int .i64 p0.gd.kd, .int .i64 p0.gd.nn, .int .i64 p0.ac.kd, .int .i64 p0.ac.nn, .int .i64 p0.ac.pi, .int .i64 p0.ac.si, .int .i64 p0.ac.zo, .bool p0.ac.be, .slice p0.ac.la p0.ac.ln p0.ac.lcap, .int .i64 p0.un, .int .i64 p0.le] 30)).alloc (by simp) (.cells #[.int .i64 p1.kd, .int .i64 p1.sr, .int .i64 p1.pi, .int .i64 p1.si, .int .i64 p1.nn, .int .i64 p1.zo, .bool p1.be] 32)
  have b_c0 := (boxR_new w 30 #[.int .i64 p0.id, .int .i64 p0.si, .int .i64 p0.sr, .int .i64 p0.cl, .int .i64 p0.pt.kd, .int .i64 p0.pt.wh, .int .i64 p0.pt.sr, .int .i64 p0.pt.tr, .int .i64 p0.pt.pi, .int .i64 p0.pt.le, .int .i64 p0.pt.zo, .int .i64 p0.gd.kd, .int .i64 p0.gd.nn, .int .i64 p0.ac.kd, .int .i64 p0.ac.nn, .int .i64 p0.ac.pi, .int .i64 p0.ac.si, .int .i64 p0.ac.zo, .bool p0.ac.be, .slice p0.ac.la p0.ac.ln p0.ac.lcap, .int .i64 p0.un, .int .i64 p0.le]).alloc (.cells #[.int .i64 p1.kd, .int .i64 p1.sr, .int .i64 p1.pi, .int .i64 p1.si, .int .i64 p1.nn, .int .i64 p1.zo, .bool p1.be] 32)
  have b_v1 : BoxR ((w.alloc (.cells #[.int .i64 p0.id, .int .i64 p0.si, .int .i64 p0.sr, .int .i64 p0.cl, .int .i64 p0.pt.kd, .int .i64 p0.pt.wh, .int .i64 p0.pt.sr, .int .i64 p0.pt.tr, .int .i64 p0.pt.pi, .int .i64 p0.pt.le, .int .i64 p0.pt.zo, .int .i64 p0.gd.kd, .int .i64 p0.gd.nn, .int .i64 p0.ac.kd, .int .i64 p0.ac.nn, .int .i64 p0.ac.pi, .int .i64 p0.ac.si, .int .i64 p0.ac.zo, .bool p0.ac.be, .slice p0.ac.la p0.ac.ln p0.ac.lcap, .int .i64 p0.un, .int .i64 p0.le] 30)).alloc (.cells #[.int .i64 p1.kd, .int .i64 p1.sr, .int .i64 p1.pi, .int .i64 p1.si, .int .i64 p1.nn, .int .i64 p1.zo, .bool p1.be] 32)) (w.heap.size + 1) 32 #[.int .i64 p1.kd, .int .i64 p1.sr, .int .i64 p1.pi, .int .i64 p1.si, .int .i64 p1.nn, .int .i64 p1.zo, .bool p1.be] := heap_alloc2_new _ _ _
  generalize hW : (w.alloc (.cells #[.int .i64 p0.id, .int .i64 p0.si, .int .i64 p0.sr, .int .i64 p0.cl, .int .i64 p0.pt.kd, .int .i64 p0.pt.wh, .int .i64 p0.pt.sr, .int .i64 p0.pt.tr, .int .i64 p0.pt.pi, .int .i64 p0.pt.le, .int .i64 p0.pt.zo, .int .i64 p0.gd.kd, .int .i64 p0.gd.nn, .int .i64 p0.ac.kd, .int .i64 p0.ac.nn, .int .i64 p0.ac.pi, .int .i64 p0.ac.si, .int .i64 p0.ac.zo, .bool p0.ac.be, .slice p0.ac.la p0.ac.ln p0.ac.lcap, .int .i64 p0.un, .int .i64 p0.le] 30)).alloc (.cells #[.int .i64 p1.kd, .int .i64 p1.sr, .int .i64 p1.pi, .int .i64 p1.si, .int .i64 p1.nn, .int .i64 p1.zo, .bool p1.be] 32) = W at hBw b_c0 b_v1
  have hsz : w.heap.size ≤ W.heap.size := hBw.size
  have k_c0 := ef_grew w0 hBw
  have hB := Below.refl W.heap.size W
  have hmx : p0.ac.ln ≤ 9223372036854775807 := by have := k_c0.1.1; have := k_c0.1.2.1; unfold maxLen at *; omega
  by_cases z : (1048576 : Int) - (p0.ac.ln : Int) < 0
  · have Z : Hid (szN p0.ac.ln 1048576 = -1) := by show szN p0.ac.ln 1048576 = -1; unfold szN; rw [if_pos z]
    go_enter Try.func3, Try.ntmps3
    go_wp2_with (first | (refine wpList_load_row rfl 30 _ rfl (w.heap.size) (by rfl) _ _ _ _ b_c0 Try.underlying30 rfl (by kernel_rfl) ?_))
    refine (szEffect_any p0 1048576 _ hmx (by omega)).mono ?_
    rintro e y1_ ⟨rfl, hb⟩
    try clear hW
    as_aux_lemma =>
      replace b_v1 := b_v1.grew hb
      replace b_c0 := b_c0.grew hb
      replace hB := below_app hB hb hB.size
      clear hb
      rw [Z.out]
      go_wp2
      go_ret
      exact ⟨rfl, below_app hBw hB hsz⟩
  have n_c0 : p0.ac.ln ≤ 1048576 := by omega
  have Y : Hid (szN p0.ac.ln 1048576 = 1048576 - (p0.ac.ln : Int)) := by show szN p0.ac.ln 1048576 = _; unfold szN; rw [if_neg z]
  have y0 : 0 ≤ 1048576 - (p0.ac.ln : Int) := by omega
  clear z
  go_enter Try.func3, Try.ntmps3
  go_wp2_with (first | (refine wpList_load_row rfl 30 _ rfl (w.heap.size) (by rfl) _ _ _ _ b_c0 Try.underlying30 rfl (by kernel_rfl) ?_))
  refine (szEffect_any p0 1048576 _ hmx (by omega)).mono ?_
  rintro e y1_ ⟨rfl, hb⟩
  try clear hW
  as_aux_lemma =>
    replace b_v1 := b_v1.grew hb
    replace b_c0 := b_c0.grew hb
    replace hB := below_app hB hb hB.size
    clear hb
    rw [Y.out]
    clear hmx
    go_wp2_with fail
    refine wp_cutT (fun t : Ef => [(14, (.agg #[.int .i64 p0.id, .int .i64 p0.si, .int .i64 p0.sr, .int .i64 p0.cl, .int .i64 p0.pt.kd, .int .i64 p0.pt.wh, .int .i64 p0.pt.sr, .int .i64 p0.pt.tr, .int .i64 p0.pt.pi, .int .i64 p0.pt.le, .int .i64 p0.pt.zo, .int .i64 p0.gd.kd, .int .i64 p0.gd.nn, .int .i64 p0.ac.kd, .int .i64 p0.ac.nn, .int .i64 p0.ac.pi, .int .i64 p0.ac.si, .int .i64 p0.ac.zo, .bool p0.ac.be, .slice p0.ac.la p0.ac.ln p0.ac.lcap, .int .i64 p0.un, .int .i64 p0.le])), (15, (.agg #[.int .i64 t.id, .int .i64 t.si, .int .i64 t.sr, .int .i64 t.cl, .int .i64 t.pt.kd, .int .i64 t.pt.wh, .int .i64 t.pt.sr, .int .i64 t.pt.tr, .int .i64 t.pt.pi, .int .i64 t.pt.le, .int .i64 t.pt.zo, .int .i64 t.gd.kd, .int .i64 t.gd.nn, .int .i64 t.ac.kd, .int .i64 t.ac.nn, .int .i64 t.ac.pi, .int .i64 t.ac.si, .int .i64 t.ac.zo, .bool t.ac.be, .slice t.ac.la t.ac.ln t.ac.lcap, .int .i64 t.un, .int .i64 t.le])), (16, (.agg #[.int .i64 p1.kd, .int .i64 p1.sr, .int .i64 p1.pi, .int .i64 p1.si, .int .i64 p1.nn, .int .i64 p1.zo, .bool p1.be])), (17, (.agg #[.int .i64 p1.kd, .int .i64 p1.sr, .int .i64 p1.pi, .int .i64 p1.si, .int .i64 p1.nn, .int .i64 p1.zo, .bool p1.be])), (18, .bool (nrE p0 p1)), (6, .bool (nrE p0 p1))]) (fun _ u => Below y1_.heap.size y1_ u) ?_ ?_
    · have hq0 : Below y1_.heap.size y1_ y1_.drew := (Below.refl _ y1_).drew
      refine wp_region_held_drew (S := fun u : World => BoxR u (w.heap.size) 30 #[.int .i64 p0.id, .int .i64 p0.si, .int .i64 p0.sr, .int .i64 p0.cl, .int .i64 p0.pt.kd, .int .i64 p0.pt.wh, .int .i64 p0.pt.sr, .int .i64 p0.pt.tr, .int .i64 p0.pt.pi, .int .i64 p0.pt.le, .int .i64 p0.pt.zo, .int .i64 p0.gd.kd, .int .i64 p0.gd.nn, .int .i64 p0.ac.kd, .int .i64 p0.ac.nn, .int .i64 p0.ac.pi, .int .i64 p0.ac.si, .int .i64 p0.ac.zo, .bool p0.ac.be, .slice p0.ac.la p0.ac.ln p0.ac.lcap, .int .i64 p0.un, .int .i64 p0.le] ∧ BoxR u (w.heap.size + 1) 32 #[.int .i64 p1.kd, .int .i64 p1.sr, .int .i64 p1.pi, .int .i64 p1.si, .int .i64 p1.nn, .int .i64 p1.zo, .bool p1.be]) (by kernel_rfl) ⟨b_c0.grew hq0, b_v1.grew hq0⟩ (fun hHeld => ?_)
      refine wpAnyH_take (i := 0) (v := .agg #[.int .i64 p0.id, .int .i64 p0.si, .int .i64 p0.sr, .int .i64 p0.cl, .int .i64 p0.pt.kd, .int .i64 p0.pt.wh, .int .i64 p0.pt.sr, .int .i64 p0.pt.tr, .int .i64 p0.pt.pi, .int .i64 p0.pt.le, .int .i64 p0.pt.zo, .int .i64 p0.gd.kd, .int .i64 p0.gd.nn, .int .i64 p0.ac.kd, .int .i64 p0.ac.nn, .int .i64 p0.ac.pi, .int .i64 p0.ac.si, .int .i64 p0.ac.zo, .bool p0.ac.be, .slice p0.ac.la p0.ac.ln p0.ac.lcap, .int .i64 p0.un, .int .i64 p0.le]) rfl (by kernel_rfl) (by kernel_rfl) (by kernel_rfl) (fun _ _ _ h => h) (yieldsIf_load_mid (by rfl) 30 (.tmp 2) rfl (w.heap.size) 0 (by rfl) (#[.int .i64 p0.id, .int .i64 p0.si, .int .i64 p0.sr, .int .i64 p0.cl, .int .i64 p0.pt.kd, .int .i64 p0.pt.wh, .int .i64 p0.pt.sr, .int .i64 p0.pt.tr, .int .i64 p0.pt.pi, .int .i64 p0.pt.le, .int .i64 p0.pt.zo, .int .i64 p0.gd.kd, .int .i64 p0.gd.nn, .int .i64 p0.ac.kd, .int .i64 p0.ac.nn, .int .i64 p0.ac.pi, .int .i64 p0.ac.si, .int .i64 p0.ac.zo, .bool p0.ac.be, .slice p0.ac.la p0.ac.ln p0.ac.lcap, .int .i64 p0.un, .int .i64 p0.le] : Array Value).toList _ (fun u hu => BoxR.range hu.1) Try.underlying30 rfl (by kernel_rfl)) hHeld ?_
      try simp only [Act.put, List.setIfInBounds_toArray, List.set_cons_zero, List.set_cons_succ]
      refine wpAnyH_take (i := 2) (v := .agg #[.int .i64 p1.kd, .int .i64 p1.sr, .int .i64 p1.pi, .int .i64 p1.si, .int .i64 p1.nn, .int .i64 p1.zo, .bool p1.be]) rfl (by kernel_rfl) (by kernel_rfl) (by kernel_rfl) (fun _ _ _ h => h) (yieldsIf_load_mid (by rfl) 32 (.tmp 3) rfl (w.heap.size + 1) 0 (by rfl) (#[.int .i64 p1.kd, .int .i64 p1.sr, .int .i64 p1.pi, .int .i64 p1.si, .int .i64 p1.nn, .int .i64 p1.zo, .bool p1.be] : Array Value).toList _ (fun u hu => BoxR.range hu.2) Try.underlying32 rfl (by kernel_rfl)) hHeld ?_
      try simp only [Act.put, List.setIfInBounds_toArray, List.set_cons_zero, List.set_cons_succ]
      refine wpAnyH_ready (rs := [1]) (by kernel_rfl) (by simp) ?_
      refine AllReadyH.cons rfl (fun K' hK => ?_) AllReadyH.nil
      go_simp
      go_at_call 6
      refine (toEffect_ans p0 _ (ef_grew k_c0 (below_app hB hq0 hB.size)) n_c0).mono ?_
      rintro e v1 ⟨t1, rfl, hb1, ot, et⟩
      have hq1 := below_app hq0 hb1 hq0.size
      refine hK.out _ _ ⟨b_c0.grew hq1, b_v1.grew hq1⟩ (fun hHeld => ?_)
      clear hK
      try simp only [Act.put, List.setIfInBounds_toArray, List.set_cons_zero, List.set_cons_succ]
      refine wpAnyH_ready (rs := [3]) (by kernel_rfl) (by simp) ?_
      refine AllReadyH.cons rfl (fun K' hK => ?_) AllReadyH.nil
      go_simp
      go_at_call 7
      refine (toEvent_any p1 _).mono ?_
      rintro e v2 ⟨rfl, hb2⟩
      have hq2 := below_app hq1 hb2 hq1.size
      refine hK.out _ _ ⟨b_c0.grew hq2, b_v1.grew hq2⟩ (fun hHeld => ?_)
      clear hK
      try simp only [Act.put, List.setIfInBounds_toArray, List.set_cons_zero, List.set_cons_succ]
      refine wpAnyH_ready (rs := [4]) (by kernel_rfl) (by simp) ?_
      refine AllReadyH.cons rfl (fun K' hK => ?_) AllReadyH.nil
      go_simp
      go_at_call 5
      refine (specNear_al p1 (OwnF.grew ot hb2) et k_c0 n_c0).mono ?_
      rintro e v3 ⟨rfl, hb3⟩
      have hq3 := below_app hq2 hb3 hq2.size
      refine hK.out _ _ ⟨b_c0.grew hq3, b_v1.grew hq3⟩ (fun hHeld => ?_)
      clear hK
      try simp only [Act.put, List.setIfInBounds_toArray, List.set_cons_zero, List.set_cons_succ]
      refine wpAnyH_take (i := 5) (oi := ⟨some 6, .assign (.tmp 18), 4, _, _, none⟩) (v := .bool (nrE p0 p1)) rfl (by kernel_rfl) (by kernel_rfl) (by kernel_rfl) (fun _ _ _ h => h) (Or.inl ⟨by rfl, fun u hSu => by go_simp⟩) hHeld ?_
      try simp only [Act.put, List.setIfInBounds_toArray, List.set_cons_zero, List.set_cons_succ]
      refine wpAnyH_done (by kernel_rfl) ?_ _
      exact ⟨t1, rfl, hq3⟩
    rintro t_ y2_ hb
    simp only [puts, List.foldl, Act.put, List.setIfInBounds_toArray, List.set_cons_zero, List.set_cons_succ]
    as_aux_lemma =>
      replace b_v1 := b_v1.grew hb
      replace b_c0 := b_c0.grew hb
      replace hB := below_app hB hb hB.size
      clear hb
      go_wp2_with (first | (refine wpList_load_row rfl 30 _ rfl (w.heap.size) (by rfl) _ _ _ _ b_c0 Try.underlying30 rfl (by kernel_rfl) ?_))
      refine (toEffect_ans p0 _ (ef_grew k_c0 hB) n_c0).mono ?_
      rintro e y3_ ⟨t_x, rfl, hb, o_x, e_x⟩
      as_aux_lemma =>
        replace b_v1 := b_v1.grew hb
        replace b_c0 := b_c0.grew hb
        replace hB := below_app hB hb hB.size
        clear hb
        have zx := boxR_new y3_ 41 #[.int .i64 0, .int .i64 0, .int .i64 0, .int .i64 0, .int .i64 0, .int .i64 0, .int .i64 0, .int .i64 0, .int .i64 0, .int .i64 0, .int .i64 0, .int .i64 0, .int .i64 0, .int .i64 0, .int .i64 0, .int .i64 0, .int .i64 0, .int .i64 0, .bool false, .slice none 0 0, .int .i64 0, .int .i64 0]
        have hb := below_setRow ((Below.refl _ y3_).alloc (Nat.le_refl _) (.cells #[.int .i64 0, .int .i64 0, .int .i64 0, .int .i64 0, .int .i64 0, .int .i64 0, .int .i64 0, .int .i64 0, .int .i64 0, .int .i64 0, .int .i64 0, .int .i64 0, .int .i64 0, .int .i64 0, .int .i64 0, .int .i64 0, .int .i64 0, .int .i64 0, .bool false, .slice none 0 0, .int .i64 0, .int .i64 0] 41)) (Nat.le_refl _) #[.int .i64 t_x.id, .int .i64 t_x.si, .int .i64 t_x.sr, .int .i64 t_x.cl, .int .i64 t_x.pt.kd, .int .i64 t_x.pt.wh, .int .i64 t_x.pt.sr, .int .i64 t_x.pt.tr, .int .i64 t_x.pt.pi, .int .i64 t_x.pt.le, .int .i64 t_x.pt.zo, .int .i64 t_x.gd.kd, .int .i64 t_x.gd.nn, .int .i64 t_x.ac.kd, .int .i64 t_x.ac.nn, .int .i64 t_x.ac.pi, .int .i64 t_x.ac.si, .int .i64 t_x.ac.zo, .bool t_x.ac.be, .slice t_x.ac.la t_x.ac.ln t_x.ac.lcap, .int .i64 t_x.un, .int .i64 t_x.le]
        have b_x : BoxR ((y3_.alloc (.cells #[.int .i64 0, .int .i64 0, .int .i64 0, .int .i64 0, .int .i64 0, .int .i64 0, .int .i64 0, .int .i64 0, .int .i64 0, .int .i64 0, .int .i64 0, .int .i64 0, .int .i64 0, .int .i64 0, .int .i64 0, .int .i64 0, .int .i64 0, .int .i64 0, .bool false, .slice none 0 0, .int .i64 0, .int .i64 0] 41)).setRow y3_.heap.size #[.int .i64 t_x.id, .int .i64 t_x.si, .int .i64 t_x.sr, .int .i64 t_x.cl, .int .i64 t_x.pt.kd, .int .i64 t_x.pt.wh, .int .i64 t_x.pt.sr, .int .i64 t_x.pt.tr, .int .i64 t_x.pt.pi, .int .i64 t_x.pt.le, .int .i64 t_x.pt.zo, .int .i64 t_x.gd.kd, .int .i64 t_x.gd.nn, .int .i64 t_x.ac.kd, .int .i64 t_x.ac.nn, .int .i64 t_x.ac.pi, .int .i64 t_x.ac.si, .int .i64 t_x.ac.zo, .bool t_x.ac.be, .slice t_x.ac.la t_x.ac.ln t_x.ac.lcap, .int .i64 t_x.un, .int .i64 t_x.le]) y3_.heap.size 41 #[.int .i64 t_x.id, .int .i64 t_x.si, .int .i64 t_x.sr, .int .i64 t_x.cl, .int .i64 t_x.pt.kd, .int .i64 t_x.pt.wh, .int .i64 t_x.pt.sr, .int .i64 t_x.pt.tr, .int .i64 t_x.pt.pi, .int .i64 t_x.pt.le, .int .i64 t_x.pt.zo, .int .i64 t_x.gd.kd, .int .i64 t_x.gd.nn, .int .i64 t_x.ac.kd, .int .i64 t_x.ac.nn, .int .i64 t_x.ac.pi, .int .i64 t_x.ac.si, .int .i64 t_x.ac.zo, .bool t_x.ac.be, .slice t_x.ac.la t_x.ac.ln t_x.ac.lcap, .int .i64 t_x.un, .int .i64 t_x.le] := setRow_heap _ _ _ _ _ _ zx
        generalize hVx : (y3_.alloc (.cells #[.int .i64 0, .int .i64 0, .int .i64 0, .int .i64 0, .int .i64 0, .int .i64 0, .int .i64 0, .int .i64 0, .int .i64 0, .int .i64 0, .int .i64 0, .int .i64 0, .int .i64 0, .int .i64 0, .int .i64 0, .int .i64 0, .int .i64 0, .int .i64 0, .bool false, .slice none 0 0, .int .i64 0, .int .i64 0] 41)).setRow y3_.heap.size #[.int .i64 t_x.id, .int .i64 t_x.si, .int .i64 t_x.sr, .int .i64 t_x.cl, .int .i64 t_x.pt.kd, .int .i64 t_x.pt.wh, .int .i64 t_x.pt.sr, .int .i64 t_x.pt.tr, .int .i64 t_x.pt.pi, .int .i64 t_x.pt.le, .int .i64 t_x.pt.zo, .int .i64 t_x.gd.kd, .int .i64 t_x.gd.nn, .int .i64 t_x.ac.kd, .int .i64 t_x.ac.nn, .int .i64 t_x.ac.pi, .int .i64 t_x.ac.si, .int .i64 t_x.ac.zo, .bool t_x.ac.be, .slice t_x.ac.la t_x.ac.ln t_x.ac.lcap, .int .i64 t_x.un, .int .i64 t_x.le] = y4_ at hb b_x
        replace o_x := o_x.grew hb
        replace b_v1 := b_v1.grew hb
        replace b_c0 := b_c0.grew hb
        replace hB := below_app hB hb hB.size
        clear hb
        go_wp2_with (refine wpList_store_row rfl 41 (.tmp 7) _ rfl (y3_.heap.size) #[.int .i64 t_x.id, .int .i64 t_x.si, .int .i64 t_x.sr, .int .i64 t_x.cl, .int .i64 t_x.pt.kd, .int .i64 t_x.pt.wh, .int .i64 t_x.pt.sr, .int .i64 t_x.pt.tr, .int .i64 t_x.pt.pi, .int .i64 t_x.pt.le, .int .i64 t_x.pt.zo, .int .i64 t_x.gd.kd, .int .i64 t_x.gd.nn, .int .i64 t_x.ac.kd, .int .i64 t_x.ac.nn, .int .i64 t_x.ac.pi, .int .i64 t_x.ac.si, .int .i64 t_x.ac.zo, .bool t_x.ac.be, .slice t_x.ac.la t_x.ac.ln t_x.ac.lcap, .int .i64 t_x.un, .int .i64 t_x.le] (by rfl) (by rfl) _ _ zx (by kernel_rfl) (by rfl) (by simp [Value.oneCell']) ?_; rw [hVx])
        clear zx hVx
        refine wp_cutT (fun t : Ef => [(21, (.agg #[.int .i64 t_x.id, .int .i64 t_x.si, .int .i64 t_x.sr, .int .i64 t_x.cl, .int .i64 t_x.pt.kd, .int .i64 t_x.pt.wh, .int .i64 t_x.pt.sr, .int .i64 t_x.pt.tr, .int .i64 t_x.pt.pi, .int .i64 t_x.pt.le, .int .i64 t_x.pt.zo, .int .i64 t_x.gd.kd, .int .i64 t_x.gd.nn, .int .i64 t_x.ac.kd, .int .i64 t_x.ac.nn, .int .i64 t_x.ac.pi, .int .i64 t_x.ac.si, .int .i64 t_x.ac.zo, .bool t_x.ac.be, .slice t_x.ac.la t_x.ac.ln t_x.ac.lcap, .int .i64 t_x.un, .int .i64 t_x.le])), (22, (.agg #[.int .i64 p1.kd, .int .i64 p1.sr, .int .i64 p1.pi, .int .i64 p1.si, .int .i64 p1.nn, .int .i64 p1.zo, .bool p1.be])), (23, (.agg #[.int .i64 p1.kd, .int .i64 p1.sr, .int .i64 p1.pi, .int .i64 p1.si, .int .i64 p1.nn, .int .i64 p1.zo, .bool p1.be])), (24, .bool (nrE p0 p1)), (8, .bool (nrE p0 p1))]) (fun _ u => Below y4_.heap.size y4_ u) ?_ ?_
        · have hq0 : Below y4_.heap.size y4_ y4_.drew := (Below.refl _ y4_).drew
          refine wp_region_held_drew (S := fun u : World => BoxR u (y3_.heap.size) 41 #[.int .i64 t_x.id, .int .i64 t_x.si, .int .i64 t_x.sr, .int .i64 t_x.cl, .int .i64 t_x.pt.kd, .int .i64 t_x.pt.wh, .int .i64 t_x.pt.sr, .int .i64 t_x.pt.tr, .int .i64 t_x.pt.pi, .int .i64 t_x.pt.le, .int .i64 t_x.pt.zo, .int .i64 t_x.gd.kd, .int .i64 t_x.gd.nn, .int .i64 t_x.ac.kd, .int .i64 t_x.ac.nn, .int .i64 t_x.ac.pi, .int .i64 t_x.ac.si, .int .i64 t_x.ac.zo, .bool t_x.ac.be, .slice t_x.ac.la t_x.ac.ln t_x.ac.lcap, .int .i64 t_x.un, .int .i64 t_x.le] ∧ BoxR u (w.heap.size + 1) 32 #[.int .i64 p1.kd, .int .i64 p1.sr, .int .i64 p1.pi, .int .i64 p1.si, .int .i64 p1.nn, .int .i64 p1.zo, .bool p1.be]) (by kernel_rfl) ⟨b_x.grew hq0, b_v1.grew hq0⟩ (fun hHeld => ?_)
          refine wpAnyH_take (i := 0) (v := .agg #[.int .i64 t_x.id, .int .i64 t_x.si, .int .i64 t_x.sr, .int .i64 t_x.cl, .int .i64 t_x.pt.kd, .int .i64 t_x.pt.wh, .int .i64 t_x.pt.sr, .int .i64 t_x.pt.tr, .int .i64 t_x.pt.pi, .int .i64 t_x.pt.le, .int .i64 t_x.pt.zo, .int .i64 t_x.gd.kd, .int .i64 t_x.gd.nn, .int .i64 t_x.ac.kd, .int .i64 t_x.ac.nn, .int .i64 t_x.ac.pi, .int .i64 t_x.ac.si, .int .i64 t_x.ac.zo, .bool t_x.ac.be, .slice t_x.ac.la t_x.ac.ln t_x.ac.lcap, .int .i64 t_x.un, .int .i64 t_x.le]) rfl (by kernel_rfl) (by kernel_rfl) (by kernel_rfl) (fun _ _ _ h => h) (yieldsIf_load_mid (by rfl) 41 (.tmp 7) rfl (y3_.heap.size) 0 (by rfl) (#[.int .i64 t_x.id, .int .i64 t_x.si, .int .i64 t_x.sr, .int .i64 t_x.cl, .int .i64 t_x.pt.kd, .int .i64 t_x.pt.wh, .int .i64 t_x.pt.sr, .int .i64 t_x.pt.tr, .int .i64 t_x.pt.pi, .int .i64 t_x.pt.le, .int .i64 t_x.pt.zo, .int .i64 t_x.gd.kd, .int .i64 t_x.gd.nn, .int .i64 t_x.ac.kd, .int .i64 t_x.ac.nn, .int .i64 t_x.ac.pi, .int .i64 t_x.ac.si, .int .i64 t_x.ac.zo, .bool t_x.ac.be, .slice t_x.ac.la t_x.ac.ln t_x.ac.lcap, .int .i64 t_x.un, .int .i64 t_x.le] : Array Value).toList _ (fun u hu => BoxR.range hu.1) Try.underlying41 rfl (by kernel_rfl)) hHeld ?_
          try simp only [Act.put, List.setIfInBounds_toArray, List.set_cons_zero, List.set_cons_succ]
          refine wpAnyH_take (i := 1) (v := .agg #[.int .i64 p1.kd, .int .i64 p1.sr, .int .i64 p1.pi, .int .i64 p1.si, .int .i64 p1.nn, .int .i64 p1.zo, .bool p1.be]) rfl (by kernel_rfl) (by kernel_rfl) (by kernel_rfl) (fun _ _ _ h => h) (yieldsIf_load_mid (by rfl) 32 (.tmp 3) rfl (w.heap.size + 1) 0 (by rfl) (#[.int .i64 p1.kd, .int .i64 p1.sr, .int .i64 p1.pi, .int .i64 p1.si, .int .i64 p1.nn, .int .i64 p1.zo, .bool p1.be] : Array Value).toList _ (fun u hu => BoxR.range hu.2) Try.underlying32 rfl (by kernel_rfl)) hHeld ?_
          try simp only [Act.put, List.setIfInBounds_toArray, List.set_cons_zero, List.set_cons_succ]
          refine wpAnyH_ready (rs := [2]) (by kernel_rfl) (by simp) ?_
          refine AllReadyH.cons rfl (fun K' hK => ?_) AllReadyH.nil
          go_simp
          go_at_call 7
          refine (toEvent_any p1 _).mono ?_
          rintro e v1 ⟨rfl, hb1⟩
          have hq1 := below_app hq0 hb1 hq0.size
          refine hK.out _ _ ⟨b_x.grew hq1, b_v1.grew hq1⟩ (fun hHeld => ?_)
          clear hK
          try simp only [Act.put, List.setIfInBounds_toArray, List.set_cons_zero, List.set_cons_succ]
          refine wpAnyH_ready (rs := [3]) (by kernel_rfl) (by simp) ?_
          refine AllReadyH.cons rfl (fun K' hK => ?_) AllReadyH.nil
          go_simp
          go_at_call 8
          refine (implNear_al p1 (o_x.grew hq1) e_x k_c0 n_c0).mono ?_
          rintro e v2 ⟨rfl, hb2⟩
          have hq2 := below_app hq1 hb2 hq1.size
          refine hK.out _ _ ⟨b_x.grew hq2, b_v1.grew hq2⟩ (fun hHeld => ?_)
          clear hK
          try simp only [Act.put, List.setIfInBounds_toArray, List.set_cons_zero, List.set_cons_succ]
          refine wpAnyH_take (i := 4) (oi := ⟨some 8, .assign (.tmp 24), 4, _, _, none⟩) (v := .bool (nrE p0 p1)) rfl (by kernel_rfl) (by kernel_rfl) (by kernel_rfl) (fun _ _ _ h => h) (Or.inl ⟨by rfl, fun u hSu => by go_simp⟩) hHeld ?_
          try simp only [Act.put, List.setIfInBounds_toArray, List.set_cons_zero, List.set_cons_succ]
          refine wpAnyH_done (by kernel_rfl) ?_ _
          exact ⟨p0, rfl, hq2⟩
        rintro t_ y5_ hb
        simp only [puts, List.foldl, Act.put, List.setIfInBounds_toArray, List.set_cons_zero, List.set_cons_succ]
        as_aux_lemma =>
          replace o_x := o_x.grew hb
          replace b_v1 := b_v1.grew hb
          replace b_c0 := b_c0.grew hb
          replace b_x := b_x.grew hb
          replace hB := below_app hB hb hB.size
          clear hb
          go_wp2_with fail
          refine wp_cutT (fun t : Ef => [(28, (.agg #[.int .i64 t_x.id, .int .i64 t_x.si, .int .i64 t_x.sr, .int .i64 t_x.cl, .int .i64 t_x.pt.kd, .int .i64 t_x.pt.wh, .int .i64 t_x.pt.sr, .int .i64 t_x.pt.tr, .int .i64 t_x.pt.pi, .int .i64 t_x.pt.le, .int .i64 t_x.pt.zo, .int .i64 t_x.gd.kd, .int .i64 t_x.gd.nn, .int .i64 t_x.ac.kd, .int .i64 t_x.ac.nn, .int .i64 t_x.ac.pi, .int .i64 t_x.ac.si, .int .i64 t_x.ac.zo, .bool t_x.ac.be, .slice t_x.ac.la t_x.ac.ln t_x.ac.lcap, .int .i64 t_x.un, .int .i64 t_x.le])), (29, (.agg #[.int .i64 p0.id, .int .i64 p0.si, .int .i64 p0.sr, .int .i64 p0.cl, .int .i64 p0.pt.kd, .int .i64 p0.pt.wh, .int .i64 p0.pt.sr, .int .i64 p0.pt.tr, .int .i64 p0.pt.pi, .int .i64 p0.pt.le, .int .i64 p0.pt.zo, .int .i64 p0.gd.kd, .int .i64 p0.gd.nn, .int .i64 p0.ac.kd, .int .i64 p0.ac.nn, .int .i64 p0.ac.pi, .int .i64 p0.ac.si, .int .i64 p0.ac.zo, .bool p0.ac.be, .slice p0.ac.la p0.ac.ln p0.ac.lcap, .int .i64 p0.un, .int .i64 p0.le])), (30, (.agg #[.int .i64 t.id, .int .i64 t.si, .int .i64 t.sr, .int .i64 t.cl, .int .i64 t.pt.kd, .int .i64 t.pt.wh, .int .i64 t.pt.sr, .int .i64 t.pt.tr, .int .i64 t.pt.pi, .int .i64 t.pt.le, .int .i64 t.pt.zo, .int .i64 t.gd.kd, .int .i64 t.gd.nn, .int .i64 t.ac.kd, .int .i64 t.ac.nn, .int .i64 t.ac.pi, .int .i64 t.ac.si, .int .i64 t.ac.zo, .bool t.ac.be, .slice t.ac.la t.ac.ln t.ac.lcap, .int .i64 t.un, .int .i64 t.le])), (31, .bool true), (32, .bool false)]) (fun _ u => Below y5_.heap.size y5_ u) ?_ ?_
          · have hq0 : Below y5_.heap.size y5_ y5_.drew := (Below.refl _ y5_).drew
            have bx0 := b_x.grew hq0
            have bc0 := b_c0.grew hq0
            refine wp_region_held_drew (S := fun u : World => BoxR u (y3_.heap.size) 41 #[.int .i64 t_x.id, .int .i64 t_x.si, .int .i64 t_x.sr, .int .i64 t_x.cl, .int .i64 t_x.pt.kd, .int .i64 t_x.pt.wh, .int .i64 t_x.pt.sr, .int .i64 t_x.pt.tr, .int .i64 t_x.pt.pi, .int .i64 t_x.pt.le, .int .i64 t_x.pt.zo, .int .i64 t_x.gd.kd, .int .i64 t_x.gd.nn, .int .i64 t_x.ac.kd, .int .i64 t_x.ac.nn, .int .i64 t_x.ac.pi, .int .i64 t_x.ac.si, .int .i64 t_x.ac.zo, .bool t_x.ac.be, .slice t_x.ac.la t_x.ac.ln t_x.ac.lcap, .int .i64 t_x.un, .int .i64 t_x.le] ∧ BoxR u (w.heap.size) 30 #[.int .i64 p0.id, .int .i64 p0.si, .int .i64 p0.sr, .int .i64 p0.cl, .int .i64 p0.pt.kd, .int .i64 p0.pt.wh, .int .i64 p0.pt.sr, .int .i64 p0.pt.tr, .int .i64 p0.pt.pi, .int .i64 p0.pt.le, .int .i64 p0.pt.zo, .int .i64 p0.gd.kd, .int .i64 p0.gd.nn, .int .i64 p0.ac.kd, .int .i64 p0.ac.nn, .int .i64 p0.ac.pi, .int .i64 p0.ac.si, .int .i64 p0.ac.zo, .bool p0.ac.be, .slice p0.ac.la p0.ac.ln p0.ac.lcap, .int .i64 p0.un, .int .i64 p0.le]) (by kernel_rfl) ⟨bx0, bc0⟩ (fun hHeld => ?_)
            refine wpAnyH_take (i := 0) (v := .agg #[.int .i64 t_x.id, .int .i64 t_x.si, .int .i64 t_x.sr, .int .i64 t_x.cl, .int .i64 t_x.pt.kd, .int .i64 t_x.pt.wh, .int .i64 t_x.pt.sr, .int .i64 t_x.pt.tr, .int .i64 t_x.pt.pi, .int .i64 t_x.pt.le, .int .i64 t_x.pt.zo, .int .i64 t_x.gd.kd, .int .i64 t_x.gd.nn, .int .i64 t_x.ac.kd, .int .i64 t_x.ac.nn, .int .i64 t_x.ac.pi, .int .i64 t_x.ac.si, .int .i64 t_x.ac.zo, .bool t_x.ac.be, .slice t_x.ac.la t_x.ac.ln t_x.ac.lcap, .int .i64 t_x.un, .int .i64 t_x.le]) rfl (by kernel_rfl) (by kernel_rfl) (by kernel_rfl) (fun _ _ _ h => h) (yieldsIf_load_mid (by rfl) 41 (.tmp 7) rfl (y3_.heap.size) 0 (by rfl) (#[.int .i64 t_x.id, .int .i64 t_x.si, .int .i64 t_x.sr, .int .i64 t_x.cl, .int .i64 t_x.pt.kd, .int .i64 t_x.pt.wh, .int .i64 t_x.pt.sr, .int .i64 t_x.pt.tr, .int .i64 t_x.pt.pi, .int .i64 t_x.pt.le, .int .i64 t_x.pt.zo, .int .i64 t_x.gd.kd, .int .i64 t_x.gd.nn, .int .i64 t_x.ac.kd, .int .i64 t_x.ac.nn, .int .i64 t_x.ac.pi, .int .i64 t_x.ac.si, .int .i64 t_x.ac.zo, .bool t_x.ac.be, .slice t_x.ac.la t_x.ac.ln t_x.ac.lcap, .int .i64 t_x.un, .int .i64 t_x.le] : Array Value).toList _ (fun u hu => BoxR.range hu.1) Try.underlying41 rfl (by kernel_rfl)) hHeld ?_
            try simp only [Act.put, List.setIfInBounds_toArray, List.set_cons_zero, List.set_cons_succ]
            refine wpAnyH_take (i := 1) (v := .agg #[.int .i64 p0.id, .int .i64 p0.si, .int .i64 p0.sr, .int .i64 p0.cl, .int .i64 p0.pt.kd, .int .i64 p0.pt.wh, .int .i64 p0.pt.sr, .int .i64 p0.pt.tr, .int .i64 p0.pt.pi, .int .i64 p0.pt.le, .int .i64 p0.pt.zo, .int .i64 p0.gd.kd, .int .i64 p0.gd.nn, .int .i64 p0.ac.kd, .int .i64 p0.ac.nn, .int .i64 p0.ac.pi, .int .i64 p0.ac.si, .int .i64 p0.ac.zo, .bool p0.ac.be, .slice p0.ac.la p0.ac.ln p0.ac.lcap, .int .i64 p0.un, .int .i64 p0.le]) rfl (by kernel_rfl) (by kernel_rfl) (by kernel_rfl) (fun _ _ _ h => h) (yieldsIf_load_mid (by rfl) 30 (.tmp 2) rfl (w.heap.size) 0 (by rfl) (#[.int .i64 p0.id, .int .i64 p0.si, .int .i64 p0.sr, .int .i64 p0.cl, .int .i64 p0.pt.kd, .int .i64 p0.pt.wh, .int .i64 p0.pt.sr, .int .i64 p0.pt.tr, .int .i64 p0.pt.pi, .int .i64 p0.pt.le, .int .i64 p0.pt.zo, .int .i64 p0.gd.kd, .int .i64 p0.gd.nn, .int .i64 p0.ac.kd, .int .i64 p0.ac.nn, .int .i64 p0.ac.pi, .int .i64 p0.ac.si, .int .i64 p0.ac.zo, .bool p0.ac.be, .slice p0.ac.la p0.ac.ln p0.ac.lcap, .int .i64 p0.un, .int .i64 p0.le] : Array Value).toList _ (fun u hu => BoxR.range hu.2) Try.underlying30 rfl (by kernel_rfl)) hHeld ?_
            try simp only [Act.put, List.setIfInBounds_toArray, List.set_cons_zero, List.set_cons_succ]
            refine wpAnyH_ready (rs := [2]) (by kernel_rfl) (by simp) ?_
            refine AllReadyH.cons rfl (fun K' hK => ?_) AllReadyH.nil
            go_simp
            go_at_call 6
            refine (toEffect_ans p0 y5_.drew (ef_grew k_c0 (below_app hB hq0 hB.size)) n_c0).mono ?_
            rintro e v1 ⟨t1, rfl, hb1, ot, et⟩
            have hq1 := below_app hq0 hb1 hq0.size
            refine hK.out _ _ ⟨b_x.grew hq1, b_c0.grew hq1⟩ (fun hHeld => ?_)
            clear hK
            try simp only [Act.put, List.setIfInBounds_toArray, List.set_cons_zero, List.set_cons_succ]
            refine wpAnyH_ready (rs := [3]) (by kernel_rfl) (by simp) ?_
            refine AllReadyH.cons rfl (fun K' hK => ?_) AllReadyH.nil
            go_simp
            go_at_call 9
            refine (eqEffect_alike t_x t1 p0 _ (o_x.grew hq1) ot e_x et (by omega)).mono ?_
            rintro e v2 ⟨rfl, hb2⟩
            have hq2 := below_app hq1 hb2 hq1.size
            refine hK.out _ _ ⟨b_x.grew hq2, b_c0.grew hq2⟩ (fun hHeld => ?_)
            clear hK
            try simp only [Act.put, List.setIfInBounds_toArray, List.set_cons_zero, List.set_cons_succ]
            refine wpAnyH_take (i := 4) (oi := ⟨some 32, .unOp .not 4 (.tmp 31), 4, _, _, none⟩) (v := .bool false) rfl (by kernel_rfl) (by kernel_rfl) (by kernel_rfl) (fun _ _ _ h => h) (Or.inl ⟨by rfl, fun u hSu => by go_simp⟩) hHeld ?_
            try simp only [Act.put, List.setIfInBounds_toArray, List.set_cons_zero, List.set_cons_succ]
            refine wpAnyH_done (by kernel_rfl) ?_ _
            exact ⟨t1, rfl, hq2⟩
          rintro t_ y6_ hb
          simp only [puts, List.foldl, Act.put, List.setIfInBounds_toArray, List.set_cons_zero, List.set_cons_succ]
          replace o_x := o_x.grew hb
          replace b_v1 := b_v1.grew hb
          replace b_c0 := b_c0.grew hb
          replace b_x := b_x.grew hb
          replace hB := below_app hB hb hB.size
          clear hb
          go_wp2
          go_ret
          exact ⟨rfl, below_app hBw hB hsz⟩

set_option maxRecDepth 100000 in
theorem lifted (os : Os) (started : os.Started) (H : Type) (enc : TypeId × Value → H) :
    ReturnsInHanded {} Try.checked os 3 .any (Rows.fnExactNearSpec.pre6 enc Try.prog Try.f3 Rows.fnExactNearRow.domain false) (Rows.fnExactNearSpec.post enc Try.prog Try.f3 false true false false) := by
  refine returnsInHanded_of_change (C := Try.checked) own started (by kernel_rfl) Try.func3
    (ChangeSpec.witness6 (enc := enc) (C := Try.checked) false ⟨#[], #[.agg #[.int .i64 0, .int .i64 0, .int .i64 0, .int .i64 0, .int .i64 0, .int .i64 0, .int .i64 0, .int .i64 0, .int .i64 0, .int .i64 0, .int .i64 0, .int .i64 0, .int .i64 0, .int .i64 0, .int .i64 0, .int .i64 0, .int .i64 0, .int .i64 0, .bool false, .slice none 0 0, .int .i64 0, .int .i64 0], .agg #[.int .i64 0, .int .i64 0, .int .i64 0, .int .i64 0, .int .i64 0, .int .i64 0, .bool false]], []⟩ 8 (by kernel_rfl) (by kernel_rfl) (by kernel_rfl) (by kernel_rfl)) ?_
  intro W base args ds gs before hval0 hW hcnd _
  have hval : ∀ (j : Nat) t v, Try.f3.params[j]? = some t → args[j]? = some v → Value.okWide Try.prog W .any base t v := hval0
  have hW' := hW
  obtain ⟨p, q, hA0, hV, rfl, hfz, hnd⟩ := hW
  have hA : DataW.TrodAll enc Try.prog W 0 (fun _ => true) true Try.f3.params.toList args.toList ds p := hA0
  rw [Try.params3] at hA hval
  obtain ⟨v0, vs0, d0, ds0, p0', q0, hargs, rfl, rfl, h0, r0⟩ := trodAll_cons hA
  obtain ⟨v1, vs1, d1, ds1, p1', q1, rfl, rfl, rfl, h1, r1⟩ := trodAll_cons r0
  obtain ⟨rfl, rfl, rfl⟩ := trodAll_nil r1
  obtain rfl : args = #[v0, v1] := by cases args; simp_all
  obtain ⟨rfl, rfl⟩ := trodVars_none hV
  have k0 := h0
  have lt0 : ∀ x ∈ p0', x.block < W.heap.size := by obtain ⟨m, hm⟩ := k0; exact DataW.trod_lt m _ _ _ hm
  obtain ⟨p0, rfl, w0⟩ := open_effect (hval 0 30 v0 rfl rfl) h0
  have k1 := h1
  have lt1 : ∀ x ∈ p1', x.block < W.heap.size := by obtain ⟨m, hm⟩ := k1; exact DataW.trod_lt m _ _ _ hm
  obtain ⟨p1, rfl, w1⟩ := open_event (hval 1 32 v1 rfl rfl) h1
  clear hA0 hval0
  refine (walk p0 p1 W w0 w1).mono fun e W' ⟨he, bel⟩ => ?_
  subst he
  exact ⟨_, rfl, _, _, _, [], _, [], hW', trodAll_mk1 (shut_bool Try.underlying4 _), (trodAll_cons_mk (Below.trod laidOut (by kernel_rfl) (of_decide_eq_true (by kernel_rfl)) k0 bel lt0) (trodAll_cons_mk (Below.trod laidOut (by kernel_rfl) (of_decide_eq_true (by kernel_rfl)) k1 bel lt1) trodAll_mk0)), rfl, bel.frame _, fun h => by cases h⟩

theorem over : Rows.fnExactNearRow.holds Try.pinned (OpenSpec.ofChange Rows.fnExactNearSpec) :=
  OpenClaim.holds_of_wide 3 Try.f3 rfl rfl rfl rfl rfl rfl rfl ⟨rfl, rfl, rfl, rfl, rfl⟩ rfl rfl rfl rfl rfl (by kernel_rfl) Try.func3 (by kernel_rfl)
    (of_decide_eq_true (by kernel_rfl)) (by unfold Func.isWrapper; first | (rw [if_pos (by decide +kernel)]; kernel_rfl) | (rw [if_neg (by decide +kernel)]; exact ⟨rfl, rfl⟩))
    (fun os started H enc _ => lifted os started H enc)

theorem proved : Rows.FnExactNearSaid := over
#print axioms proved
end Go.Proofs.Ythemmhocnkpcjat.fnExactNear
