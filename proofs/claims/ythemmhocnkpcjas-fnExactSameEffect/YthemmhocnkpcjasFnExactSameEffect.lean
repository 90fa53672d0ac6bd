/-
  What is proved: at every two effects, the law FnExactSameEffect answers true: the program's and the specification's answer alike, and the arguments read afterwards as before; no condition.
-/
import Derived.Test.YthemmhocnkpcjasRows
import Derived.Test.YthemmhocnkpcjasRegCut
import Derived.Test.YthemmhocnkpcjasCur
import Derived.Test.YthemmhocnkpcjasPiece
import Derived.Test.YthemmhocnkpcjasRow
import Derived.Test.YthemmhocnkpcjasPiece2
import Derived.Test.YthemmhocnkpcjasState1
import Derived.Test.YthemmhocnkpcjasRowLaw
import Derived.Test.YthemmhocnkpcjasState2
import Derived.Test.YthemmhocnkpcjasState3
import Derived.Test.YthemmhocnkpcjasSeg
import Derived.Test.YthemmhocnkpcjasRegTail
import Derived.Test.YthemmhocnkpcjasRegBelow
import Derived.Test.YthemmhocnkpcjasNum
import Derived.Test.YthemmhocnkpcjasPiece3
import Derived.Test.YthemmhocnkpcjasState4
import Derived.Test.YthemmhocnkpcjasState5
import Derived.Test.YthemmhocnkpcjasStMark
import Derived.Test.YthemmhocnkpcjasPieceOk
import Derived.Test.YthemmhocnkpcjasState6
import Derived.Test.YthemmhocnkpcjasStHeld
import Derived.Test.YthemmhocnkpcjasStEq
import Derived.Test.YthemmhocnkpcjasStSame
import Derived.Test.YthemmhocnkpcjasStLaw
import Derived.Test.YthemmhocnkpcjasEvA
import Derived.Test.YthemmhocnkpcjasEvN
import Derived.Test.YthemmhocnkpcjasAcR
import Derived.Test.YthemmhocnkpcjasAcA
import Derived.Test.YthemmhocnkpcjasPaA
import Derived.Test.YthemmhocnkpcjasGuA
import Derived.Test.YthemmhocnkpcjasEfA
import Derived.Test.YthemmhocnkpcjasEfB
import Derived.Test.YthemmhocnkpcjasEfC
import Derived.Test.YthemmhocnkpcjasEvW
import Derived.Test.YthemmhocnkpcjasEvB1
import Derived.Test.YthemmhocnkpcjasEvB2
import Derived.Test.YthemmhocnkpcjasEvB
import Derived.Test.YthemmhocnkpcjasAcB
import Derived.Test.YthemmhocnkpcjasAcD
import Derived.Test.YthemmhocnkpcjasPaB
import Derived.Test.YthemmhocnkpcjasGuB
import Derived.Test.YthemmhocnkpcjasEfD
import Derived.Test.YthemmhocnkpcjasBytes
import Derived.Test.YthemmhocnkpcjasState8
import Derived.Test.YthemmhocnkpcjasStAt
import Derived.Test.YthemmhocnkpcjasAcC
import Derived.Test.YthemmhocnkpcjasEfE
import Derived.Test.YthemmhocnkpcjasAcL
import Derived.Test.YthemmhocnkpcjasEfL
import Derived.Test.YthemmhocnkpcjasPieceI1
import Derived.Test.YthemmhocnkpcjasEvC
import Derived.Test.YthemmhocnkpcjasEfP
import Derived.Test.YthemmhocnkpcjasEfS
import Derived.Test.YthemmhocnkpcjasEfRs
import Derived.WalkKit
import Derived.Deep.RegionHeld
import Derived.Deep.RegionHeldLaw
import Derived.Deep.MidRow
import Derived.ProofKit
import Derived.OpenShut
import Derived.ShutString
import Derived.ChangeOld
import Derived.Below
namespace Go.Proofs.Ythemmhocnkpcjas.fnExactSameEffect
open Go.ChangeShapes Go.WideShapes Go.ChangeAt Go.RowKit
set_option linter.unusedVariables false

theorem own : ownKnob Try.prog.godebug = none := by kernel_rfl
theorem laidOut : laidOutB Try.prog = true := by kernel_rfl

def IsRow (k : IntKind) (w : World) (a : Option Addr) (len cap : Nat) (zs : List Int) : Prop :=
  (a = none ∧ len = 0 ∧ cap = 0 ∧ zs = []) ∨
  ∃ x, a = some x ∧ len ≤ cap ∧ cap ≤ maxLen ∧ zs.length = cap ∧ (∀ i, i < zs.length → w.cell? (x.add i) = some (.int k (zs.getD i 0))) ∧ ∀ n ∈ zs, (Lit.int k n).wf = true

set_option maxHeartbeats 2000000 in
theorem BoxR.range {w : World} {g t : Nat} {cs : Array Value} (h : BoxR w g t cs) : w.rangeAt g 0 cs.toList := fun j v hv => by
  have hc := cell_of_row w g (0 + j) cs t (0, 0) h
  rw [hc]
  simpa using hv
set_option linter.unusedSimpArgs false in
set_option maxRecDepth 100000 in
set_option maxHeartbeats 4000000 in
theorem walk (p0 : Ef) (p1 : Ef) (w : World) (w0 : p0.ok w) (w1 : p1.ok w) :
    Calls Try.prog 6 #[.agg #[.int .i64 p0.id, .int .i64 p0.si, .int .i64 p0.sr, .int .i64 p0.cl, .int .i64 p0.pt.kd, .int .i64 p0.pt.wh, .int .i64 p0.pt.sr, .int .i64 p0.pt.tr, .int .i64 p0.pt.pi, .int .i64 p0.pt.le, .int .i64 p0.pt.zo, .int .i64 p0.gd.kd, .int .i64 p0.gd.nn, .int .i64 p0.ac.kd, .int .i64 p0.ac.nn, .int .i64 p0.ac.pi, .int .i64 p0.ac.si, .int .i64 p0.ac.zo, .bool p0.ac.be, .slice p0.ac.la p0.ac.ln p0.ac.lcap, .int .i64 p0.un, .int .i64 p0.le], .agg #[.int .i64 p1.id, .int .i64 p1.si, .int .i64 p1.sr, .int .i64 p1.cl, .int .i64 p1.pt.kd, .int .i64 p1.pt.wh, .int .i64 p1.pt.sr, .int .i64 p1.pt.tr, .int .i64 p1.pt.pi, .int .i64 p1.pt.le, .int .i64 p1.pt.zo, .int .i64 p1.gd.kd, .int .i64 p1.gd.nn, .int .i64 p1.ac.kd, .int .i64 p1.ac.nn, .int .i64 p1.ac.pi, .int .i64 p1.ac.si, .int .i64 p1.ac.zo, .bool p1.ac.be, .slice p1.ac.la p1.ac.ln p1.ac.lcap, .int .i64 p1.un, .int .i64 p1.le]] w fun e w' => e = .returned (.bool true) ∧ Below w.heap.size w w' := by
  have m_ : Try.prog.follows Departure.mixedOrders = true := by kernel_rfl
  have hBw := ((Below.refl _ w).alloc (Nat.le_refl _) (.cells #[.int .i64 p0.id, .int .i64 p0.si, .int .i64 p0.sr, .int .i64 p0.cl, .int .i64 p0.pt.kd, .int .i64 p0.pt.wh, .int .i64 p0.pt.sr, .int .i64 p0.pt.tr, .int .i64 p0.pt.pi, .int .i64 p0.pt.le, .int .i64 p0.pt.zo, .int .i64 p0.gd.kd, .int .i64 p0.gd.nn, .int .i64 p0.ac.kd, .int .i64 p0.ac.nn, .int .i64 p0.ac.pi, .int .i64 p0.ac.si, .int .i64 p0.ac.zo, .bool p0.ac.be, .slice p0.ac.la p0.ac.ln p0.ac.lcap, .int .i64 p0.un, .int .i64 p0.le] 46)).alloc (by simp) (.cells #[.int .i64 p1.id, .int .i64 p1.si, .int .i64 p1.sr, .int .i64 p1.cl, .int .i64 p1.pt.kd, .int .i64 p1.pt.wh, .int .i64 p1.pt.sr, .int .i64 p1.pt.tr, .int .i64 p1.pt.pi, .int .i64 p1.pt.le, .int .i64 p1.pt.zo, .int .i64 p1.gd.kd, .int .i64 p1.gd.nn, .int .i64 p1.ac.kd, .int .i64 p1.ac.nn, .int .i64 p1.ac.pi, .int .i64 p1.ac.si, .int .i64 p1.ac.zo, .bool p1.ac.be, .slice p1.ac.la p1.ac.ln p1.ac.lcap, .int .i64 p1.un, .int .i64 p1.le] 46)
  have b_c0 := (boxR_new w 46 #[.int .i64 p0.id, .int .i64 p0.si, .int .i64 p0.sr, .int .i64 p0.cl, .int .i64 p0.pt.kd, .int .i64 p0.pt.wh, .int .i64 p0.pt.sr, .int .i64 p0.pt.tr, .int .i64 p0.pt.pi, .int .i64 p0.pt.le, .int .i64 p0.pt.zo, .int .i64 p0.gd.kd, .int .i64 p0.gd.nn, .int .i64 p0.ac.kd, .int .i64 p0.ac.nn, .int .i64 p0.ac.pi, .int .i64 p0.ac.si, .int .i64 p0.ac.zo, .bool p0.ac.be, .slice p0.ac.la p0.ac.ln p0.ac.lcap, .int .i64 p0.un, .int .i64 p0.le]).alloc (.cells #[.int .i64 p1.id, .int .i64 p1.si, .int .i64 p1.sr, .int .i64 p1.cl, .int .i64 p1.pt.kd, .int .i64 p1.pt.wh, .int .i64 p1.pt.sr, .int .i64 p1.pt.tr, .int .i64 p1.pt.pi, .int .i64 p1.pt.le, .int .i64 p1.pt.zo, .int .i64 p1.gd.kd, .int .i64 p1.gd.nn, .int .i64 p1.ac.kd, .int .i64 p1.ac.nn, .int .i64 p1.ac.pi, .int .i64 p1.ac.si, .int .i64 p1.ac.zo, .bool p1.ac.be, .slice p1.ac.la p1.ac.ln p1.ac.lcap, .int .i64 p1.un, .int .i64 p1.le] 46)
  have b_c1 : BoxR ((w.alloc (.cells #[.int .i64 p0.id, .int .i64 p0.si, .int .i64 p0.sr, .int .i64 p0.cl, .int .i64 p0.pt.kd, .int .i64 p0.pt.wh, .int .i64 p0.pt.sr, .int .i64 p0.pt.tr, .int .i64 p0.pt.pi, .int .i64 p0.pt.le, .int .i64 p0.pt.zo, .int .i64 p0.gd.kd, .int .i64 p0.gd.nn, .int .i64 p0.ac.kd, .int .i64 p0.ac.nn, .int .i64 p0.ac.pi, .int .i64 p0.ac.si, .int .i64 p0.ac.zo, .bool p0.ac.be, .slice p0.ac.la p0.ac.ln p0.ac.lcap, .int .i64 p0.un, .int .i64 p0.le] 46)).alloc (.cells #[.int .i64 p1.id, .int .i64 p1.si, .int .i64 p1.sr, .int .i64 p1.cl, .int .i64 p1.pt.kd, .int .i64 p1.pt.wh, .int .i64 p1.pt.sr, .int .i64 p1.pt.tr, .int .i64 p1.pt.pi, .int .i64 p1.pt.le, .int .i64 p1.pt.zo, .int .i64 p1.gd.kd, .int .i64 p1.gd.nn, .int .i64 p1.ac.kd, .int .i64 p1.ac.nn, .int .i64 p1.ac.pi, .int .i64 p1.ac.si, .int .i64 p1.ac.zo, .bool p1.ac.be, .slice p1.ac.la p1.ac.ln p1.ac.lcap, .int .i64 p1.un, .int .i64 p1.le] 46)) (w.heap.size + 1) 46 #[.int .i64 p1.id, .int .i64 p1.si, .int .i64 p1.sr, .int .i64 p1.cl, .int .i64 p1.pt.kd, .int .i64 p1.pt.wh, .int .i64 p1.pt.sr, .int .i64 p1.pt.tr, .int .i64 p1.pt.pi, .int .i64 p1.pt.le, .int .i64 p1.pt.zo, .int .i64 p1.gd.kd, .int .i64 p1.gd.nn, .int .i64 p1.ac.kd, .int .i64 p1.ac.nn, .int .i64 p1.ac.pi, .int .i64 p1.ac.si, .int .i64 p1.ac.zo, .bool p1.ac.be, .slice p1.ac.la p1.ac.ln p1.ac.lcap, .int .i64 p1.un, .int .i64 p1.le] := heap_alloc2_new _ _ _
  generalize hW : (w.alloc (.cells #[.int .i64 p0.id, .int .i64 p0.si, .int .i64 p0.sr, .int .i64 p0.cl, .int .i64 p0.pt.kd, .int .i64 p0.pt.wh, .int .i64 p0.pt.sr, .int .i64 p0.pt.tr, .int .i64 p0.pt.pi, .int .i64 p0.pt.le, .int .i64 p0.pt.zo, .int .i64 p0.gd.kd, .int .i64 p0.gd.nn, .int .i64 p0.ac.kd, .int .i64 p0.ac.nn, .int .i64 p0.ac.pi, .int .i64 p0.ac.si, .int .i64 p0.ac.zo, .bool p0.ac.be, .slice p0.ac.la p0.ac.ln p0.ac.lcap, .int .i64 p0.un, .int .i64 p0.le] 46)).alloc (.cells #[.int .i64 p1.id, .int .i64 p1.si, .int .i64 p1.sr, .int .i64 p1.cl, .int .i64 p1.pt.kd, .int .i64 p1.pt.wh, .int .i64 p1.pt.sr, .int .i64 p1.pt.tr, .int .i64 p1.pt.pi, .int .i64 p1.pt.le, .int .i64 p1.pt.zo, .int .i64 p1.gd.kd, .int .i64 p1.gd.nn, .int .i64 p1.ac.kd, .int .i64 p1.ac.nn, .int .i64 p1.ac.pi, .int .i64 p1.ac.si, .int .i64 p1.ac.zo, .bool p1.ac.be, .slice p1.ac.la p1.ac.ln p1.ac.lcap, .int .i64 p1.un, .int .i64 p1.le] 46) = W at hBw b_c0 b_c1
  have hsz : w.heap.size ≤ W.heap.size := hBw.size
  have k_c0 := ef_grew w0 hBw
  have k_c1 := ef_grew w1 hBw
  have hB := Below.refl W.heap.size W
  have hmx0 : p0.ac.ln ≤ 9223372036854775807 := by have := k_c0.1.1; have := k_c0.1.2.1; unfold maxLen at *; omega
  have hmx1 : p1.ac.ln ≤ 9223372036854775807 := by have := k_c1.1.1; have := k_c1.1.2.1; unfold maxLen at *; omega
  by_cases z : (1048576 : Int) - (p0.ac.ln : Int) < 0
  · have Z : Hid (szN p0.ac.ln 1048576 = -1) := by show szN p0.ac.ln 1048576 = -1; unfold szN; rw [if_pos z]
    go_enter Try.func6, Try.ntmps6
    go_wp2_with (first | (refine wpList_load_row rfl 46 _ rfl (w.heap.size) (by rfl) _ _ _ _ b_c0 Try.underlying46 rfl (by kernel_rfl) ?_))
    refine (szEffect_any p0 1048576 _ hmx0 (by omega)).mono ?_
    rintro e y1_ ⟨rfl, hb⟩
    try clear hW
    as_aux_lemma =>
      replace b_c0 := b_c0.grew hb
      replace b_c1 := b_c1.grew hb
      replace hB := below_app hB hb hB.size
      clear hb
      rw [Z.out]
      go_wp2
      go_ret
      exact ⟨rfl, below_app hBw hB hsz⟩
  have n_c0 : p0.ac.ln ≤ 1048576 := by omega
  have Y : Hid (szN p0.ac.ln 1048576 = 1048576 - (p0.ac.ln : Int)) := by show szN p0.ac.ln 1048576 = _; unfold szN; rw [if_neg z]
  have y0 : 0 ≤ 1048576 - (p0.ac.ln : Int) := by omega
  clear z
  by_cases z : (1048576 - (p0.ac.ln : Int)) - (p1.ac.ln : Int) < 0
  · have Z : Hid (szN p1.ac.ln (1048576 - (p0.ac.ln : Int)) = -1) := by show szN p1.ac.ln (1048576 - (p0.ac.ln : Int)) = -1; unfold szN; rw [if_pos z]
    go_enter Try.func6, Try.ntmps6
    go_wp2_with (first | (refine wpList_load_row rfl 46 _ rfl (w.heap.size) (by rfl) _ _ _ _ b_c0 Try.underlying46 rfl (by kernel_rfl) ?_))
    refine (szEffect_any p0 1048576 _ hmx0 (by omega)).mono ?_
    rintro e y1_ ⟨rfl, hb⟩
    try clear hW
    as_aux_lemma =>
      replace b_c0 := b_c0.grew hb
      replace b_c1 := b_c1.grew hb
      replace hB := below_app hB hb hB.size
      clear hb
      rw [Y.out]
      go_wp2_with (first | (refine wpList_load_row rfl 46 _ rfl (w.heap.size + 1) (by rfl) _ _ _ _ b_c1 Try.underlying46 rfl (by kernel_rfl) ?_))
      refine (szEffect_any p1 (1048576 - (p0.ac.ln : Int)) _ hmx1 (by omega)).mono ?_
      rintro e y2_ ⟨rfl, hb⟩
      as_aux_lemma =>
        replace b_c0 := b_c0.grew hb
        replace b_c1 := b_c1.grew hb
        replace hB := below_app hB hb hB.size
        clear hb
        rw [Z.out]
        go_wp2
        go_ret
        exact ⟨rfl, below_app hBw hB hsz⟩
  have n_c1 : p1.ac.ln ≤ 1048576 := by omega
  have Z : Hid (szN p1.ac.ln (1048576 - (p0.ac.ln : Int)) = (1048576 - (p0.ac.ln : Int)) - (p1.ac.ln : Int)) := by show szN p1.ac.ln (1048576 - (p0.ac.ln : Int)) = _; unfold szN; rw [if_neg z]
  have y1 : 0 ≤ (1048576 - (p0.ac.ln : Int)) - (p1.ac.ln : Int) := by omega
  clear z
  go_enter Try.func6, Try.ntmps6
  go_wp2_with (first | (refine wpList_load_row rfl 46 _ rfl (w.heap.size) (by rfl) _ _ _ _ b_c0 Try.underlying46 rfl (by kernel_rfl) ?_))
  refine (szEffect_any p0 1048576 _ hmx0 (by omega)).mono ?_
  rintro e y1_ ⟨rfl, hb⟩
  try clear hW
  as_aux_lemma =>
    replace b_c0 := b_c0.grew hb
    replace b_c1 := b_c1.grew hb
    replace hB := below_app hB hb hB.size
    clear hb
    rw [Y.out]
    go_wp2_with (first | (refine wpList_load_row rfl 46 _ rfl (w.heap.size + 1) (by rfl) _ _ _ _ b_c1 Try.underlying46 rfl (by kernel_rfl) ?_))
    refine (szEffect_any p1 (1048576 - (p0.ac.ln : Int)) _ hmx1 (by omega)).mono ?_
    rintro e y2_ ⟨rfl, hb⟩
    as_aux_lemma =>
      replace b_c0 := b_c0.grew hb
      replace b_c1 := b_c1.grew hb
      replace hB := below_app hB hb hB.size
      clear hb
      rw [Z.out]
      clear hmx0 hmx1
      go_wp2_with fail
      refine wp_cutT (fun x : Ef × Ef => [(20, (.agg #[.int .i64 p0.id, .int .i64 p0.si, .int .i64 p0.sr, .int .i64 p0.cl, .int .i64 p0.pt.kd, .int .i64 p0.pt.wh, .int .i64 p0.pt.sr, .int .i64 p0.pt.tr, .int .i64 p0.pt.pi, .int .i64 p0.pt.le, .int .i64 p0.pt.zo, .int .i64 p0.gd.kd, .int .i64 p0.gd.nn, .int .i64 p0.ac.kd, .int .i64 p0.ac.nn, .int .i64 p0.ac.pi, .int .i64 p0.ac.si, .int .i64 p0.ac.zo, .bool p0.ac.be, .slice p0.ac.la p0.ac.ln p0.ac.lcap, .int .i64 p0.un, .int .i64 p0.le])), (21, (.agg #[.int .i64 x.1.id, .int .i64 x.1.si, .int .i64 x.1.sr, .int .i64 x.1.cl, .int .i64 x.1.pt.kd, .int .i64 x.1.pt.wh, .int .i64 x.1.pt.sr, .int .i64 x.1.pt.tr, .int .i64 x.1.pt.pi, .int .i64 x.1.pt.le, .int .i64 x.1.pt.zo, .int .i64 x.1.gd.kd, .int .i64 x.1.gd.nn, .int .i64 x.1.ac.kd, .int .i64 x.1.ac.nn, .int .i64 x.1.ac.pi, .int .i64 x.1.ac.si, .int .i64 x.1.ac.zo, .bool x.1.ac.be, .slice x.1.ac.la x.1.ac.ln x.1.ac.lcap, .int .i64 x.1.un, .int .i64 x.1.le])), (22, (.agg #[.int .i64 p1.id, .int .i64 p1.si, .int .i64 p1.sr, .int .i64 p1.cl, .int .i64 p1.pt.kd, .int .i64 p1.pt.wh, .int .i64 p1.pt.sr, .int .i64 p1.pt.tr, .int .i64 p1.pt.pi, .int .i64 p1.pt.le, .int .i64 p1.pt.zo, .int .i64 p1.gd.kd, .int .i64 p1.gd.nn, .int .i64 p1.ac.kd, .int .i64 p1.ac.nn, .int .i64 p1.ac.pi, .int .i64 p1.ac.si, .int .i64 p1.ac.zo, .bool p1.ac.be, .slice p1.ac.la p1.ac.ln p1.ac.lcap, .int .i64 p1.un, .int .i64 p1.le])), (23, (.agg #[.int .i64 x.2.id, .int .i64 x.2.si, .int .i64 x.2.sr, .int .i64 x.2.cl, .int .i64 x.2.pt.kd, .int .i64 x.2.pt.wh, .int .i64 x.2.pt.sr, .int .i64 x.2.pt.tr, .int .i64 x.2.pt.pi, .int .i64 x.2.pt.le, .int .i64 x.2.pt.zo, .int .i64 x.2.gd.kd, .int .i64 x.2.gd.nn, .int .i64 x.2.ac.kd, .int .i64 x.2.ac.nn, .int .i64 x.2.ac.pi, .int .i64 x.2.ac.si, .int .i64 x.2.ac.zo, .bool x.2.ac.be, .slice x.2.ac.la x.2.ac.ln x.2.ac.lcap, .int .i64 x.2.un, .int .i64 x.2.le])), (24, .bool (smEf p0 p1)), (6, .bool (smEf p0 p1))]) (fun _ u => Below y2_.heap.size y2_ u) ?_ ?_
      · have hq0 : Below y2_.heap.size y2_ y2_.drew := (Below.refl _ y2_).drew
        refine wp_region_held_drew (S := fun u : World => BoxR u (w.heap.size) 46 #[.int .i64 p0.id, .int .i64 p0.si, .int .i64 p0.sr, .int .i64 p0.cl, .int .i64 p0.pt.kd, .int .i64 p0.pt.wh, .int .i64 p0.pt.sr, .int .i64 p0.pt.tr, .int .i64 p0.pt.pi, .int .i64 p0.pt.le, .int .i64 p0.pt.zo, .int .i64 p0.gd.kd, .int .i64 p0.gd.nn, .int .i64 p0.ac.kd, .int .i64 p0.ac.nn, .int .i64 p0.ac.pi, .int .i64 p0.ac.si, .int .i64 p0.ac.zo, .bool p0.ac.be, .slice p0.ac.la p0.ac.ln p0.ac.lcap, .int .i64 p0.un, .int .i64 p0.le] ∧ BoxR u (w.heap.size + 1) 46 #[.int .i64 p1.id, .int .i64 p1.si, .int .i64 p1.sr, .int .i64 p1.cl, .int .i64 p1.pt.kd, .int .i64 p1.pt.wh, .int .i64 p1.pt.sr, .int .i64 p1.pt.tr, .int .i64 p1.pt.pi, .int .i64 p1.pt.le, .int .i64 p1.pt.zo, .int .i64 p1.gd.kd, .int .i64 p1.gd.nn, .int .i64 p1.ac.kd, .int .i64 p1.ac.nn, .int .i64 p1.ac.pi, .int .i64 p1.ac.si, .int .i64 p1.ac.zo, .bool p1.ac.be, .slice p1.ac.la p1.ac.ln p1.ac.lcap, .int .i64 p1.un, .int .i64 p1.le]) (by kernel_rfl) ⟨b_c0.grew hq0, b_c1.grew hq0⟩ (fun hHeld => ?_)
        refine wpAnyH_take (i := 0) (v := .agg #[.int .i64 p0.id, .int .i64 p0.si, .int .i64 p0.sr, .int .i64 p0.cl, .int .i64 p0.pt.kd, .int .i64 p0.pt.wh, .int .i64 p0.pt.sr, .int .i64 p0.pt.tr, .int .i64 p0.pt.pi, .int .i64 p0.pt.le, .int .i64 p0.pt.zo, .int .i64 p0.gd.kd, .int .i64 p0.gd.nn, .int .i64 p0.ac.kd, .int .i64 p0.ac.nn, .int .i64 p0.ac.pi, .int .i64 p0.ac.si, .int .i64 p0.ac.zo, .bool p0.ac.be, .slice p0.ac.la p0.ac.ln p0.ac.lcap, .int .i64 p0.un, .int .i64 p0.le]) rfl (by kernel_rfl) (by kernel_rfl) (by kernel_rfl) (fun _ _ _ h => h) (yieldsIf_load_mid (by rfl) 46 (.tmp 2) rfl (w.heap.size) 0 (by rfl) (#[.int .i64 p0.id, .int .i64 p0.si, .int .i64 p0.sr, .int .i64 p0.cl, .int .i64 p0.pt.kd, .int .i64 p0.pt.wh, .int .i64 p0.pt.sr, .int .i64 p0.pt.tr, .int .i64 p0.pt.pi, .int .i64 p0.pt.le, .int .i64 p0.pt.zo, .int .i64 p0.gd.kd, .int .i64 p0.gd.nn, .int .i64 p0.ac.kd, .int .i64 p0.ac.nn, .int .i64 p0.ac.pi, .int .i64 p0.ac.si, .int .i64 p0.ac.zo, .bool p0.ac.be, .slice p0.ac.la p0.ac.ln p0.ac.lcap, .int .i64 p0.un, .int .i64 p0.le] : Array Value).toList _ (fun u hu => BoxR.range hu.1) Try.underlying46 rfl (by kernel_rfl)) hHeld ?_
        try simp only [Act.put, List.setIfInBounds_toArray, List.set_cons_zero, List.set_cons_succ]
        refine wpAnyH_take (i := 2) (v := .agg #[.int .i64 p1.id, .int .i64 p1.si, .int .i64 p1.sr, .int .i64 p1.cl, .int .i64 p1.pt.kd, .int .i64 p1.pt.wh, .int .i64 p1.pt.sr, .int .i64 p1.pt.tr, .int .i64 p1.pt.pi, .int .i64 p1.pt.le, .int .i64 p1.pt.zo, .int .i64 p1.gd.kd, .int .i64 p1.gd.nn, .int .i64 p1.ac.kd, .int .i64 p1.ac.nn, .int .i64 p1.ac.pi, .int .i64 p1.ac.si, .int .i64 p1.ac.zo, .bool p1.ac.be, .slice p1.ac.la p1.ac.ln p1.ac.lcap, .int .i64 p1.un, .int .i64 p1.le]) rfl (by kernel_rfl) (by kernel_rfl) (by kernel_rfl) (fun _ _ _ h => h) (yieldsIf_load_mid (by rfl) 46 (.tmp 3) rfl (w.heap.size + 1) 0 (by rfl) (#[.int .i64 p1.id, .int .i64 p1.si, .int .i64 p1.sr, .int .i64 p1.cl, .int .i64 p1.pt.kd, .int .i64 p1.pt.wh, .int .i64 p1.pt.sr, .int .i64 p1.pt.tr, .int .i64 p1.pt.pi, .int .i64 p1.pt.le, .int .i64 p1.pt.zo, .int .i64 p1.gd.kd, .int .i64 p1.gd.nn, .int .i64 p1.ac.kd, .int .i64 p1.ac.nn, .int .i64 p1.ac.pi, .int .i64 p1.ac.si, .int .i64 p1.ac.zo, .bool p1.ac.be, .slice p1.ac.la p1.ac.ln p1.ac.lcap, .int .i64 p1.un, .int .i64 p1.le] : Array Value).toList _ (fun u hu => BoxR.range hu.2) Try.underlying46 rfl (by kernel_rfl)) hHeld ?_
        try simp only [Act.put, List.setIfInBounds_toArray, List.set_cons_zero, List.set_cons_succ]
        refine wpAnyH_ready (rs := [1]) (by kernel_rfl) (by simp) ?_
        refine AllReadyH.cons rfl (fun K' hK => ?_) AllReadyH.nil
        go_simp
        go_at_call 22
        refine (toEffect_ans p0 _ (ef_grew k_c0 (below_app hB hq0 hB.size)) n_c0).mono ?_
        rintro e v1 ⟨t1, rfl, hb1, o1, e1⟩
        have hq1 := below_app hq0 hb1 hq0.size
        refine hK.out _ _ ⟨b_c0.grew hq1, b_c1.grew hq1⟩ (fun hHeld => ?_)
        clear hK
        try simp only [Act.put, List.setIfInBounds_toArray, List.set_cons_zero, List.set_cons_succ]
        refine wpAnyH_ready (rs := [3]) (by kernel_rfl) (by simp) ?_
        refine AllReadyH.cons rfl (fun K' hK => ?_) AllReadyH.nil
        go_simp
        go_at_call 22
        refine (toEffect_ans p1 _ (ef_grew k_c1 (below_app hB hq1 hB.size)) n_c1).mono ?_
        rintro e v2 ⟨t2, rfl, hb2, o2, e2⟩
        have hq2 := below_app hq1 hb2 hq1.size
        refine hK.out _ _ ⟨b_c0.grew hq2, b_c1.grew hq2⟩ (fun hHeld => ?_)
        clear hK
        try simp only [Act.put, List.setIfInBounds_toArray, List.set_cons_zero, List.set_cons_succ]
        refine wpAnyH_ready (rs := [4]) (by kernel_rfl) (by simp) ?_
        refine AllReadyH.cons rfl (fun K' hK => ?_) AllReadyH.nil
        go_simp
        go_at_call 25
        refine (specSameEffect_al (OwnF.grew o1 hb2) e1 o2 e2 k_c0 k_c1 n_c0).mono ?_
        rintro e v3 ⟨rfl, hb3⟩
        have hq3 := below_app hq2 hb3 hq2.size
        refine hK.out _ _ ⟨b_c0.grew hq3, b_c1.grew hq3⟩ (fun hHeld => ?_)
        clear hK
        try simp only [Act.put, List.setIfInBounds_toArray, List.set_cons_zero, List.set_cons_succ]
        refine wpAnyH_take (i := 5) (oi := ⟨some 6, .assign (.tmp 24), 4, _, _, none⟩) (v := .bool (smEf p0 p1)) rfl (by kernel_rfl) (by kernel_rfl) (by kernel_rfl) (fun _ _ _ h => h) (Or.inl ⟨by rfl, fun u hSu => by go_simp⟩) hHeld ?_
        try simp only [Act.put, List.setIfInBounds_toArray, List.set_cons_zero, List.set_cons_succ]
        refine wpAnyH_done (by kernel_rfl) ?_ _
        exact ⟨(t1, t2), rfl, hq3⟩
      rintro ⟨t_, t__⟩ y3_ hb
      simp only [puts, List.foldl, Act.put, List.setIfInBounds_toArray, List.set_cons_zero, List.set_cons_succ]
      as_aux_lemma =>
        replace b_c0 := b_c0.grew hb
        replace b_c1 := b_c1.grew hb
        replace hB := below_app hB hb hB.size
        clear hb
        go_wp2_with (first | (refine wpList_load_row rfl 46 _ rfl (w.heap.size) (by rfl) _ _ _ _ b_c0 Try.underlying46 rfl (by kernel_rfl) ?_))
        refine (toEffect_ans p0 _ (ef_grew k_c0 hB) n_c0).mono ?_
        rintro e y4_ ⟨t_x, rfl, hb, o_x, e_x⟩
        as_aux_lemma =>
          replace b_c0 := b_c0.grew hb
          replace b_c1 := b_c1.grew hb
          replace hB := below_app hB hb hB.size
          clear hb
          have zx := boxR_new y4_ 52 #[.int .i64 0, .int .i64 0, .int .i64 0, .int .i64 0, .int .i64 0, .int .i64 0, .int .i64 0, .int .i64 0, .int .i64 0, .int .i64 0, .int .i64 0, .int .i64 0, .int .i64 0, .int .i64 0, .int .i64 0, .int .i64 0, .int .i64 0, .int .i64 0, .bool false, .slice none 0 0, .int .i64 0, .int .i64 0]
          have hb := below_setRow ((Below.refl _ y4_).alloc (Nat.le_refl _) (.cells #[.int .i64 0, .int .i64 0, .int .i64 0, .int .i64 0, .int .i64 0, .int .i64 0, .int .i64 0, .int .i64 0, .int .i64 0, .int .i64 0, .int .i64 0, .int .i64 0, .int .i64 0, .int .i64 0, .int .i64 0, .int .i64 0, .int .i64 0, .int .i64 0, .bool false, .slice none 0 0, .int .i64 0, .int .i64 0] 52)) (Nat.le_refl _) #[.int .i64 t_x.id, .int .i64 t_x.si, .int .i64 t_x.sr, .int .i64 t_x.cl, .int .i64 t_x.pt.kd, .int .i64 t_x.pt.wh, .int .i64 t_x.pt.sr, .int .i64 t_x.pt.tr, .int .i64 t_x.pt.pi, .int .i64 t_x.pt.le, .int .i64 t_x.pt.zo, .int .i64 t_x.gd.kd, .int .i64 t_x.gd.nn, .int .i64 t_x.ac.kd, .int .i64 t_x.ac.nn, .int .i64 t_x.ac.pi, .int .i64 t_x.ac.si, .int .i64 t_x.ac.zo, .bool t_x.ac.be, .slice t_x.ac.la t_x.ac.ln t_x.ac.lcap, .int .i64 t_x.un, .int .i64 t_x.le]
          have b_x : BoxR ((y4_.alloc (.cells #[.int .i64 0, .int .i64 0, .int .i64 0, .int .i64 0, .int .i64 0, .int .i64 0, .int .i64 0, .int .i64 0, .int .i64 0, .int .i64 0, .int .i64 0, .int .i64 0, .int .i64 0, .int .i64 0, .int .i64 0, .int .i64 0, .int .i64 0, .int .i64 0, .bool false, .slice none 0 0, .int .i64 0, .int .i64 0] 52)).setRow y4_.heap.size #[.int .i64 t_x.id, .int .i64 t_x.si, .int .i64 t_x.sr, .int .i64 t_x.cl, .int .i64 t_x.pt.kd, .int .i64 t_x.pt.wh, .int .i64 t_x.pt.sr, .int .i64 t_x.pt.tr, .int .i64 t_x.pt.pi, .int .i64 t_x.pt.le, .int .i64 t_x.pt.zo, .int .i64 t_x.gd.kd, .int .i64 t_x.gd.nn, .int .i64 t_x.ac.kd, .int .i64 t_x.ac.nn, .int .i64 t_x.ac.pi, .int .i64 t_x.ac.si, .int .i64 t_x.ac.zo, .bool t_x.ac.be, .slice t_x.ac.la t_x.ac.ln t_x.ac.lcap, .int .i64 t_x.un, .int .i64 t_x.le]) y4_.heap.size 52 #[.int .i64 t_x.id, .int .i64 t_x.si, .int .i64 t_x.sr, .int .i64 t_x.cl, .int .i64 t_x.pt.kd, .int .i64 t_x.pt.wh, .int .i64 t_x.pt.sr, .int .i64 t_x.pt.tr, .int .i64 t_x.pt.pi, .int .i64 t_x.pt.le, .int .i64 t_x.pt.zo, .int .i64 t_x.gd.kd, .int .i64 t_x.gd.nn, .int .i64 t_x.ac.kd, .int .i64 t_x.ac.nn, .int .i64 t_x.ac.pi, .int .i64 t_x.ac.si, .int .i64 t_x.ac.zo, .bool t_x.ac.be, .slice t_x.ac.la t_x.ac.ln t_x.ac.lcap, .int .i64 t_x.un, .int .i64 t_x.le] := setRow_heap _ _ _ _ _ _ zx
          generalize hVx : (y4_.alloc (.cells #[.int .i64 0, .int .i64 0, .int .i64 0, .int .i64 0, .int .i64 0, .int .i64 0, .int .i64 0, .int .i64 0, .int .i64 0, .int .i64 0, .int .i64 0, .int .i64 0, .int .i64 0, .int .i64 0, .int .i64 0, .int .i64 0, .int .i64 0, .int .i64 0, .bool false, .slice none 0 0, .int .i64 0, .int .i64 0] 52)).setRow y4_.heap.size #[.int .i64 t_x.id, .int .i64 t_x.si, .int .i64 t_x.sr, .int .i64 t_x.cl, .int .i64 t_x.pt.kd, .int .i64 t_x.pt.wh, .int .i64 t_x.pt.sr, .int .i64 t_x.pt.tr, .int .i64 t_x.pt.pi, .int .i64 t_x.pt.le, .int .i64 t_x.pt.zo, .int .i64 t_x.gd.kd, .int .i64 t_x.gd.nn, .int .i64 t_x.ac.kd, .int .i64 t_x.ac.nn, .int .i64 t_x.ac.pi, .int .i64 t_x.ac.si, .int .i64 t_x.ac.zo, .bool t_x.ac.be, .slice t_x.ac.la t_x.ac.ln t_x.ac.lcap, .int .i64 t_x.un, .int .i64 t_x.le] = y5_ at hb b_x
          replace o_x := o_x.grew hb
          replace b_c0 := b_c0.grew hb
          replace b_c1 := b_c1.grew hb
          replace hB := below_app hB hb hB.size
          clear hb
          go_wp2_with (first | (refine wpList_store_row rfl 52 (.tmp 7) _ rfl (y4_.heap.size) #[.int .i64 t_x.id, .int .i64 t_x.si, .int .i64 t_x.sr, .int .i64 t_x.cl, .int .i64 t_x.pt.kd, .int .i64 t_x.pt.wh, .int .i64 t_x.pt.sr, .int .i64 t_x.pt.tr, .int .i64 t_x.pt.pi, .int .i64 t_x.pt.le, .int .i64 t_x.pt.zo, .int .i64 t_x.gd.kd, .int .i64 t_x.gd.nn, .int .i64 t_x.ac.kd, .int .i64 t_x.ac.nn, .int .i64 t_x.ac.pi, .int .i64 t_x.ac.si, .int .i64 t_x.ac.zo, .bool t_x.ac.be, .slice t_x.ac.la t_x.ac.ln t_x.ac.lcap, .int .i64 t_x.un, .int .i64 t_x.le] (by rfl) (by rfl) _ _ zx (by kernel_rfl) (by rfl) (by simp [Value.oneCell']) ?_; rw [hVx]) | (refine wpList_load_row rfl 46 _ rfl (w.heap.size + 1) (by rfl) _ _ _ _ b_c1 Try.underlying46 rfl (by kernel_rfl) ?_))
          refine (toEffect_ans p1 _ (ef_grew k_c1 hB) n_c1).mono ?_
          rintro e y6_ ⟨t_z, rfl, hb, o_z, e_z⟩
          clear zx hVx
          as_aux_lemma =>
            replace o_x := o_x.grew hb
            replace b_c0 := b_c0.grew hb
            replace b_c1 := b_c1.grew hb
            replace b_x := b_x.grew hb
            replace hB := below_app hB hb hB.size
            clear hb
            have zx := boxR_new y6_ 52 #[.int .i64 0, .int .i64 0, .int .i64 0, .int .i64 0, .int .i64 0, .int .i64 0, .int .i64 0, .int .i64 0, .int .i64 0, .int .i64 0, .int .i64 0, .int .i64 0, .int .i64 0, .int .i64 0, .int .i64 0, .int .i64 0, .int .i64 0, .int .i64 0, .bool false, .slice none 0 0, .int .i64 0, .int .i64 0]
            have hb := below_setRow ((Below.refl _ y6_).alloc (Nat.le_refl _) (.cells #[.int .i64 0, .int .i64 0, .int .i64 0, .int .i64 0, .int .i64 0, .int .i64 0, .int .i64 0, .int .i64 0, .int .i64 0, .int .i64 0, .int .i64 0, .int .i64 0, .int .i64 0, .int .i64 0, .int .i64 0, .int .i64 0, .int .i64 0, .int .i64 0, .bool false, .slice none 0 0, .int .i64 0, .int .i64 0] 52)) (Nat.le_refl _) #[.int .i64 t_z.id, .int .i64 t_z.si, .int .i64 t_z.sr, .int .i64 t_z.cl, .int .i64 t_z.pt.kd, .int .i64 t_z.pt.wh, .int .i64 t_z.pt.sr, .int .i64 t_z.pt.tr, .int .i64 t_z.pt.pi, .int .i64 t_z.pt.le, .int .i64 t_z.pt.zo, .int .i64 t_z.gd.kd, .int .i64 t_z.gd.nn, .int .i64 t_z.ac.kd, .int .i64 t_z.ac.nn, .int .i64 t_z.ac.pi, .int .i64 t_z.ac.si, .int .i64 t_z.ac.zo, .bool t_z.ac.be, .slice t_z.ac.la t_z.ac.ln t_z.ac.lcap, .int .i64 t_z.un, .int .i64 t_z.le]
            have b_z : BoxR ((y6_.alloc (.cells #[.int .i64 0, .int .i64 0, .int .i64 0, .int .i64 0, .int .i64 0, .int .i64 0, .int .i64 0, .int .i64 0, .int .i64 0, .int .i64 0, .int .i64 0, .int .i64 0, .int .i64 0, .int .i64 0, .int .i64 0, .int .i64 0, .int .i64 0, .int .i64 0, .bool false, .slice none 0 0, .int .i64 0, .int .i64 0] 52)).setRow y6_.heap.size #[.int .i64 t_z.id, .int .i64 t_z.si, .int .i64 t_z.sr, .int .i64 t_z.cl, .int .i64 t_z.pt.kd, .int .i64 t_z.pt.wh, .int .i64 t_z.pt.sr, .int .i64 t_z.pt.tr, .int .i64 t_z.pt.pi, .int .i64 t_z.pt.le, .int .i64 t_z.pt.zo, .int .i64 t_z.gd.kd, .int .i64 t_z.gd.nn, .int .i64 t_z.ac.kd, .int .i64 t_z.ac.nn, .int .i64 t_z.ac.pi, .int .i64 t_z.ac.si, .int .i64 t_z.ac.zo, .bool t_z.ac.be, .slice t_z.ac.la t_z.ac.ln t_z.ac.lcap, .int .i64 t_z.un, .int .i64 t_z.le]) y6_.heap.size 52 #[.int .i64 t_z.id, .int .i64 t_z.si, .int .i64 t_z.sr, .int .i64 t_z.cl, .int .i64 t_z.pt.kd, .int .i64 t_z.pt.wh, .int .i64 t_z.pt.sr, .int .i64 t_z.pt.tr, .int .i64 t_z.pt.pi, .int .i64 t_z.pt.le, .int .i64 t_z.pt.zo, .int .i64 t_z.gd.kd, .int .i64 t_z.gd.nn, .int .i64 t_z.ac.kd, .int .i64 t_z.ac.nn, .int .i64 t_z.ac.pi, .int .i64 t_z.ac.si, .int .i64 t_z.ac.zo, .bool t_z.ac.be, .slice t_z.ac.la t_z.ac.ln t_z.ac.lcap, .int .i64 t_z.un, .int .i64 t_z.le] := setRow_heap _ _ _ _ _ _ zx
            generalize hVx : (y6_.alloc (.cells #[.int .i64 0, .int .i64 0, .int .i64 0, .int .i64 0, .int .i64 0, .int .i64 0, .int .i64 0, .int .i64 0, .int .i64 0, .int .i64 0, .int .i64 0, .int .i64 0, .int .i64 0, .int .i64 0, .int .i64 0, .int .i64 0, .int .i64 0, .int .i64 0, .bool false, .slice none 0 0, .int .i64 0, .int .i64 0] 52)).setRow y6_.heap.size #[.int .i64 t_z.id, .int .i64 t_z.si, .int .i64 t_z.sr, .int .i64 t_z.cl, .int .i64 t_z.pt.kd, .int .i64 t_z.pt.wh, .int .i64 t_z.pt.sr, .int .i64 t_z.pt.tr, .int .i64 t_z.pt.pi, .int .i64 t_z.pt.le, .int .i64 t_z.pt.zo, .int .i64 t_z.gd.kd, .int .i64 t_z.gd.nn, .int .i64 t_z.ac.kd, .int .i64 t_z.ac.nn, .int .i64 t_z.ac.pi, .int .i64 t_z.ac.si, .int .i64 t_z.ac.zo, .bool t_z.ac.be, .slice t_z.ac.la t_z.ac.ln t_z.ac.lcap, .int .i64 t_z.un, .int .i64 t_z.le] = y7_ at hb b_z
            replace o_x := o_x.grew hb
            replace o_z := o_z.grew hb
            replace b_c0 := b_c0.grew hb
            replace b_c1 := b_c1.grew hb
            replace b_x := b_x.grew hb
            replace hB := below_app hB hb hB.size
            clear hb
            go_wp2_with (first | (refine wpList_store_row rfl 52 (.tmp 8) _ rfl (y6_.heap.size) #[.int .i64 t_z.id, .int .i64 t_z.si, .int .i64 t_z.sr, .int .i64 t_z.cl, .int .i64 t_z.pt.kd, .int .i64 t_z.pt.wh, .int .i64 t_z.pt.sr, .int .i64 t_z.pt.tr, .int .i64 t_z.pt.pi, .int .i64 t_z.pt.le, .int .i64 t_z.pt.zo, .int .i64 t_z.gd.kd, .int .i64 t_z.gd.nn, .int .i64 t_z.ac.kd, .int .i64 t_z.ac.nn, .int .i64 t_z.ac.pi, .int .i64 t_z.ac.si, .int .i64 t_z.ac.zo, .bool t_z.ac.be, .slice t_z.ac.la t_z.ac.ln t_z.ac.lcap, .int .i64 t_z.un, .int .i64 t_z.le] (by rfl) (by rfl) _ _ zx (by kernel_rfl) (by rfl) (by simp [Value.oneCell']) ?_; rw [hVx]) | (refine wpList_load_row rfl 52 _ rfl (y4_.heap.size) (by rfl) _ _ _ _ b_x Try.underlying52 rfl (by kernel_rfl) ?_) | (refine wpList_load_row rfl 52 _ rfl (y6_.heap.size) (by rfl) _ _ _ _ b_z Try.underlying52 rfl (by kernel_rfl) ?_))
            refine (implSameEffect_al o_x e_x o_z e_z k_c0 k_c1 n_c0).mono ?_
            rintro e y8_ ⟨rfl, hb⟩
            clear zx hVx
            as_aux_lemma =>
              replace o_x := o_x.grew hb
              replace o_z := o_z.grew hb
              replace b_c0 := b_c0.grew hb
              replace b_c1 := b_c1.grew hb
              replace b_x := b_x.grew hb
              replace b_z := b_z.grew hb
              replace hB := below_app hB hb hB.size
              clear hb
              go_wp2_with fail
              refine wp_cutT (fun t : Ef => [(35, (.agg #[.int .i64 t_x.id, .int .i64 t_x.si, .int .i64 t_x.sr, .int .i64 t_x.cl, .int .i64 t_x.pt.kd, .int .i64 t_x.pt.wh, .int .i64 t_x.pt.sr, .int .i64 t_x.pt.tr, .int .i64 t_x.pt.pi, .int .i64 t_x.pt.le, .int .i64 t_x.pt.zo, .int .i64 t_x.gd.kd, .int .i64 t_x.gd.nn, .int .i64 t_x.ac.kd, .int .i64 t_x.ac.nn, .int .i64 t_x.ac.pi, .int .i64 t_x.ac.si, .int .i64 t_x.ac.zo, .bool t_x.ac.be, .slice t_x.ac.la t_x.ac.ln t_x.ac.lcap, .int .i64 t_x.un, .int .i64 t_x.le])), (36, (.agg #[.int .i64 p0.id, .int .i64 p0.si, .int .i64 p0.sr, .int .i64 p0.cl, .int .i64 p0.pt.kd, .int .i64 p0.pt.wh, .int .i64 p0.pt.sr, .int .i64 p0.pt.tr, .int .i64 p0.pt.pi, .int .i64 p0.pt.le, .int .i64 p0.pt.zo, .int .i64 p0.gd.kd, .int .i64 p0.gd.nn, .int .i64 p0.ac.kd, .int .i64 p0.ac.nn, .int .i64 p0.ac.pi, .int .i64 p0.ac.si, .int .i64 p0.ac.zo, .bool p0.ac.be, .slice p0.ac.la p0.ac.ln p0.ac.lcap, .int .i64 p0.un, .int .i64 p0.le])), (37, (.agg #[.int .i64 t.id, .int .i64 t.si, .int .i64 t.sr, .int .i64 t.cl, .int .i64 t.pt.kd, .int .i64 t.pt.wh, .int .i64 t.pt.sr, .int .i64 t.pt.tr, .int .i64 t.pt.pi, .int .i64 t.pt.le, .int .i64 t.pt.zo, .int .i64 t.gd.kd, .int .i64 t.gd.nn, .int .i64 t.ac.kd, .int .i64 t.ac.nn, .int .i64 t.ac.pi, .int .i64 t.ac.si, .int .i64 t.ac.zo, .bool t.ac.be, .slice t.ac.la t.ac.ln t.ac.lcap, .int .i64 t.un, .int .i64 t.le])), (38, .bool true), (39, .bool false)]) (fun _ u => Below y8_.heap.size y8_ u) ?_ ?_
              · have hq0 : Below y8_.heap.size y8_ y8_.drew := (Below.refl _ y8_).drew
                have bx0 := b_x.grew hq0
                have bc0 := b_c0.grew hq0
                refine wp_region_held_drew (S := fun u : World => BoxR u (y4_.heap.size) 52 #[.int .i64 t_x.id, .int .i64 t_x.si, .int .i64 t_x.sr, .int .i64 t_x.cl, .int .i64 t_x.pt.kd, .int .i64 t_x.pt.wh, .int .i64 t_x.pt.sr, .int .i64 t_x.pt.tr, .int .i64 t_x.pt.pi, .int .i64 t_x.pt.le, .int .i64 t_x.pt.zo, .int .i64 t_x.gd.kd, .int .i64 t_x.gd.nn, .int .i64 t_x.ac.kd, .int .i64 t_x.ac.nn, .int .i64 t_x.ac.pi, .int .i64 t_x.ac.si, .int .i64 t_x.ac.zo, .bool t_x.ac.be, .slice t_x.ac.la t_x.ac.ln t_x.ac.lcap, .int .i64 t_x.un, .int .i64 t_x.le] ∧ BoxR u (w.heap.size) 46 #[.int .i64 p0.id, .int .i64 p0.si, .int .i64 p0.sr, .int .i64 p0.cl, .int .i64 p0.pt.kd, .int .i64 p0.pt.wh, .int .i64 p0.pt.sr, .int .i64 p0.pt.tr, .int .i64 p0.pt.pi, .int .i64 p0.pt.le, .int .i64 p0.pt.zo, .int .i64 p0.gd.kd, .int .i64 p0.gd.nn, .int .i64 p0.ac.kd, .int .i64 p0.ac.nn, .int .i64 p0.ac.pi, .int .i64 p0.ac.si, .int .i64 p0.ac.zo, .bool p0.ac.be, .slice p0.ac.la p0.ac.ln p0.ac.lcap, .int .i64 p0.un, .int .i64 p0.le]) (by kernel_rfl) ⟨bx0, bc0⟩ (fun hHeld => ?_)
                refine wpAnyH_take (i := 0) (v := .agg #[.int .i64 t_x.id, .int .i64 t_x.si, .int .i64 t_x.sr, .int .i64 t_x.cl, .int .i64 t_x.pt.kd, .int .i64 t_x.pt.wh, .int .i64 t_x.pt.sr, .int .i64 t_x.pt.tr, .int .i64 t_x.pt.pi, .int .i64 t_x.pt.le, .int .i64 t_x.pt.zo, .int .i64 t_x.gd.kd, .int .i64 t_x.gd.nn, .int .i64 t_x.ac.kd, .int .i64 t_x.ac.nn, .int .i64 t_x.ac.pi, .int .i64 t_x.ac.si, .int .i64 t_x.ac.zo, .bool t_x.ac.be, .slice t_x.ac.la t_x.ac.ln t_x.ac.lcap, .int .i64 t_x.un, .int .i64 t_x.le]) rfl (by kernel_rfl) (by kernel_rfl) (by kernel_rfl) (fun _ _ _ h => h) (yieldsIf_load_mid (by rfl) 52 (.tmp 7) rfl (y4_.heap.size) 0 (by rfl) (#[.int .i64 t_x.id, .int .i64 t_x.si, .int .i64 t_x.sr, .int .i64 t_x.cl, .int .i64 t_x.pt.kd, .int .i64 t_x.pt.wh, .int .i64 t_x.pt.sr, .int .i64 t_x.pt.tr, .int .i64 t_x.pt.pi, .int .i64 t_x.pt.le, .int .i64 t_x.pt.zo, .int .i64 t_x.gd.kd, .int .i64 t_x.gd.nn, .int .i64 t_x.ac.kd, .int .i64 t_x.ac.nn, .int .i64 t_x.ac.pi, .int .i64 t_x.ac.si, .int .i64 t_x.ac.zo, .bool t_x.ac.be, .slice t_x.ac.la t_x.ac.ln t_x.ac.lcap, .int .i64 t_x.un, .int .i64 t_x.le] : Array Value).toList _ (fun u hu => BoxR.range hu.1) Try.underlying52 rfl (by kernel_rfl)) hHeld ?_
                try simp only [Act.put, List.setIfInBounds_toArray, List.set_cons_zero, List.set_cons_succ]
                refine wpAnyH_take (i := 1) (v := .agg #[.int .i64 p0.id, .int .i64 p0.si, .int .i64 p0.sr, .int .i64 p0.cl, .int .i64 p0.pt.kd, .int .i64 p0.pt.wh, .int .i64 p0.pt.sr, .int .i64 p0.pt.tr, .int .i64 p0.pt.pi, .int .i64 p0.pt.le, .int .i64 p0.pt.zo, .int .i64 p0.gd.kd, .int .i64 p0.gd.nn, .int .i64 p0.ac.kd, .int .i64 p0.ac.nn, .int .i64 p0.ac.pi, .int .i64 p0.ac.si, .int .i64 p0.ac.zo, .bool p0.ac.be, .slice p0.ac.la p0.ac.ln p0.ac.lcap, .int .i64 p0.un, .int .i64 p0.le]) rfl (by kernel_rfl) (by kernel_rfl) (by kernel_rfl) (fun _ _ _ h => h) (yieldsIf_load_mid (by rfl) 46 (.tmp 2) rfl (w.heap.size) 0 (by rfl) (#[.int .i64 p0.id, .int .i64 p0.si, .int .i64 p0.sr, .int .i64 p0.cl, .int .i64 p0.pt.kd, .int .i64 p0.pt.wh, .int .i64 p0.pt.sr, .int .i64 p0.pt.tr, .int .i64 p0.pt.pi, .int .i64 p0.pt.le, .int .i64 p0.pt.zo, .int .i64 p0.gd.kd, .int .i64 p0.gd.nn, .int .i64 p0.ac.kd, .int .i64 p0.ac.nn, .int .i64 p0.ac.pi, .int .i64 p0.ac.si, .int .i64 p0.ac.zo, .bool p0.ac.be, .slice p0.ac.la p0.ac.ln p0.ac.lcap, .int .i64 p0.un, .int .i64 p0.le] : Array Value).toList _ (fun u hu => BoxR.range hu.2) Try.underlying46 rfl (by kernel_rfl)) hHeld ?_
                try simp only [Act.put, List.setIfInBounds_toArray, List.set_cons_zero, List.set_cons_succ]
                refine wpAnyH_ready (rs := [2]) (by kernel_rfl) (by simp) ?_
                refine AllReadyH.cons rfl (fun K' hK => ?_) AllReadyH.nil
                go_simp
                go_at_call 22
                refine (toEffect_ans p0 y8_.drew (ef_grew k_c0 (below_app hB hq0 hB.size)) n_c0).mono ?_
                rintro e v1 ⟨t1, rfl, hb1, ot, et⟩
                have hq1 := below_app hq0 hb1 hq0.size
                refine hK.out _ _ ⟨b_x.grew hq1, b_c0.grew hq1⟩ (fun hHeld => ?_)
                clear hK
                try simp only [Act.put, List.setIfInBounds_toArray, List.set_cons_zero, List.set_cons_succ]
                refine wpAnyH_ready (rs := [3]) (by kernel_rfl) (by simp) ?_
                refine AllReadyH.cons rfl (fun K' hK => ?_) AllReadyH.nil
                go_simp
                go_at_call 24
                refine (eqEffect_alike t_x t1 p0 _ (o_x.grew hq1) ot e_x et (by omega)).mono ?_
                rintro e v2 ⟨rfl, hb2⟩
                have hq2 := below_app hq1 hb2 hq1.size
                refine hK.out _ _ ⟨b_x.grew hq2, b_c0.grew hq2⟩ (fun hHeld => ?_)
                clear hK
                try simp only [Act.put, List.setIfInBounds_toArray, List.set_cons_zero, List.set_cons_succ]
                refine wpAnyH_take (i := 4) (oi := ⟨some 39, .unOp .not 4 (.tmp 38), 4, _, _, none⟩) (v := .bool false) rfl (by kernel_rfl) (by kernel_rfl) (by kernel_rfl) (fun _ _ _ h => h) (Or.inl ⟨by rfl, fun u hSu => by go_simp⟩) hHeld ?_
                try simp only [Act.put, List.setIfInBounds_toArray, List.set_cons_zero, List.set_cons_succ]
                refine wpAnyH_done (by kernel_rfl) ?_ _
                exact ⟨t1, rfl, hq2⟩
              rintro t_ y9_ hb
              simp only [puts, List.foldl, Act.put, List.setIfInBounds_toArray, List.set_cons_zero, List.set_cons_succ]
              replace o_x := o_x.grew hb
              replace o_z := o_z.grew hb
              replace b_c0 := b_c0.grew hb
              replace b_c1 := b_c1.grew hb
              replace b_x := b_x.grew hb
              replace b_z := b_z.grew hb
              replace hB := below_app hB hb hB.size
              clear hb
              as_aux_lemma =>
                go_wp2_with fail
                refine wp_cutT (fun t : Ef => [(40, (.agg #[.int .i64 t_z.id, .int .i64 t_z.si, .int .i64 t_z.sr, .int .i64 t_z.cl, .int .i64 t_z.pt.kd, .int .i64 t_z.pt.wh, .int .i64 t_z.pt.sr, .int .i64 t_z.pt.tr, .int .i64 t_z.pt.pi, .int .i64 t_z.pt.le, .int .i64 t_z.pt.zo, .int .i64 t_z.gd.kd, .int .i64 t_z.gd.nn, .int .i64 t_z.ac.kd, .int .i64 t_z.ac.nn, .int .i64 t_z.ac.pi, .int .i64 t_z.ac.si, .int .i64 t_z.ac.zo, .bool t_z.ac.be, .slice t_z.ac.la t_z.ac.ln t_z.ac.lcap, .int .i64 t_z.un, .int .i64 t_z.le])), (41, (.agg #[.int .i64 p1.id, .int .i64 p1.si, .int .i64 p1.sr, .int .i64 p1.cl, .int .i64 p1.pt.kd, .int .i64 p1.pt.wh, .int .i64 p1.pt.sr, .int .i64 p1.pt.tr, .int .i64 p1.pt.pi, .int .i64 p1.pt.le, .int .i64 p1.pt.zo, .int .i64 p1.gd.kd, .int .i64 p1.gd.nn, .int .i64 p1.ac.kd, .int .i64 p1.ac.nn, .int .i64 p1.ac.pi, .int .i64 p1.ac.si, .int .i64 p1.ac.zo, .bool p1.ac.be, .slice p1.ac.la p1.ac.ln p1.ac.lcap, .int .i64 p1.un, .int .i64 p1.le])), (42, (.agg #[.int .i64 t.id, .int .i64 t.si, .int .i64 t.sr, .int .i64 t.cl, .int .i64 t.pt.kd, .int .i64 t.pt.wh, .int .i64 t.pt.sr, .int .i64 t.pt.tr, .int .i64 t.pt.pi, .int .i64 t.pt.le, .int .i64 t.pt.zo, .int .i64 t.gd.kd, .int .i64 t.gd.nn, .int .i64 t.ac.kd, .int .i64 t.ac.nn, .int .i64 t.ac.pi, .int .i64 t.ac.si, .int .i64 t.ac.zo, .bool t.ac.be, .slice t.ac.la t.ac.ln t.ac.lcap, .int .i64 t.un, .int .i64 t.le])), (43, .bool true), (44, .bool false)]) (fun _ u => Below y9_.heap.size y9_ u) ?_ ?_
                · have hq0 : Below y9_.heap.size y9_ y9_.drew := (Below.refl _ y9_).drew
                  have bx0 := b_z.grew hq0
                  have bc0 := b_c1.grew hq0
                  refine wp_region_held_drew (S := fun u : World => BoxR u (y6_.heap.size) 52 #[.int .i64 t_z.id, .int .i64 t_z.si, .int .i64 t_z.sr, .int .i64 t_z.cl, .int .i64 t_z.pt.kd, .int .i64 t_z.pt.wh, .int .i64 t_z.pt.sr, .int .i64 t_z.pt.tr, .int .i64 t_z.pt.pi, .int .i64 t_z.pt.le, .int .i64 t_z.pt.zo, .int .i64 t_z.gd.kd, .int .i64 t_z.gd.nn, .int .i64 t_z.ac.kd, .int .i64 t_z.ac.nn, .int .i64 t_z.ac.pi, .int .i64 t_z.ac.si, .int .i64 t_z.ac.zo, .bool t_z.ac.be, .slice t_z.ac.la t_z.ac.ln t_z.ac.lcap, .int .i64 t_z.un, .int .i64 t_z.le] ∧ BoxR u (w.heap.size + 1) 46 #[.int .i64 p1.id, .int .i64 p1.si, .int .i64 p1.sr, .int .i64 p1.cl, .int .i64 p1.pt.kd, .int .i64 p1.pt.wh, .int .i64 p1.pt.sr, .int .i64 p1.pt.tr, .int .i64 p1.pt.pi, .int .i64 p1.pt.le, .int .i64 p1.pt.zo, .int .i64 p1.gd.kd, .int .i64 p1.gd.nn, .int .i64 p1.ac.kd, .int .i64 p1.ac.nn, .int .i64 p1.ac.pi, .int .i64 p1.ac.si, .int .i64 p1.ac.zo, .bool p1.ac.be, .slice p1.ac.la p1.ac.ln p1.ac.lcap, .int .i64 p1.un, .int .i64 p1.le]) (by kernel_rfl) ⟨bx0, bc0⟩ (fun hHeld => ?_)
                  refine wpAnyH_take (i := 0) (v := .agg #[.int .i64 t_z.id, .int .i64 t_z.si, .int .i64 t_z.sr, .int .i64 t_z.cl, .int .i64 t_z.pt.kd, .int .i64 t_z.pt.wh, .int .i64 t_z.pt.sr, .int .i64 t_z.pt.tr, .int .i64 t_z.pt.pi, .int .i64 t_z.pt.le, .int .i64 t_z.pt.zo, .int .i64 t_z.gd.kd, .int .i64 t_z.gd.nn, .int .i64 t_z.ac.kd, .int .i64 t_z.ac.nn, .int .i64 t_z.ac.pi, .int .i64 t_z.ac.si, .int .i64 t_z.ac.zo, .bool t_z.ac.be, .slice t_z.ac.la t_z.ac.ln t_z.ac.lcap, .int .i64 t_z.un, .int .i64 t_z.le]) rfl (by kernel_rfl) (by kernel_rfl) (by kernel_rfl) (fun _ _ _ h => h) (yieldsIf_load_mid (by rfl) 52 (.tmp 8) rfl (y6_.heap.size) 0 (by rfl) (#[.int .i64 t_z.id, .int .i64 t_z.si, .int .i64 t_z.sr, .int .i64 t_z.cl, .int .i64 t_z.pt.kd, .int .i64 t_z.pt.wh, .int .i64 t_z.pt.sr, .int .i64 t_z.pt.tr, .int .i64 t_z.pt.pi, .int .i64 t_z.pt.le, .int .i64 t_z.pt.zo, .int .i64 t_z.gd.kd, .int .i64 t_z.gd.nn, .int .i64 t_z.ac.kd, .int .i64 t_z.ac.nn, .int .i64 t_z.ac.pi, .int .i64 t_z.ac.si, .int .i64 t_z.ac.zo, .bool t_z.ac.be, .slice t_z.ac.la t_z.ac.ln t_z.ac.lcap, .int .i64 t_z.un, .int .i64 t_z.le] : Array Value).toList _ (fun u hu => BoxR.range hu.1) Try.underlying52 rfl (by kernel_rfl)) hHeld ?_
                  try simp only [Act.put, List.setIfInBounds_toArray, List.set_cons_zero, List.set_cons_succ]
                  refine wpAnyH_take (i := 1) (v := .agg #[.int .i64 p1.id, .int .i64 p1.si, .int .i64 p1.sr, .int .i64 p1.cl, .int .i64 p1.pt.kd, .int .i64 p1.pt.wh, .int .i64 p1.pt.sr, .int .i64 p1.pt.tr, .int .i64 p1.pt.pi, .int .i64 p1.pt.le, .int .i64 p1.pt.zo, .int .i64 p1.gd.kd, .int .i64 p1.gd.nn, .int .i64 p1.ac.kd, .int .i64 p1.ac.nn, .int .i64 p1.ac.pi, .int .i64 p1.ac.si, .int .i64 p1.ac.zo, .bool p1.ac.be, .slice p1.ac.la p1.ac.ln p1.ac.lcap, .int .i64 p1.un, .int .i64 p1.le]) rfl (by kernel_rfl) (by kernel_rfl) (by kernel_rfl) (fun _ _ _ h => h) (yieldsIf_load_mid (by rfl) 46 (.tmp 3) rfl (w.heap.size + 1) 0 (by rfl) (#[.int .i64 p1.id, .int .i64 p1.si, .int .i64 p1.sr, .int .i64 p1.cl, .int .i64 p1.pt.kd, .int .i64 p1.pt.wh, .int .i64 p1.pt.sr, .int .i64 p1.pt.tr, .int .i64 p1.pt.pi, .int .i64 p1.pt.le, .int .i64 p1.pt.zo, .int .i64 p1.gd.kd, .int .i64 p1.gd.nn, .int .i64 p1.ac.kd, .int .i64 p1.ac.nn, .int .i64 p1.ac.pi, .int .i64 p1.ac.si, .int .i64 p1.ac.zo, .bool p1.ac.be, .slice p1.ac.la p1.ac.ln p1.ac.lcap, .int .i64 p1.un, .int .i64 p1.le] : Array Value).toList _ (fun u hu => BoxR.range hu.2) Try.underlying46 rfl (by kernel_rfl)) hHeld ?_
                  try simp only [Act.put, List.setIfInBounds_toArray, List.set_cons_zero, List.set_cons_succ]
                  refine wpAnyH_ready (rs := [2]) (by kernel_rfl) (by simp) ?_
                  refine AllReadyH.cons rfl (fun K' hK => ?_) AllReadyH.nil
                  go_simp
                  go_at_call 22
                  refine (toEffect_ans p1 y9_.drew (ef_grew k_c1 (below_app hB hq0 hB.size)) n_c1).mono ?_
                  rintro e v1 ⟨t1, rfl, hb1, ot, et⟩
                  have hq1 := below_app hq0 hb1 hq0.size
                  refine hK.out _ _ ⟨b_z.grew hq1, b_c1.grew hq1⟩ (fun hHeld => ?_)
                  clear hK
                  try simp only [Act.put, List.setIfInBounds_toArray, List.set_cons_zero, List.set_cons_succ]
                  refine wpAnyH_ready (rs := [3]) (by kernel_rfl) (by simp) ?_
                  refine AllReadyH.cons rfl (fun K' hK => ?_) AllReadyH.nil
                  go_simp
                  go_at_call 24
                  refine (eqEffect_alike t_z t1 p1 _ (o_z.grew hq1) ot e_z et (by omega)).mono ?_
                  rintro e v2 ⟨rfl, hb2⟩
                  have hq2 := below_app hq1 hb2 hq1.size
                  refine hK.out _ _ ⟨b_z.grew hq2, b_c1.grew hq2⟩ (fun hHeld => ?_)
                  clear hK
                  try simp only [Act.put, List.setIfInBounds_toArray, List.set_cons_zero, List.set_cons_succ]
                  refine wpAnyH_take (i := 4) (oi := ⟨some 44, .unOp .not 4 (.tmp 43), 4, _, _, none⟩) (v := .bool false) rfl (by kernel_rfl) (by kernel_rfl) (by kernel_rfl) (fun _ _ _ h => h) (Or.inl ⟨by rfl, fun u hSu => by go_simp⟩) hHeld ?_
                  try simp only [Act.put, List.setIfInBounds_toArray, List.set_cons_zero, List.set_cons_succ]
                  refine wpAnyH_done (by kernel_rfl) ?_ _
                  exact ⟨t1, rfl, hq2⟩
                rintro t_ y10_ hb
                simp only [puts, List.foldl, Act.put, List.setIfInBounds_toArray, List.set_cons_zero, List.set_cons_succ]
                replace o_x := o_x.grew hb
                replace o_z := o_z.grew hb
                replace b_c0 := b_c0.grew hb
                replace b_c1 := b_c1.grew hb
                replace b_x := b_x.grew hb
                replace b_z := b_z.grew hb
                replace hB := below_app hB hb hB.size
                clear hb
                go_wp2
                go_ret
                exact ⟨rfl, below_app hBw hB hsz⟩

set_option maxRecDepth 100000 in
theorem lifted (os : Os) (started : os.Started) (H : Type) (enc : TypeId × Value → H) :
    ReturnsInHanded {} Try.checked os 6 .any (Rows.fnExactSameEffectSpec.pre6 enc Try.prog Try.f6 Rows.fnExactSameEffectRow.domain false) (Rows.fnExactSameEffectSpec.post enc Try.prog Try.f6 false true false false) := by
  refine returnsInHanded_of_change (C := Try.checked) own started (by kernel_rfl) Try.func6
    (ChangeSpec.witness6 (enc := enc) (C := Try.checked) false ⟨#[], #[.agg #[.int .i64 0, .int .i64 0, .int .i64 0, .int .i64 0, .int .i64 0, .int .i64 0, .int .i64 0, .int .i64 0, .int .i64 0, .int .i64 0, .int .i64 0, .int .i64 0, .int .i64 0, .int .i64 0, .int .i64 0, .int .i64 0, .int .i64 0, .int .i64 0, .bool false, .slice none 0 0, .int .i64 0, .int .i64 0], .agg #[.int .i64 0, .int .i64 0, .int .i64 0, .int .i64 0, .int .i64 0, .int .i64 0, .int .i64 0, .int .i64 0, .int .i64 0, .int .i64 0, .int .i64 0, .int .i64 0, .int .i64 0, .int .i64 0, .int .i64 0, .int .i64 0, .int .i64 0, .int .i64 0, .bool false, .slice none 0 0, .int .i64 0, .int .i64 0]], []⟩ 8 (by kernel_rfl) (by kernel_rfl) (by kernel_rfl) (by kernel_rfl)) ?_
  intro W base args ds gs before hval0 hW hcnd _
  have hval : ∀ (j : Nat) t v, Try.f6.params[j]? = some t → args[j]? = some v → Value.okWide Try.prog W .any base t v := hval0
  have hW' := hW
  obtain ⟨p, q, hA0, hV, rfl, hfz, hnd⟩ := hW
  have hA : DataW.TrodAll enc Try.prog W 0 (fun _ => true) true Try.f6.params.toList args.toList ds p := hA0
  rw [Try.params6] at hA hval
  obtain ⟨v0, vs0, d0, ds0, p0', q0, hargs, rfl, rfl, h0, r0⟩ := trodAll_cons hA
  obtain ⟨v1, vs1, d1, ds1, p1', q1, rfl, rfl, rfl, h1, r1⟩ := trodAll_cons r0
  obtain ⟨rfl, rfl, rfl⟩ := trodAll_nil r1
  obtain rfl : args = #[v0, v1] := by cases args; simp_all
  obtain ⟨rfl, rfl⟩ := trodVars_none hV
  have k0 := h0
  have lt0 : ∀ x ∈ p0', x.block < W.heap.size := by obtain ⟨m, hm⟩ := k0; exact DataW.trod_lt m _ _ _ hm
  obtain ⟨p0, rfl, w0⟩ := open_effect (hval 0 46 v0 rfl rfl) h0
  have k1 := h1
  have lt1 : ∀ x ∈ p1', x.block < W.heap.size := by obtain ⟨m, hm⟩ := k1; exact DataW.trod_lt m _ _ _ hm
  obtain ⟨p1, rfl, w1⟩ := open_effect (hval 1 46 v1 rfl rfl) h1
  clear hA0 hval0
  refine (walk p0 p1 W w0 w1).mono fun e W' ⟨he, bel⟩ => ?_
  subst he
  exact ⟨_, rfl, _, _, _, [], _, [], hW', trodAll_mk1 (shut_bool Try.underlying4 _), (trodAll_cons_mk (Below.trod laidOut (by kernel_rfl) (of_decide_eq_true (by kernel_rfl)) k0 bel lt0) (trodAll_cons_mk (Below.trod laidOut (by kernel_rfl) (of_decide_eq_true (by kernel_rfl)) k1 bel lt1) trodAll_mk0)), rfl, bel.frame _, fun h => by cases h⟩

theorem over : Rows.fnExactSameEffectRow.holds Try.pinned (OpenSpec.ofChange Rows.fnExactSameEffectSpec) :=
  OpenClaim.holds_of_wide 6 Try.f6 rfl rfl rfl rfl rfl rfl rfl ⟨rfl, rfl, rfl, rfl, rfl⟩ rfl rfl rfl rfl rfl (by kernel_rfl) Try.func6 (by kernel_rfl)
    (of_decide_eq_true (by kernel_rfl)) (by unfold Func.isWrapper; first | (rw [if_pos (by decide +kernel)]; kernel_rfl) | (rw [if_neg (by decide +kernel)]; exact ⟨rfl, rfl⟩))
    (fun os started H enc _ => lifted os started H enc)

theorem proved : Rows.FnExactSameEffectSaid := over
#print axioms proved
end Go.Proofs.Ythemmhocnkpcjas.fnExactSameEffect
