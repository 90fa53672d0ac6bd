/-
  What is proved: at every two pieces, the law FnExactSamePiece answers true: the program's SamePiece and the specification's answer alike; no condition.
-/
import Derived.Test.YthhmfbegbhndaamRows
import Derived.Test.YthhmfbegbhndaamSeg
import Derived.Test.YthhmfbegbhndaamRegCut
import Derived.Test.YthhmfbegbhndaamRegTail
import Derived.Test.YthhmfbegbhndaamCur
import Derived.Test.YthhmfbegbhndaamRow
import Derived.Test.YthhmfbegbhndaamRowLaw
import Derived.Test.YthhmfbegbhndaamRegBelow
import Derived.Test.YthhmfbegbhndaamNum
import Derived.Test.YthhmfbegbhndaamPiece
import Derived.Test.YthhmfbegbhndaamPiece2
import Derived.Test.YthhmfbegbhndaamPiece3
import Derived.Test.YthhmfbegbhndaamPieceI1
import Derived.WalkKit
import Derived.ProofKit
import Derived.OpenShut
import Derived.ShutString
import Derived.ChangeOld
import Derived.Below
namespace Go.Proofs.Ythhmfbegbhndaam.fnExactSamePiece
open Go.ChangeShapes Go.WideShapes Go.ChangeAt Go.RowKit
set_option linter.unusedVariables false

theorem own : ownKnob Try.prog.godebug = none := by kernel_rfl
theorem laidOut : laidOutB Try.prog = true := by kernel_rfl

def IsRow (k : IntKind) (w : World) (a : Option Addr) (len cap : Nat) (zs : List Int) : Prop :=
  (a = none ∧ len = 0 ∧ cap = 0 ∧ zs = []) ∨
  ∃ x, a = some x ∧ len ≤ cap ∧ cap ≤ maxLen ∧ zs.length = cap ∧ (∀ i, i < zs.length → w.cell? (x.add i) = some (.int k (zs.getD i 0))) ∧ ∀ n ∈ zs, (Lit.int k n).wf = true

set_option maxHeartbeats 2000000 in
theorem walk (p0 : Pc) (p1 : Pc) (w : World) (w0 : p0.wf) (w1 : p1.wf) :
    Calls Try.prog 8 #[.agg #[.int .i64 p0.id, .int .i64 p0.ow, .int .i64 p0.si, .int .i64 p0.zo, .int .i64 p0.st, .int .i64 p0.po, .int .i64 p0.to, .int .i64 p0.tr, .int .i64 p0.pl, .int .i64 p0.mi, .int .i64 p0.ma, .bool p0.de, .bool p0.be], .agg #[.int .i64 p1.id, .int .i64 p1.ow, .int .i64 p1.si, .int .i64 p1.zo, .int .i64 p1.st, .int .i64 p1.po, .int .i64 p1.to, .int .i64 p1.tr, .int .i64 p1.pl, .int .i64 p1.mi, .int .i64 p1.ma, .bool p1.de, .bool p1.be]] w fun e w' => e = .returned (.bool true) ∧ Below w.heap.size w w' := by
  have bA := (box_new w 28 p0).alloc (.cells #[.int .i64 p1.id, .int .i64 p1.ow, .int .i64 p1.si, .int .i64 p1.zo, .int .i64 p1.st, .int .i64 p1.po, .int .i64 p1.to, .int .i64 p1.tr, .int .i64 p1.pl, .int .i64 p1.mi, .int .i64 p1.ma, .bool p1.de, .bool p1.be] 28)
  have bB := box_new (w.alloc (.cells #[.int .i64 p0.id, .int .i64 p0.ow, .int .i64 p0.si, .int .i64 p0.zo, .int .i64 p0.st, .int .i64 p0.po, .int .i64 p0.to, .int .i64 p0.tr, .int .i64 p0.pl, .int .i64 p0.mi, .int .i64 p0.ma, .bool p0.de, .bool p0.be] 28)) 28 p1
  rw [World.size_alloc] at bB
  have hB : Below w.heap.size w ((w.alloc (.cells #[.int .i64 p0.id, .int .i64 p0.ow, .int .i64 p0.si, .int .i64 p0.zo, .int .i64 p0.st, .int .i64 p0.po, .int .i64 p0.to, .int .i64 p0.tr, .int .i64 p0.pl, .int .i64 p0.mi, .int .i64 p0.ma, .bool p0.de, .bool p0.be] 28)).alloc (.cells #[.int .i64 p1.id, .int .i64 p1.ow, .int .i64 p1.si, .int .i64 p1.zo, .int .i64 p1.st, .int .i64 p1.po, .int .i64 p1.to, .int .i64 p1.tr, .int .i64 p1.pl, .int .i64 p1.mi, .int .i64 p1.ma, .bool p1.de, .bool p1.be] 28)) := ((Below.refl _ w).alloc (Nat.le_refl _) _).alloc (by simp) _
  generalize hW : (w.alloc (.cells #[.int .i64 p0.id, .int .i64 p0.ow, .int .i64 p0.si, .int .i64 p0.zo, .int .i64 p0.st, .int .i64 p0.po, .int .i64 p0.to, .int .i64 p0.tr, .int .i64 p0.pl, .int .i64 p0.mi, .int .i64 p0.ma, .bool p0.de, .bool p0.be] 28)).alloc (.cells #[.int .i64 p1.id, .int .i64 p1.ow, .int .i64 p1.si, .int .i64 p1.zo, .int .i64 p1.st, .int .i64 p1.po, .int .i64 p1.to, .int .i64 p1.tr, .int .i64 p1.pl, .int .i64 p1.mi, .int .i64 p1.ma, .bool p1.de, .bool p1.be] 28) = W at bA bB hB
  have hsz : w.heap.size ≤ W.heap.size := hB.size
  have mixed : Try.prog.follows Departure.mixedOrders = true := by kernel_rfl
  have tp : ∀ (p : Pc) (u : World), Below W.heap.size W u → Calls Try.prog 22 #[(.agg #[.int .i64 p.id, .int .i64 p.ow, .int .i64 p.si, .int .i64 p.zo, .int .i64 p.st, .int .i64 p.po, .int .i64 p.to, .int .i64 p.tr, .int .i64 p.pl, .int .i64 p.mi, .int .i64 p.ma, .bool p.de, .bool p.be])] u fun e u' => e = .returned (.agg #[.int .i64 p.id, .int .i64 p.ow, .int .i64 p.si, .int .i64 p.zo, .int .i64 p.st, .int .i64 p.po, .int .i64 p.to, .int .i64 p.tr, .int .i64 p.pl, .int .i64 p.mi, .int .i64 p.ma, .bool p.de, .bool p.be]) ∧ Below W.heap.size W u' ∧ Cells13 u' w.heap.size p0 ∧ Cells13 u' (w.heap.size + 1) p1 := fun p u hu => (toPiece_any p u).mono (by rintro e u' ⟨h1, h2⟩; have h3 := below_app hu h2 hu.size; exact ⟨h1, h3, bA.cells13 h3, bB.cells13 h3⟩)
  have ss : ∀ u : World, Below W.heap.size W u → Calls Try.prog 24 #[(.agg #[.int .i64 p0.id, .int .i64 p0.ow, .int .i64 p0.si, .int .i64 p0.zo, .int .i64 p0.st, .int .i64 p0.po, .int .i64 p0.to, .int .i64 p0.tr, .int .i64 p0.pl, .int .i64 p0.mi, .int .i64 p0.ma, .bool p0.de, .bool p0.be]), (.agg #[.int .i64 p1.id, .int .i64 p1.ow, .int .i64 p1.si, .int .i64 p1.zo, .int .i64 p1.st, .int .i64 p1.po, .int .i64 p1.to, .int .i64 p1.tr, .int .i64 p1.pl, .int .i64 p1.mi, .int .i64 p1.ma, .bool p1.de, .bool p1.be])] u fun e u' => e = .returned (.bool (smP p0 p1)) ∧ Below W.heap.size W u' := fun u hu => (specSamePiece_any p0 p1 u).mono (by rintro e u' ⟨h1, h2⟩; exact ⟨h1, below_app hu h2 hu.size⟩)
  have si : ∀ u : World, Below W.heap.size W u → Calls Try.prog 25 #[(.agg #[.int .i64 p0.id, .int .i64 p0.ow, .int .i64 p0.si, .int .i64 p0.zo, .int .i64 p0.st, .int .i64 p0.po, .int .i64 p0.to, .int .i64 p0.tr, .int .i64 p0.pl, .int .i64 p0.mi, .int .i64 p0.ma, .bool p0.de, .bool p0.be]), (.agg #[.int .i64 p1.id, .int .i64 p1.ow, .int .i64 p1.si, .int .i64 p1.zo, .int .i64 p1.st, .int .i64 p1.po, .int .i64 p1.to, .int .i64 p1.tr, .int .i64 p1.pl, .int .i64 p1.mi, .int .i64 p1.ma, .bool p1.de, .bool p1.be])] u fun e u' => e = .returned (.bool (smP p0 p1)) ∧ Below W.heap.size W u' := fun u hu => (implSamePiece_any p0 p1 u).mono (by rintro e u' ⟨h1, h2⟩; exact ⟨h1, below_app hu h2 hu.size⟩)
  obtain ⟨k0, k1, k2, k3, k4, k5, k6, k7, k8, k9, k10, k11, k12⟩ := bA.cells
  obtain ⟨m0, m1, m2, m3, m4, m5, m6, m7, m8, m9, m10, m11, m12⟩ := bB.cells
  go_enter Try.func8, Try.ntmps8
  go_wp2_with fail
  refine wp_cutP (fun _ _ => [(7, (.agg #[.int .i64 p0.id, .int .i64 p0.ow, .int .i64 p0.si, .int .i64 p0.zo, .int .i64 p0.st, .int .i64 p0.po, .int .i64 p0.to, .int .i64 p0.tr, .int .i64 p0.pl, .int .i64 p0.mi, .int .i64 p0.ma, .bool p0.de, .bool p0.be])), (8, (.agg #[.int .i64 p0.id, .int .i64 p0.ow, .int .i64 p0.si, .int .i64 p0.zo, .int .i64 p0.st, .int .i64 p0.po, .int .i64 p0.to, .int .i64 p0.tr, .int .i64 p0.pl, .int .i64 p0.mi, .int .i64 p0.ma, .bool p0.de, .bool p0.be])), (9, (.agg #[.int .i64 p1.id, .int .i64 p1.ow, .int .i64 p1.si, .int .i64 p1.zo, .int .i64 p1.st, .int .i64 p1.po, .int .i64 p1.to, .int .i64 p1.tr, .int .i64 p1.pl, .int .i64 p1.mi, .int .i64 p1.ma, .bool p1.de, .bool p1.be])), (10, (.agg #[.int .i64 p1.id, .int .i64 p1.ow, .int .i64 p1.si, .int .i64 p1.zo, .int .i64 p1.st, .int .i64 p1.po, .int .i64 p1.to, .int .i64 p1.tr, .int .i64 p1.pl, .int .i64 p1.mi, .int .i64 p1.ma, .bool p1.de, .bool p1.be])), (11, .bool (smP p0 p1)), (5, .bool (smP p0 p1))]) (fun _ _ u => Below W.heap.size W u) ?_ ?_
  · have hu := (Below.refl W.heap.size W).drew
    go_region_with_o (first | (go_at_call_of 22 (p0.id); refine (tp p0 _ hu).mono ?_; clear hu; rintro e u ⟨rfl, hu, ⟨k0, k1, k2, k3, k4, k5, k6, k7, k8, k9, k10, k11, k12⟩, ⟨m0, m1, m2, m3, m4, m5, m6, m7, m8, m9, m10, m11, m12⟩⟩) | (go_at_call_of 22 (p1.id); refine (tp p1 _ hu).mono ?_; clear hu; rintro e u ⟨rfl, hu, ⟨k0, k1, k2, k3, k4, k5, k6, k7, k8, k9, k10, k11, k12⟩, ⟨m0, m1, m2, m3, m4, m5, m6, m7, m8, m9, m10, m11, m12⟩⟩) | (go_at_call 24; refine (ss _ hu).mono ?_; clear hu; rintro e u ⟨rfl, hu⟩))
    all_goals exact ⟨0, 0, rfl, hu⟩
  rintro _ _ us h0
  clear k0 k1 k2 k3 k4 k5 k6 k7 k8 k9 k10 k11 k12 m0 m1 m2 m3 m4 m5 m6 m7 m8 m9 m10 m11 m12
  obtain ⟨k0, k1, k2, k3, k4, k5, k6, k7, k8, k9, k10, k11, k12⟩ := bA.cells13 h0
  obtain ⟨m0, m1, m2, m3, m4, m5, m6, m7, m8, m9, m10, m11, m12⟩ := bB.cells13 h0
  simp only [puts, List.foldl, Act.put, List.setIfInBounds_toArray, List.set_cons_zero, List.set_cons_succ]
  go_wp2_with fail
  refine wp_cutP (fun _ _ => [(12, (.agg #[.int .i64 p0.id, .int .i64 p0.ow, .int .i64 p0.si, .int .i64 p0.zo, .int .i64 p0.st, .int .i64 p0.po, .int .i64 p0.to, .int .i64 p0.tr, .int .i64 p0.pl, .int .i64 p0.mi, .int .i64 p0.ma, .bool p0.de, .bool p0.be])), (13, (.agg #[.int .i64 p0.id, .int .i64 p0.ow, .int .i64 p0.si, .int .i64 p0.zo, .int .i64 p0.st, .int .i64 p0.po, .int .i64 p0.to, .int .i64 p0.tr, .int .i64 p0.pl, .int .i64 p0.mi, .int .i64 p0.ma, .bool p0.de, .bool p0.be])), (14, (.agg #[.int .i64 p1.id, .int .i64 p1.ow, .int .i64 p1.si, .int .i64 p1.zo, .int .i64 p1.st, .int .i64 p1.po, .int .i64 p1.to, .int .i64 p1.tr, .int .i64 p1.pl, .int .i64 p1.mi, .int .i64 p1.ma, .bool p1.de, .bool p1.be])), (15, (.agg #[.int .i64 p1.id, .int .i64 p1.ow, .int .i64 p1.si, .int .i64 p1.zo, .int .i64 p1.st, .int .i64 p1.po, .int .i64 p1.to, .int .i64 p1.tr, .int .i64 p1.pl, .int .i64 p1.mi, .int .i64 p1.ma, .bool p1.de, .bool p1.be])), (16, .bool (smP p0 p1)), (6, .bool (smP p0 p1))]) (fun _ _ u => Below W.heap.size W u) ?_ ?_
  · have hu := h0.drew
    go_region_with_o (first | (go_at_call_of 22 (p0.id); refine (tp p0 _ hu).mono ?_; clear hu; rintro e u ⟨rfl, hu, ⟨k0, k1, k2, k3, k4, k5, k6, k7, k8, k9, k10, k11, k12⟩, ⟨m0, m1, m2, m3, m4, m5, m6, m7, m8, m9, m10, m11, m12⟩⟩) | (go_at_call_of 22 (p1.id); refine (tp p1 _ hu).mono ?_; clear hu; rintro e u ⟨rfl, hu, ⟨k0, k1, k2, k3, k4, k5, k6, k7, k8, k9, k10, k11, k12⟩, ⟨m0, m1, m2, m3, m4, m5, m6, m7, m8, m9, m10, m11, m12⟩⟩) | (go_at_call 25; refine (si _ hu).mono ?_; clear hu; rintro e u ⟨rfl, hu⟩))
    all_goals exact ⟨0, 0, rfl, hu⟩
  rintro _ _ ui h0
  clear k0 k1 k2 k3 k4 k5 k6 k7 k8 k9 k10 k11 k12 m0 m1 m2 m3 m4 m5 m6 m7 m8 m9 m10 m11 m12
  simp only [puts, List.foldl, Act.put, List.setIfInBounds_toArray, List.set_cons_zero, List.set_cons_succ]
  go_wp2
  go_ret
  exact ⟨rfl, below_app hB h0 hsz⟩

set_option maxRecDepth 100000 in
theorem lifted (os : Os) (started : os.Started) (H : Type) (enc : TypeId × Value → H) :
    ReturnsInHanded {} Try.checked os 8 .any (Rows.fnExactSamePieceSpec.pre6 enc Try.prog Try.f8 Rows.fnExactSamePieceRow.domain false) (Rows.fnExactSamePieceSpec.post enc Try.prog Try.f8 false true false false) := by
  refine returnsInHanded_of_change (C := Try.checked) own started (by kernel_rfl) Try.func8
    (ChangeSpec.witness6 (enc := enc) (C := Try.checked) false ⟨#[], #[.agg #[.int .i64 0, .int .i64 0, .int .i64 0, .int .i64 0, .int .i64 0, .int .i64 0, .int .i64 0, .int .i64 0, .int .i64 0, .int .i64 0, .int .i64 0, .bool false, .bool false], .agg #[.int .i64 0, .int .i64 0, .int .i64 0, .int .i64 0, .int .i64 0, .int .i64 0, .int .i64 0, .int .i64 0, .int .i64 0, .int .i64 0, .int .i64 0, .bool false, .bool false]], []⟩ 8 (by kernel_rfl) (by kernel_rfl) (by kernel_rfl) (by kernel_rfl)) ?_
  intro W base args ds gs before hval0 hW hcnd _
  have hval : ∀ (j : Nat) t v, Try.f8.params[j]? = some t → args[j]? = some v → Value.okWide Try.prog W .any base t v := hval0
  have hW' := hW
  obtain ⟨p, q, hA0, hV, rfl, hfz, hnd⟩ := hW
  have hA : DataW.TrodAll enc Try.prog W 0 (fun _ => true) true Try.f8.params.toList args.toList ds p := hA0
  rw [Try.params8] at hA hval
  obtain ⟨v0, vs0, d0, ds0, p0', q0, hargs, rfl, rfl, h0, r0⟩ := trodAll_cons hA
  obtain ⟨v1, vs1, d1, ds1, p1', q1, rfl, rfl, rfl, h1, r1⟩ := trodAll_cons r0
  obtain ⟨rfl, rfl, rfl⟩ := trodAll_nil r1
  obtain rfl : args = #[v0, v1] := by cases args; simp_all
  obtain ⟨rfl, rfl⟩ := trodVars_none hV
  have k0 := h0
  have lt0 : ∀ x ∈ p0', x.block < W.heap.size := by obtain ⟨m, hm⟩ := k0; exact DataW.trod_lt m _ _ _ hm
  obtain ⟨p0, rfl, w0⟩ := open_piece (hval 0 28 v0 rfl rfl) h0
  have k1 := h1
  have lt1 : ∀ x ∈ p1', x.block < W.heap.size := by obtain ⟨m, hm⟩ := k1; exact DataW.trod_lt m _ _ _ hm
  obtain ⟨p1, rfl, w1⟩ := open_piece (hval 1 28 v1 rfl rfl) h1
  clear hA0 hval0
  refine (walk p0 p1 W w0 w1).mono fun e W' ⟨he, bel⟩ => ?_
  subst he
  exact ⟨_, rfl, _, _, _, [], _, [], hW', trodAll_mk1 (shut_bool Try.underlying4 _), (trodAll_cons_mk (Below.trod laidOut (by kernel_rfl) (of_decide_eq_true (by kernel_rfl)) k0 bel lt0) (trodAll_cons_mk (Below.trod laidOut (by kernel_rfl) (of_decide_eq_true (by kernel_rfl)) k1 bel lt1) trodAll_mk0)), rfl, bel.frame _, fun h => by cases h⟩

theorem over : Rows.fnExactSamePieceRow.holds Try.pinned (OpenSpec.ofChange Rows.fnExactSamePieceSpec) :=
  OpenClaim.holds_of_wide 8 Try.f8 rfl rfl rfl rfl rfl rfl rfl ⟨rfl, rfl, rfl, rfl, rfl⟩ rfl rfl rfl rfl rfl (by kernel_rfl) Try.func8 (by kernel_rfl)
    (of_decide_eq_true (by kernel_rfl)) (by unfold Func.isWrapper; first | (rw [if_pos (by decide +kernel)]; kernel_rfl) | (rw [if_neg (by decide +kernel)]; exact ⟨rfl, rfl⟩))
    (fun os started H enc _ => lifted os started H enc)

theorem proved : Rows.FnExactSamePieceSaid := over
#print axioms proved
end Go.Proofs.Ythhmfbegbhndaam.fnExactSamePiece
