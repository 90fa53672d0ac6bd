/-
  What is proved: at every slice of bytes and every piece, the law FnExactPutPiece answers true: the program's and the specification's answer alike, the answer lies in new memory, and the arguments read afterwards as before; no condition.
-/
import Derived.Test.YthhmfbegbhndaanRows
import Derived.Test.YthhmfbegbhndaanSeg
import Derived.Test.YthhmfbegbhndaanRegCut
import Derived.Test.YthhmfbegbhndaanRegTail
import Derived.Test.YthhmfbegbhndaanCur
import Derived.Test.YthhmfbegbhndaanRow
import Derived.Test.YthhmfbegbhndaanRowLaw
import Derived.Test.YthhmfbegbhndaanRegBelow
import Derived.Test.YthhmfbegbhndaanNum
import Derived.Test.YthhmfbegbhndaanBytes
import Derived.Test.YthhmfbegbhndaanBytes2
import Derived.Test.YthhmfbegbhndaanBytes3
import Derived.Test.YthhmfbegbhndaanList1
import Derived.Test.YthhmfbegbhndaanList2
import Derived.Test.YthhmfbegbhndaanPiece
import Derived.Test.YthhmfbegbhndaanPiece2
import Derived.Test.YthhmfbegbhndaanPiece3
import Derived.Test.YthhmfbegbhndaanPieceOk
import Derived.Test.YthhmfbegbhndaanPiece4
import Derived.Test.YthhmfbegbhndaanPiece5
import Derived.Test.YthhmfbegbhndaanPieceI1
import Derived.Test.YthhmfbegbhndaanPieceI2
import Derived.Test.YthhmfbegbhndaanPieceOkI
import Derived.Test.YthhmfbegbhndaanPieceI4
import Derived.WalkKit
import Derived.ProofKit
import Derived.OpenShut
import Derived.ShutString
import Derived.ChangeOld
import Derived.Below
namespace Go.Proofs.Ythhmfbegbhndaan.fnExactPutPiece
open Go.ChangeShapes Go.WideShapes Go.ChangeAt Go.RowKit
set_option linter.unusedVariables false

theorem own : ownKnob Try.prog.godebug = none := by kernel_rfl
theorem laidOut : laidOutB Try.prog = true := by kernel_rfl

def IsRow (k : IntKind) (w : World) (a : Option Addr) (len cap : Nat) (zs : List Int) : Prop :=
  (a = none ∧ len = 0 ∧ cap = 0 ∧ zs = []) ∨
  ∃ x, a = some x ∧ len ≤ cap ∧ cap ≤ maxLen ∧ zs.length = cap ∧ (∀ i, i < zs.length → w.cell? (x.add i) = some (.int k (zs.getD i 0))) ∧ ∀ n ∈ zs, (Lit.int k n).wf = true

set_option maxHeartbeats 2000000 in
set_option maxHeartbeats 4000000 in
theorem walk (a0 : Option Addr) (len0 cap0 : Nat) (z0 : List Int) (p1 : Pc) (w : World) (w0 : IsRow .u8 w a0 len0 cap0 z0) (w1 : p1.wf) :
    Calls Try.prog 6 #[.slice a0 len0 cap0, .agg #[.int .i64 p1.id, .int .i64 p1.ow, .int .i64 p1.si, .int .i64 p1.zo, .int .i64 p1.st, .int .i64 p1.po, .int .i64 p1.to, .int .i64 p1.tr, .int .i64 p1.pl, .int .i64 p1.mi, .int .i64 p1.ma, .bool p1.de, .bool p1.be]] w fun e w' => e = .returned (.bool true) ∧ Below w.heap.size w w' := by
  obtain ⟨hl0, b0, f0, hr00, hwf0⟩ := rd_of_row w0
  clear hwf0 w0 w1
  by_cases hbig0 : (1048576 : Int) < (len0 : Int)
  · go_enter Try.func6, Try.ntmps6
    go_wp2
    go_ret
    exact ⟨rfl, (Below.refl _ w).alloc (Nat.le_refl _) _⟩
  · have bx := box_new w 23 p1
    have hBw := (Below.refl _ w).alloc (Nat.le_refl _) (.cells #[.int .i64 p1.id, .int .i64 p1.ow, .int .i64 p1.si, .int .i64 p1.zo, .int .i64 p1.st, .int .i64 p1.po, .int .i64 p1.to, .int .i64 p1.tr, .int .i64 p1.pl, .int .i64 p1.mi, .int .i64 p1.ma, .bool p1.de, .bool p1.be] 23)
    have hr0 := hr00.grew hBw
    clear hr00
    generalize hW : w.alloc (.cells #[.int .i64 p1.id, .int .i64 p1.ow, .int .i64 p1.si, .int .i64 p1.zo, .int .i64 p1.st, .int .i64 p1.po, .int .i64 p1.to, .int .i64 p1.tr, .int .i64 p1.pl, .int .i64 p1.mi, .int .i64 p1.ma, .bool p1.de, .bool p1.be] 23) = W at bx hBw hr0
    have hsz : w.heap.size ≤ W.heap.size := hBw.size
    have mixed : Try.prog.follows Departure.mixedOrders = true := by kernel_rfl
    have hpp := ppN_le len0 p1
    have hB := Below.refl W.heap.size W
    go_enter Try.func6, Try.ntmps6
    go_wp2_with fail
    refine wp_cutP (fun q k => [(15, .slice a0 len0 cap0), (16, .slice (some ⟨W.heap.size, 0, none⟩) len0 len0), (17, (.agg #[.int .i64 p1.id, .int .i64 p1.ow, .int .i64 p1.si, .int .i64 p1.zo, .int .i64 p1.st, .int .i64 p1.po, .int .i64 p1.to, .int .i64 p1.tr, .int .i64 p1.pl, .int .i64 p1.mi, .int .i64 p1.ma, .bool p1.de, .bool p1.be])), (18, (.agg #[.int .i64 p1.id, .int .i64 p1.ow, .int .i64 p1.si, .int .i64 p1.zo, .int .i64 p1.st, .int .i64 p1.po, .int .i64 p1.to, .int .i64 p1.tr, .int .i64 p1.pl, .int .i64 p1.mi, .int .i64 p1.ma, .bool p1.de, .bool p1.be])), (19, .slice (some ⟨q, 0, none⟩) (ppN len0 p1) k), (5, .slice (some ⟨q, 0, none⟩) (ppN len0 p1) k)]) (fun q _ u => Below W.heap.size W u ∧ Own .u8 u W.heap.size q (some ⟨q, 0, none⟩) (ppN len0 p1) (ppF len0 f0 p1)) ?_ ?_
    · have hr := hr0.grew hB
      have bX := bx.grew hB
      obtain ⟨k0, k1, k2, k3, k4, k5, k6, k7, k8, k9, k10, k11, k12⟩ := bX.cells
      have tb : Calls Try.prog 17 #[.slice a0 len0 cap0] W.drew fun e u => e = .returned (.slice (some ⟨W.heap.size, 0, none⟩) len0 len0) ∧ Below W.heap.size W u ∧ Own .u8 u W.heap.size W.heap.size (some ⟨W.heap.size, 0, none⟩) len0 f0 ∧ Cells13 u w.heap.size p1 := (toByteS_any a0 b0 len0 cap0 f0 W.drew (by omega) (show Rd .u8 W.drew b0 a0 len0 f0 from hr)).mono (by rintro e u ⟨h1, h2, h3⟩; have h4 : Below W.heap.size W u := ((Below.refl _ W).drew).trans h2; exact ⟨h1, h4, h3, bX.cells13 h4⟩)
      go_region_with_o (first | (go_at_call 17; refine tb.mono ?_; rintro e v1 ⟨rfl, hb1, o1, ⟨k0, k1, k2, k3, k4, k5, k6, k7, k8, k9, k10, k11, k12⟩⟩) | (go_at_call 10; refine (toPiece_any p1 _).mono ?_; rintro e v2 ⟨rfl, hb2⟩; replace o1 := o1.grew hb2; replace hb1 := below_app hb1 hb2 hb1.size) | (go_at_call 16; refine (specPutPiece_any _ _ len0 _ f0 p1 _ (by omega) o1.rd).mono ?_; rintro e v3 ⟨g3, c3, rfl, hb3, o3⟩))
      all_goals exact ⟨g3, c3, rfl, below_app hb1 hb3 hb1.size, Nat.le_trans hb1.size o3.1, o3.2⟩
    rintro gow cow u1 ⟨hb, ow⟩
    simp only [puts, List.foldl, Act.put, List.setIfInBounds_toArray, List.set_cons_zero, List.set_cons_succ]
    replace hB := below_app hB hb hB.size
    clear hb
    go_wp2_with fail
    refine (toByteS_any _ b0 len0 _ f0 _ (by omega) (hr0.grew hB)).mono ?_
    rintro e u2 ⟨rfl, hb, x0⟩
    have d_ow_x0 : gow ≠ u1.heap.size := by have h1 := ow.2.1; have h2 := x0.1; omega
    have l_x0 : W.heap.size ≤ u1.heap.size := by have h1 := hB.size; have h2 := x0.1; omega
    replace ow := ow.grew hb
    replace hB := below_app hB hb hB.size
    clear hb
    obtain ⟨k0, k1, k2, k3, k4, k5, k6, k7, k8, k9, k10, k11, k12⟩ := bx.cells13 hB
    go_wp2_with fail
    refine (toPiece_any p1 _).mono ?_
    rintro e u3 ⟨rfl, hb⟩
    clear k0 k1 k2 k3 k4 k5 k6 k7 k8 k9 k10 k11 k12
    replace ow := ow.grew hb
    replace x0 := x0.grew hb
    replace hB := below_app hB hb hB.size
    clear hb
    go_wp2_with fail
    refine (implPutPiece_any _ _ len0 _ f0 p1 _ (by omega) x0.rd).mono ?_
    rintro e u4 ⟨gog, cog, rfl, hb, og⟩
    have d_ow_og : gow ≠ gog := by have h1 := ow.2.1; have h2 := og.1; omega
    have d_x0_og : u1.heap.size ≠ gog := by have h1 := x0.2.1; have h2 := og.1; omega
    have l_og : W.heap.size ≤ gog := by have h1 := hB.size; have h2 := og.1; omega
    replace ow := ow.grew hb
    replace x0 := x0.grew hb
    replace hB := below_app hB hb hB.size
    clear hb
    go_wp2_with fail
    refine (eqByteS_same _ _ gog gow (ppN len0 p1) _ _ _ _ (by omega) og.rd ow.rd).mono ?_
    rintro e u5 ⟨rfl, hb⟩
    replace ow := ow.grew hb
    replace x0 := x0.grew hb
    replace og := og.grew hb
    replace hB := below_app hB hb hB.size
    clear hb
    go_wp2_with fail
    refine (toByteS_any _ b0 len0 _ f0 _ (by omega) (hr0.grew hB)).mono ?_
    rintro e u6 ⟨rfl, hb, y0⟩
    have d_x0_y0 : u1.heap.size ≠ u5.heap.size := by have h1 := x0.2.1; have h2 := y0.1; omega
    have d_og_y0 : gog ≠ u5.heap.size := by have h1 := og.2.1; have h2 := y0.1; omega
    replace ow := ow.grew hb
    replace x0 := x0.grew hb
    replace og := og.grew hb
    replace hB := below_app hB hb hB.size
    clear hb
    go_wp2_with fail
    refine (eqByteS_same _ _ u1.heap.size u5.heap.size len0 _ _ _ _ (by omega) x0.rd y0.rd).mono ?_
    rintro e u7 ⟨rfl, hb⟩
    replace ow := ow.grew hb
    replace x0 := x0.grew hb
    replace og := og.grew hb
    replace y0 := y0.grew hb
    replace hB := below_app hB hb hB.size
    clear hb
    clear y0
    go_wp2_with fail
    refine (markByteS_any _ u1.heap.size len0 _ 1 _ _ (by omega) (by omega) (by omega) x0).mono ?_
    rintro e u8 ⟨rfl, ho, _⟩
    replace ow := ow.only ho d_ow_x0
    replace og := og.only ho d_x0_og.symm
    replace hB := below_only hB l_x0 hB.size ho
    clear ho x0
    go_wp2_with fail
    refine (eqByteS_same _ _ gog gow (ppN len0 p1) _ _ _ _ (by omega) og.rd ow.rd).mono ?_
    rintro e u9 ⟨rfl, hb⟩
    replace ow := ow.grew hb
    replace og := og.grew hb
    replace hB := below_app hB hb hB.size
    clear hb
    go_wp2_with fail
    refine (markByteS_any _ gog (ppN len0 p1) _ 1 _ _ (by omega) (by omega) (by omega) og).mono ?_
    rintro e u10 ⟨rfl, ho, om⟩
    replace ow := ow.only ho d_ow_og
    replace hB := below_only hB l_og hB.size ho
    clear ho og
    go_wp2_with fail
    refine (heldByteS_any _ gog (ppN len0 p1) _ 1 _ (by omega) (by omega) (by omega) om.rd).mono ?_
    rintro e u11 ⟨rfl, hb⟩
    replace ow := ow.grew hb
    replace om := om.grew hb
    replace hB := below_app hB hb hB.size
    clear hb
    go_wp2_with fail
    refine wp_cutP (fun q k => [(57, .slice a0 len0 cap0), (58, .slice (some ⟨u11.heap.size, 0, none⟩) len0 len0), (59, (.agg #[.int .i64 p1.id, .int .i64 p1.ow, .int .i64 p1.si, .int .i64 p1.zo, .int .i64 p1.st, .int .i64 p1.po, .int .i64 p1.to, .int .i64 p1.tr, .int .i64 p1.pl, .int .i64 p1.mi, .int .i64 p1.ma, .bool p1.de, .bool p1.be])), (60, (.agg #[.int .i64 p1.id, .int .i64 p1.ow, .int .i64 p1.si, .int .i64 p1.zo, .int .i64 p1.st, .int .i64 p1.po, .int .i64 p1.to, .int .i64 p1.tr, .int .i64 p1.pl, .int .i64 p1.mi, .int .i64 p1.ma, .bool p1.de, .bool p1.be])), (61, .slice (some ⟨q, 0, none⟩) (ppN len0 p1) k), (11, .slice (some ⟨q, 0, none⟩) (ppN len0 p1) k)]) (fun q _ u => Below u11.heap.size u11 u ∧ Own .u8 u u11.heap.size q (some ⟨q, 0, none⟩) (ppN len0 p1) (ppF len0 f0 p1)) ?_ ?_
    · have hr := hr0.grew hB
      have bX := bx.grew hB
      obtain ⟨k0, k1, k2, k3, k4, k5, k6, k7, k8, k9, k10, k11, k12⟩ := bX.cells
      have tb : Calls Try.prog 17 #[.slice a0 len0 cap0] u11.drew fun e u => e = .returned (.slice (some ⟨u11.heap.size, 0, none⟩) len0 len0) ∧ Below u11.heap.size u11 u ∧ Own .u8 u u11.heap.size u11.heap.size (some ⟨u11.heap.size, 0, none⟩) len0 f0 ∧ Cells13 u w.heap.size p1 := (toByteS_any a0 b0 len0 cap0 f0 u11.drew (by omega) (show Rd .u8 u11.drew b0 a0 len0 f0 from hr)).mono (by rintro e u ⟨h1, h2, h3⟩; have h4 : Below u11.heap.size u11 u := ((Below.refl _ u11).drew).trans h2; exact ⟨h1, h4, h3, bX.cells13 h4⟩)
      go_region_with_o (first | (go_at_call 17; refine tb.mono ?_; rintro e v1 ⟨rfl, hb1, o1, ⟨k0, k1, k2, k3, k4, k5, k6, k7, k8, k9, k10, k11, k12⟩⟩) | (go_at_call 10; refine (toPiece_any p1 _).mono ?_; rintro e v2 ⟨rfl, hb2⟩; replace o1 := o1.grew hb2; replace hb1 := below_app hb1 hb2 hb1.size) | (go_at_call 18; refine (implPutPiece_any _ _ len0 _ f0 p1 _ (by omega) o1.rd).mono ?_; rintro e v3 ⟨g3, c3, rfl, hb3, o3⟩))
      all_goals exact ⟨g3, c3, rfl, below_app hb1 hb3 hb1.size, Nat.le_trans hb1.size o3.1, o3.2⟩
    rintro goh coh u12 ⟨hb, oh⟩
    simp only [puts, List.foldl, Act.put, List.setIfInBounds_toArray, List.set_cons_zero, List.set_cons_succ]
    replace ow := ow.grew hb
    replace om := om.grew hb
    replace hB := below_app hB hb hB.size
    clear hb
    go_wp2_with fail
    refine (eqByteS_same _ _ goh gow (ppN len0 p1) _ _ _ _ (by omega) oh.rd ow.rd).mono ?_
    rintro e u13 ⟨rfl, hb⟩
    replace ow := ow.grew hb
    replace om := om.grew hb
    replace oh := oh.grew hb
    replace hB := below_app hB hb hB.size
    clear hb
    clear oh
    clear ow
    go_wp2_with fail
    refine (heldByteS_any _ gog (ppN len0 p1) _ 1 _ (by omega) (by omega) (by omega) om.rd).mono ?_
    rintro e u14 ⟨rfl, hb⟩
    replace om := om.grew hb
    replace hB := below_app hB hb hB.size
    clear hb
    clear om
    go_wp2
    go_ret
    exact ⟨rfl, below_app hBw hB hsz⟩

set_option maxRecDepth 100000 in
theorem lifted (os : Os) (started : os.Started) (H : Type) (enc : TypeId × Value → H) :
    ReturnsInHanded {} Try.checked os 6 .any (Rows.fnExactPutPieceSpec.pre6 enc Try.prog Try.f6 Rows.fnExactPutPieceRow.domain false) (Rows.fnExactPutPieceSpec.post enc Try.prog Try.f6 false true false false) := by
  refine returnsInHanded_of_change (C := Try.checked) own started (by kernel_rfl) Try.func6
    (ChangeSpec.witness6 (enc := enc) (C := Try.checked) false ⟨#[], #[.slice none 0 0, .agg #[.int .i64 0, .int .i64 0, .int .i64 0, .int .i64 0, .int .i64 0, .int .i64 0, .int .i64 0, .int .i64 0, .int .i64 0, .int .i64 0, .int .i64 0, .bool false, .bool false]], []⟩ 8 (by kernel_rfl) (by kernel_rfl) (by kernel_rfl) (by kernel_rfl)) ?_
  intro W base args ds gs before hval0 hW hcnd _
  have hval : ∀ (j : Nat) t v, Try.f6.params[j]? = some t → args[j]? = some v → Value.okWide Try.prog W .any base t v := hval0
  have hW' := hW
  obtain ⟨p, q, hA0, hV, rfl, hfz, hnd⟩ := hW
  have hA : DataW.TrodAll enc Try.prog W 0 (fun _ => true) true Try.f6.params.toList args.toList ds p := hA0
  rw [Try.params6] at hA hval
  obtain ⟨v0, vs0, d0, ds0, p0', q0, hargs, rfl, rfl, h0, r0⟩ := trodAll_cons hA
  obtain ⟨v1, vs1, d1, ds1, p1', q1, rfl, rfl, rfl, h1, r1⟩ := trodAll_cons r0
  obtain ⟨rfl, rfl, rfl⟩ := trodAll_nil r1
  obtain rfl : args = #[v0, v1] := by cases args; simp_all
  obtain ⟨rfl, rfl⟩ := trodVars_none hV
  obtain ⟨a0, len0, cap0, rfl⟩ := okWide_slice Try.underlying30 (hval 0 30 v0 rfl rfl)
  have k0 := h0
  have lt0 : ∀ x ∈ p0', x.block < W.heap.size := by obtain ⟨m, hm⟩ := k0; exact DataW.trod_lt m _ _ _ hm
  obtain ⟨z0, w0⟩ : ∃ zs, IsRow .u8 W a0 len0 cap0 zs := by
    obtain ⟨fuel, hf⟩ := h0
    rcases open_ints Try.underlying30 Try.underlying5 (by kernel_rfl) hf with ⟨hcs, _⟩ | ⟨x, l, c, zs, hcs, _, hl, hm, hz, _, hcell, hwz⟩
    · simp [Value.cells] at hcs
      obtain ⟨rfl, rfl, rfl⟩ := hcs
      exact ⟨[], .inl ⟨rfl, rfl, rfl, rfl⟩⟩
    · simp [Value.cells] at hcs
      obtain ⟨rfl, rfl, rfl⟩ := hcs
      exact ⟨zs, .inr ⟨_, rfl, hl, hm, by simpa using hz, hcell, hwz⟩⟩
  have k1 := h1
  have lt1 : ∀ x ∈ p1', x.block < W.heap.size := by obtain ⟨m, hm⟩ := k1; exact DataW.trod_lt m _ _ _ hm
  obtain ⟨p1, rfl, w1⟩ := open_piece (hval 1 23 v1 rfl rfl) h1
  clear hA0 hval0
  refine (walk a0 len0 cap0 z0 p1 W w0 w1).mono fun e W' ⟨he, bel⟩ => ?_
  subst he
  exact ⟨_, rfl, _, _, _, [], _, [], hW', trodAll_mk1 (shut_bool Try.underlying4 _), (trodAll_cons_mk (Below.trod laidOut (by kernel_rfl) (of_decide_eq_true (by kernel_rfl)) k0 bel lt0) (trodAll_cons_mk (Below.trod laidOut (by kernel_rfl) (of_decide_eq_true (by kernel_rfl)) k1 bel lt1) trodAll_mk0)), rfl, bel.frame _, fun h => by cases h⟩

theorem over : Rows.fnExactPutPieceRow.holds Try.pinned (OpenSpec.ofChange Rows.fnExactPutPieceSpec) :=
  OpenClaim.holds_of_wide 6 Try.f6 rfl rfl rfl rfl rfl rfl rfl ⟨rfl, rfl, rfl, rfl, rfl⟩ rfl rfl rfl rfl rfl (by kernel_rfl) Try.func6 (by kernel_rfl)
    (of_decide_eq_true (by kernel_rfl)) (by unfold Func.isWrapper; first | (rw [if_pos (by decide +kernel)]; kernel_rfl) | (rw [if_neg (by decide +kernel)]; exact ⟨rfl, rfl⟩))
    (fun os started H enc _ => lifted os started H enc)

theorem proved : Rows.FnExactPutPieceSaid := over
#print axioms proved
end Go.Proofs.Ythhmfbegbhndaan.fnExactPutPiece
