/-
  What is proved: at every slice of bytes and every int, the law FnExactGetPiece answers true: the program's GetPiece and the specification's answer alike, and the arguments read afterwards as before; no condition.
-/
import Derived.Test.YthhmfbegbhndaanRows
import Derived.Test.YthhmfbegbhndaanSeg
import Derived.Test.YthhmfbegbhndaanRegCut
import Derived.Test.YthhmfbegbhndaanRegTail
import Derived.Test.YthhmfbegbhndaanRegFloat
import Derived.Test.YthhmfbegbhndaanCur
import Derived.Test.YthhmfbegbhndaanRow
import Derived.Test.YthhmfbegbhndaanRowLaw
import Derived.Test.YthhmfbegbhndaanRegBelow
import Derived.Test.YthhmfbegbhndaanNum
import Derived.Test.YthhmfbegbhndaanBytes
import Derived.Test.YthhmfbegbhndaanBytes2
import Derived.Test.YthhmfbegbhndaanBytes3
import Derived.Test.YthhmfbegbhndaanList1
import Derived.Test.YthhmfbegbhndaanList2
import Derived.Test.YthhmfbegbhndaanPiece
import Derived.Test.YthhmfbegbhndaanPiece2
import Derived.Test.YthhmfbegbhndaanPiece3
import Derived.Test.YthhmfbegbhndaanPieceOk
import Derived.Test.YthhmfbegbhndaanPiece4
import Derived.Test.YthhmfbegbhndaanPiece5
import Derived.Test.YthhmfbegbhndaanPiece6
import Derived.Test.YthhmfbegbhndaanPieceI1
import Derived.Test.YthhmfbegbhndaanPieceI2
import Derived.Test.YthhmfbegbhndaanPieceOkI
import Derived.Test.YthhmfbegbhndaanPieceI4
import Derived.Test.YthhmfbegbhndaanPieceI5
import Derived.WalkKit
import Derived.ProofKit
import Derived.OpenShut
import Derived.ShutString
import Derived.ChangeOld
import Derived.Below
namespace Go.Proofs.Ythhmfbegbhndaan.fnExactGetPiece
open Go.ChangeShapes Go.WideShapes Go.ChangeAt Go.RowKit
open Go.ChangeMaps (open_string shut_string)
set_option linter.unusedVariables false

theorem own : ownKnob Try.prog.godebug = none := by kernel_rfl
theorem laidOut : laidOutB Try.prog = true := by kernel_rfl

/-- WHAT THE WALK IS TOLD OF A SLICE OF INTEGERS THAT CAME IN: it is nil; or it leads to a row of 'cap' cells, the numbers 'zs' (the first 'len' are its elements, the rest its spare room), each fitting its kind. -/
def IsRow (k : IntKind) (w : World) (a : Option Addr) (len cap : Nat) (zs : List Int) : Prop :=
  (a = none ∧ len = 0 ∧ cap = 0 ∧ zs = []) ∨
  ∃ x, a = some x ∧ len ≤ cap ∧ cap ≤ maxLen ∧ zs.length = cap ∧ (∀ i, i < zs.length → w.cell? (x.add i) = some (.int k (zs.getD i 0))) ∧ ∀ n ∈ zs, (Lit.int k n).wf = true

set_option maxHeartbeats 4000000 in
theorem walk (a0 : Option Addr) (len0 cap0 : Nat) (z0 : List Int) (a1 : Int) (w : World) (w0 : IsRow .u8 w a0 len0 cap0 z0) (w1 : (Lit.int .i64 a1).wf = true) :
    Calls Try.prog 7 #[.slice a0 len0 cap0, .int .i64 a1] w fun e w' => e = .returned (.bool true) ∧ Below w.heap.size w w' := by
  obtain ⟨hl0, b0, f0, hr0, hwf0⟩ := rd_of_row w0
  have hu0 : U8 len0 f0 := fun i hi => u8_wf (hwf0 i hi)
  have ha1 := i64_wf w1
  clear hwf0 w0 w1
  by_cases hbig0 : (1048576 : Int) < (len0 : Int)
  · go_enter Try.func7, Try.ntmps7
    go_wp2
    go_ret
    exact ⟨rfl, Below.refl _ _⟩
  · go_enter Try.func7, Try.ntmps7
    have hB := Below.refl w.heap.size w
    go_wp2_with fail
    refine (toByteS_any _ b0 len0 _ f0 _ (by omega) hr0).mono ?_
    rintro e u1 ⟨rfl, hb, s0⟩
    replace hB := below_app hB hb hB.size
    clear hb
    go_wp2_with fail
    refine (specGetPiece_any _ _ len0 _ a1 f0 _ (by omega) hu0 s0.rd).mono ?_
    rintro e u2 ⟨rfl, hb⟩
    replace hB := below_app hB hb hB.size
    clear hb
    clear s0
    have bw := box_new u2 25 (gpP len0 f0 a1)
    replace hB := hB.alloc hB.size (.cells #[.int .i64 (gpP len0 f0 a1).id, .int .i64 (gpP len0 f0 a1).ow, .int .i64 (gpP len0 f0 a1).si, .int .i64 (gpP len0 f0 a1).zo, .int .i64 (gpP len0 f0 a1).st, .int .i64 (gpP len0 f0 a1).po, .int .i64 (gpP len0 f0 a1).to, .int .i64 (gpP len0 f0 a1).tr, .int .i64 (gpP len0 f0 a1).pl, .int .i64 (gpP len0 f0 a1).mi, .int .i64 (gpP len0 f0 a1).ma, .bool (gpP len0 f0 a1).de, .bool (gpP len0 f0 a1).be] 25)
    generalize hV : u2.alloc (.cells #[.int .i64 (gpP len0 f0 a1).id, .int .i64 (gpP len0 f0 a1).ow, .int .i64 (gpP len0 f0 a1).si, .int .i64 (gpP len0 f0 a1).zo, .int .i64 (gpP len0 f0 a1).st, .int .i64 (gpP len0 f0 a1).po, .int .i64 (gpP len0 f0 a1).to, .int .i64 (gpP len0 f0 a1).tr, .int .i64 (gpP len0 f0 a1).pl, .int .i64 (gpP len0 f0 a1).mi, .int .i64 (gpP len0 f0 a1).ma, .bool (gpP len0 f0 a1).de, .bool (gpP len0 f0 a1).be] 25) = V at bw hB
    have h1 := Below.refl V.heap.size V
    go_wp2_with fail
    refine (toByteS_any _ b0 len0 _ f0 _ (by omega) (hr0.grew (below_app hB h1 hB.size))).mono ?_
    rintro e u3 ⟨rfl, hb, x0⟩
    replace h1 := below_app h1 hb h1.size
    clear hb
    go_wp2_with fail
    refine (implGetPiece_any _ _ len0 _ a1 f0 _ (by omega) (Nat.le_refl _) ha1 hu0 x0.rd).mono ?_
    rintro e u4 ⟨rfl, hb⟩
    replace x0 := x0.grew hb
    replace h1 := below_app h1 hb h1.size
    clear hb
    have bg := box_new u4 25 (gpP len0 f0 a1)
    replace x0 := x0.grew (below_new2 u4 (.cells #[.int .i64 (gpP len0 f0 a1).id, .int .i64 (gpP len0 f0 a1).ow, .int .i64 (gpP len0 f0 a1).si, .int .i64 (gpP len0 f0 a1).zo, .int .i64 (gpP len0 f0 a1).st, .int .i64 (gpP len0 f0 a1).po, .int .i64 (gpP len0 f0 a1).to, .int .i64 (gpP len0 f0 a1).tr, .int .i64 (gpP len0 f0 a1).pl, .int .i64 (gpP len0 f0 a1).mi, .int .i64 (gpP len0 f0 a1).ma, .bool (gpP len0 f0 a1).de, .bool (gpP len0 f0 a1).be] 25))
    replace h1 := h1.alloc h1.size (.cells #[.int .i64 (gpP len0 f0 a1).id, .int .i64 (gpP len0 f0 a1).ow, .int .i64 (gpP len0 f0 a1).si, .int .i64 (gpP len0 f0 a1).zo, .int .i64 (gpP len0 f0 a1).st, .int .i64 (gpP len0 f0 a1).po, .int .i64 (gpP len0 f0 a1).to, .int .i64 (gpP len0 f0 a1).tr, .int .i64 (gpP len0 f0 a1).pl, .int .i64 (gpP len0 f0 a1).mi, .int .i64 (gpP len0 f0 a1).ma, .bool (gpP len0 f0 a1).de, .bool (gpP len0 f0 a1).be] 25)
    generalize hU : u4.alloc (.cells #[.int .i64 (gpP len0 f0 a1).id, .int .i64 (gpP len0 f0 a1).ow, .int .i64 (gpP len0 f0 a1).si, .int .i64 (gpP len0 f0 a1).zo, .int .i64 (gpP len0 f0 a1).st, .int .i64 (gpP len0 f0 a1).po, .int .i64 (gpP len0 f0 a1).to, .int .i64 (gpP len0 f0 a1).tr, .int .i64 (gpP len0 f0 a1).pl, .int .i64 (gpP len0 f0 a1).mi, .int .i64 (gpP len0 f0 a1).ma, .bool (gpP len0 f0 a1).de, .bool (gpP len0 f0 a1).be] 25) = U at bg h1 x0
    obtain ⟨m0, m1, m2, m3, m4, m5, m6, m7, m8, m9, m10, m11, m12⟩ := bw.cells13 h1
    obtain ⟨g0, g1, g2, g3, g4, g5, g6, g7, g8, g9, g10, g11, g12⟩ := bg.cells
    go_wp2_with fail
    refine (eqPiece_any (gpP len0 f0 a1) (gpP len0 f0 a1) _).mono ?_
    rintro e u5 ⟨rfl, hb⟩
    replace x0 := x0.grew hb
    replace h1 := below_app h1 hb h1.size
    clear hb
    rw [smP_self]
    clear m0 m1 m2 m3 m4 m5 m6 m7 m8 m9 m10 m11 m12 g0 g1 g2 g3 g4 g5 g6 g7 g8 g9 g10 g11 g12
    go_wp2_with fail
    refine (toByteS_any _ b0 len0 _ f0 _ (by omega) (hr0.grew (below_app hB h1 hB.size))).mono ?_
    rintro e u6 ⟨rfl, hb, y0⟩
    replace x0 := x0.grew hb
    replace h1 := below_app h1 hb h1.size
    clear hb
    go_wp2_with fail
    refine (eqByteS_same _ _ _ _ len0 _ _ _ _ (by omega) x0.rd y0.rd).mono ?_
    rintro e u7 ⟨rfl, hb⟩
    replace h1 := below_app h1 hb h1.size
    clear hb
    clear x0 y0
    go_wp2
    go_ret
    exact ⟨rfl, below_app hB h1 hB.size⟩

set_option maxRecDepth 100000 in
theorem lifted (os : Os) (started : os.Started) (H : Type) (enc : TypeId × Value → H) :
    ReturnsInHanded {} Try.checked os 7 .any (Rows.fnExactGetPieceSpec.pre6 enc Try.prog Try.f7 Rows.fnExactGetPieceRow.domain false) (Rows.fnExactGetPieceSpec.post enc Try.prog Try.f7 false true false false) := by
  refine returnsInHanded_of_change (C := Try.checked) own started (by kernel_rfl) Try.func7
    (ChangeSpec.witness6 (enc := enc) (C := Try.checked) false ⟨#[], #[.slice none 0 0, .int .i64 0], []⟩ 8 (by kernel_rfl) (by kernel_rfl) (by kernel_rfl) (by kernel_rfl)) ?_
  intro W base args ds gs before hval0 hW hcnd _
  have hval : ∀ (j : Nat) t v, Try.f7.params[j]? = some t → args[j]? = some v → Value.okWide Try.prog W .any base t v := hval0
  have hW' := hW
  obtain ⟨p, q, hA0, hV, rfl, hfz, hnd⟩ := hW
  have hA : DataW.TrodAll enc Try.prog W 0 (fun _ => true) true Try.f7.params.toList args.toList ds p := hA0
  rw [Try.params7] at hA hval
  obtain ⟨v0, vs0, d0, ds0, p0, q0, hargs, rfl, rfl, h0, r0⟩ := trodAll_cons hA
  obtain ⟨v1, vs1, d1, ds1, p1, q1, rfl, rfl, rfl, h1, r1⟩ := trodAll_cons r0
  obtain ⟨rfl, rfl, rfl⟩ := trodAll_nil r1
  obtain rfl : args = #[v0, v1] := by cases args; simp_all
  obtain ⟨rfl, rfl⟩ := trodVars_none hV
  obtain ⟨a0, len0, cap0, rfl⟩ := okWide_slice Try.underlying30 (hval 0 30 v0 rfl rfl)
  have k0 := h0
  have lt0 : ∀ x ∈ p0, x.block < W.heap.size := by obtain ⟨m, hm⟩ := k0; exact DataW.trod_lt m _ _ _ hm
  obtain ⟨z0, w0⟩ : ∃ zs, IsRow .u8 W a0 len0 cap0 zs := by
    obtain ⟨fuel, hf⟩ := h0
    rcases open_ints Try.underlying30 Try.underlying5 (by kernel_rfl) hf with ⟨hcs, _⟩ | ⟨x, l, c, zs, hcs, _, hl, hm, hz, _, hcell, hwz⟩
    · simp [Value.cells] at hcs
      obtain ⟨rfl, rfl, rfl⟩ := hcs
      exact ⟨[], .inl ⟨rfl, rfl, rfl, rfl⟩⟩
    · simp [Value.cells] at hcs
      obtain ⟨rfl, rfl, rfl⟩ := hcs
      exact ⟨zs, .inr ⟨_, rfl, hl, hm, by simpa using hz, hcell, hwz⟩⟩
  obtain ⟨a1, rfl, rfl, rfl, w1⟩ := open_int Try.underlying3 (hval 1 3 v1 rfl rfl) h1
  clear hA0 hval0
  refine (walk a0 len0 cap0 z0 a1 W w0 w1).mono fun e W' ⟨he, bel⟩ => ?_
  subst he
  exact ⟨_, rfl, _, _, _, [], _, [], hW', trodAll_mk1 (shut_bool Try.underlying4 _), (trodAll_cons_mk (Below.trod laidOut (by kernel_rfl) (of_decide_eq_true (by kernel_rfl)) k0 bel lt0) (trodAll_cons_mk (shut_int Try.underlying3 w1) trodAll_mk0)), rfl, bel.frame _, fun h => by cases h⟩

theorem over : Rows.fnExactGetPieceRow.holds Try.pinned (OpenSpec.ofChange Rows.fnExactGetPieceSpec) :=
  OpenClaim.holds_of_wide 7 Try.f7 rfl rfl rfl rfl rfl rfl rfl ⟨rfl, rfl, rfl, rfl, rfl⟩ rfl rfl rfl rfl rfl (by kernel_rfl) Try.func7 (by kernel_rfl)
    (of_decide_eq_true (by kernel_rfl)) (by unfold Func.isWrapper; first | (rw [if_pos (by decide +kernel)]; kernel_rfl) | (rw [if_neg (by decide +kernel)]; exact ⟨rfl, rfl⟩))
    (fun os started H enc _ => lifted os started H enc)

theorem proved : Rows.FnExactGetPieceSaid := over
#print axioms proved
end Go.Proofs.Ythhmfbegbhndaan.fnExactGetPiece
