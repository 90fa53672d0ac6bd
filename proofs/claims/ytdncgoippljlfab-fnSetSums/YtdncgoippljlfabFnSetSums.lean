/-
  What is proved: at every code (every slice of bytes, of whatever length), the law FnSetSums answers true: of drawn lists what is in both, and what is in one alone, is all that is in it; what is in both is in each; and all as the specification has it; and the argument reads afterwards as before; no condition.
-/
import Derived.Test.YtdncgoippljlfabRows
import Derived.Test.YtdncgoippljlfabNum
import Derived.Test.YtdncgoippljlfabCur
import Derived.Test.YtdncgoippljlfabCur2
import Derived.Test.YtdncgoippljlfabCur3
import Derived.Test.YtdncgoippljlfabCurLaw
import Derived.Test.YtdncgoippljlfabRow
import Derived.Test.YtdncgoippljlfabRowLaw
import Derived.Test.YtdncgoippljlfabBytes
import Derived.Test.YtdncgoippljlfabBytes2
import Derived.Test.YtdncgoippljlfabBytes3
import Derived.Test.YtdncgoippljlfabDrawB
import Derived.Test.YtdncgoippljlfabDrawL
import Derived.Test.YtdncgoippljlfabSets
import Derived.Test.YtdncgoippljlfabSetSpec
import Derived.Test.YtdncgoippljlfabSetOf
import Derived.Test.YtdncgoippljlfabSetOf2
import Derived.Test.YtdncgoippljlfabSetSpec2
import Derived.Test.YtdncgoippljlfabSetSpec3
import Derived.Test.YtdncgoippljlfabDrawS
import Derived.Test.YtdncgoippljlfabSetLaw
import Derived.Test.YtdncgoippljlfabSetCat
import Derived.Test.YtdncgoippljlfabSetSeq
import Derived.Test.YtdncgoippljlfabSetLib
import Derived.Test.YtdncgoippljlfabSetFrom
import Derived.Test.YtdncgoippljlfabSetImpl
import Derived.Test.YtdncgoippljlfabSetSift
import Derived.Test.YtdncgoippljlfabSetMeet
import Derived.WalkKit
import Derived.BigGuardPart
import Derived.BigQuiet
import Derived.ProofKit
import Derived.OpenShut
import Derived.ShutString
import Derived.ChangeOld
import Derived.Below
namespace Go.Proofs.Ytdncgoippljlfab.fnSetSums
open Go.ChangeShapes Go.WideShapes Go.ChangeAt Go.RowKit
open Go.ChangeMaps (open_string shut_string)
set_option linter.unusedVariables false

theorem own : ownKnob Try.prog.godebug = none := by kernel_rfl
theorem laidOut : laidOutB Try.prog = true := by kernel_rfl

/-- WHAT THE WALK IS TOLD OF A SLICE OF INTEGERS THAT CAME IN: it is nil; or it leads to a row of 'cap' cells, the numbers 'zs' (the first 'len' are its elements, the rest its spare room), each fitting its kind. -/
def IsRow (k : IntKind) (w : World) (a : Option Addr) (len cap : Nat) (zs : List Int) : Prop :=
  (a = none ∧ len = 0 ∧ cap = 0 ∧ zs = []) ∨
  ∃ x, a = some x ∧ len ≤ cap ∧ cap ≤ maxLen ∧ zs.length = cap ∧ (∀ i, i < zs.length → w.cell? (x.add i) = some (.int k (zs.getD i 0))) ∧ ∀ n ∈ zs, (Lit.int k n).wf = true

set_option maxHeartbeats 4000000 in
theorem walk (a0 : Option Addr) (len0 cap0 : Nat) (z0 : List Int) (w : World) (w0 : IsRow .u8 w a0 len0 cap0 z0) :
    Calls Try.prog 3 #[.slice a0 len0 cap0] w fun e w' => e = .returned (.bool true) ∧ Below w.heap.size w w' := by
  have hc : Code w a0 len0 w.heap.size := code_of_row w0
  clear w0
  by_cases hbig : (1048576 : Int) < (len0 : Int)
  · go_enter Try.func3, Try.ntmps3
    go_wp2_with (go_at_call 4; refine (big_any _ _ _ _).mono ?_; rintro e w' ⟨rfl, rfl⟩)
    go_ret
    exact ⟨rfl, Below.refl _ _⟩
  · go_enter Try.func3, Try.ntmps3
    try simp only [List.append_eq, List.cons_append, List.nil_append]
    go_wp2_with fail
    refine (big_any _ _ _ _).mono ?_
    rintro e w' ⟨rfl, rfl⟩
    have hB := Below.refl w'.heap.size w'
    go_wp2_with fail
    refine (drawMeet_any _ _ _ _ ((hc.below hB).mono hB.size (Nat.le_refl _))).mono ?_
    rintro e u1 ⟨qa, na, ca, fa, qb, nb, cb, fb, rfl, hna, hnb, oa, ob, hb⟩
    replace hB := below_app hB hb hB.size
    clear hb
    go_wp2_with fail
    refine (implUnion_any _ _ qa qb na ca nb cb fa fb _ (by omega) (by omega) oa.rd ob.rd).mono ?_
    rintro e u2 ⟨qu, cu, rfl, hb, ou⟩
    replace oa := oa.grew hb
    replace ob := ob.grew hb
    replace hB := below_app hB hb hB.size
    clear hb
    go_wp2_with fail
    refine (implMeet_any _ _ qa qb na ca nb cb fa fb _ (by omega) (by omega) oa.rd ob.rd).mono ?_
    rintro e u3 ⟨qm, cm, rfl, hb, om⟩
    replace oa := oa.grew hb
    replace ob := ob.grew hb
    replace ou := ou.grew hb
    replace hB := below_app hB hb hB.size
    clear hb
    go_wp2_with fail
    refine (implRest_any _ _ qa qb na ca nb cb fa fb _ (by omega) (by omega) oa.rd ob.rd).mono ?_
    rintro e u4 ⟨qr, cr, rfl, hb, or⟩
    replace oa := oa.grew hb
    replace ob := ob.grew hb
    replace ou := ou.grew hb
    replace om := om.grew hb
    replace hB := below_app hB hb hB.size
    clear hb
    go_wp2_with fail
    refine (drawWithin_any _ _ _ _ ((hc.below hB).mono hB.size (Nat.le_refl _))).mono ?_
    rintro e u5 ⟨qc, nc, cc, fc, qd, nd, cd, fd, rfl, hnc, hnd, oc, od, hb⟩
    replace oa := oa.grew hb
    replace ob := ob.grew hb
    replace ou := ou.grew hb
    replace om := om.grew hb
    replace or := or.grew hb
    replace hB := below_app hB hb hB.size
    clear hb
    have b1 := sLen_un na nb fa fb
    have b2 := sLen_mt na nb fa fb
    have b3 := sLen_rs na nb fa fb
    have b4 := sLen_of na fa
    have b5 := sLen_of nb fb
    have b6 := sLen_mt nc nd fc fd
    have b7 := sLen_of nc fc
    have hsum := s_sum na nb fa fb
    have t1 := sm_wn nc nd fc fd
    have t2 := mt_left na nb fa fb
    have t3 := mt_right na nb fa fb
    have t4 := left_un na nb fa fb
    have t5 := right_un na nb fa fb
    have t6 := rs_mt na nb fa fb
    have t7 : (((sLen (unL na fa nb fb) : Nat) : Int) == ((sLen (lst na fa) : Nat) : Int) + ((sLen (lst nb fb) : Nat) : Int) - ((sLen (mtL na fa nb fb) : Nat) : Int)) = true := by simp; omega
    have t8 : (((sLen (mtL (sLen (rsL na fa nb fb)) (sEl (rsL na fa nb fb)) nb fb) : Nat) : Int) == 0) = true := by rw [t6]; rfl
    have HS : Hid _ := hsum
    clear hsum
    go_wp2_with fail
    refine (specUnion_any _ _ qa qb na ca nb cb fa fb _ (by omega) (by omega) oa.rd ob.rd).mono ?_
    rintro e sUnion ⟨qUnion, cUnion, rfl, hb, oUnion⟩
    replace oa := oa.grew hb
    replace ob := ob.grew hb
    replace ou := ou.grew hb
    replace om := om.grew hb
    replace or := or.grew hb
    replace oc := oc.grew hb
    replace od := od.grew hb
    replace hB := below_app hB hb hB.size
    clear hb
    go_wp2_with fail
    refine (sameInts_same _ _ qu qUnion (sLen (unL na fa nb fb)) _ _ _ _ (by omega) ou.rd oUnion.rd).mono ?_
    rintro e rUnion ⟨rfl, hb⟩
    replace oa := oa.grew hb
    replace ob := ob.grew hb
    replace ou := ou.grew hb
    replace om := om.grew hb
    replace or := or.grew hb
    replace oc := oc.grew hb
    replace od := od.grew hb
    replace oUnion := oUnion.grew hb
    replace hB := below_app hB hb hB.size
    clear hb
    clear oUnion
    go_wp2_with fail
    refine (specMeet_any _ _ qa qb na ca nb cb fa fb _ (by omega) (by omega) oa.rd ob.rd).mono ?_
    rintro e sMeet ⟨qMeet, cMeet, rfl, hb, oMeet⟩
    replace oa := oa.grew hb
    replace ob := ob.grew hb
    replace ou := ou.grew hb
    replace om := om.grew hb
    replace or := or.grew hb
    replace oc := oc.grew hb
    replace od := od.grew hb
    replace hB := below_app hB hb hB.size
    clear hb
    go_wp2_with fail
    refine (sameInts_same _ _ qm qMeet (sLen (mtL na fa nb fb)) _ _ _ _ (by omega) om.rd oMeet.rd).mono ?_
    rintro e rMeet ⟨rfl, hb⟩
    replace oa := oa.grew hb
    replace ob := ob.grew hb
    replace ou := ou.grew hb
    replace om := om.grew hb
    replace or := or.grew hb
    replace oc := oc.grew hb
    replace od := od.grew hb
    replace oMeet := oMeet.grew hb
    replace hB := below_app hB hb hB.size
    clear hb
    clear oMeet
    go_wp2_with fail
    refine (specRest_any _ _ qa qb na ca nb cb fa fb _ (by omega) (by omega) oa.rd ob.rd).mono ?_
    rintro e sRest ⟨qRest, cRest, rfl, hb, oRest⟩
    replace oa := oa.grew hb
    replace ob := ob.grew hb
    replace ou := ou.grew hb
    replace om := om.grew hb
    replace or := or.grew hb
    replace oc := oc.grew hb
    replace od := od.grew hb
    replace hB := below_app hB hb hB.size
    clear hb
    go_wp2_with fail
    refine (sameInts_same _ _ qr qRest (sLen (rsL na fa nb fb)) _ _ _ _ (by omega) or.rd oRest.rd).mono ?_
    rintro e rRest ⟨rfl, hb⟩
    replace oa := oa.grew hb
    replace ob := ob.grew hb
    replace ou := ou.grew hb
    replace om := om.grew hb
    replace or := or.grew hb
    replace oc := oc.grew hb
    replace od := od.grew hb
    replace oRest := oRest.grew hb
    replace hB := below_app hB hb hB.size
    clear hb
    clear oRest
    go_wp2_with fail
    refine (implWithin_b _ _ qc qd nc cc nd cd fc fd _ (by omega) (by omega) oc.rd od.rd).mono ?_
    rintro e x1 ⟨rfl, hb⟩
    replace oa := oa.grew hb
    replace ob := ob.grew hb
    replace ou := ou.grew hb
    replace om := om.grew hb
    replace or := or.grew hb
    replace oc := oc.grew hb
    replace od := od.grew hb
    replace hB := below_app hB hb hB.size
    clear hb
    go_wp2_with fail
    refine (specWithin_b _ _ qc qd nc cc nd cd fc fd _ (by omega) (by omega) oc.rd od.rd).mono ?_
    rintro e x2 ⟨rfl, hb⟩
    replace oa := oa.grew hb
    replace ob := ob.grew hb
    replace ou := ou.grew hb
    replace om := om.grew hb
    replace or := or.grew hb
    replace oc := oc.grew hb
    replace od := od.grew hb
    replace hB := below_app hB hb hB.size
    clear hb
    go_wp2_with fail
    refine (implWithin_b _ _ qc qd nc cc nd cd fc fd _ (by omega) (by omega) oc.rd od.rd).mono ?_
    rintro e x3 ⟨rfl, hb⟩
    replace oa := oa.grew hb
    replace ob := ob.grew hb
    replace ou := ou.grew hb
    replace om := om.grew hb
    replace or := or.grew hb
    replace oc := oc.grew hb
    replace od := od.grew hb
    replace hB := below_app hB hb hB.size
    clear hb
    go_wp2_with fail
    refine (implMeet_any _ _ qc qd nc cc nd cd fc fd _ (by omega) (by omega) oc.rd od.rd).mono ?_
    rintro e x4 ⟨q4, c4, rfl, hb, o4⟩
    replace oa := oa.grew hb
    replace ob := ob.grew hb
    replace ou := ou.grew hb
    replace om := om.grew hb
    replace or := or.grew hb
    replace oc := oc.grew hb
    replace od := od.grew hb
    replace hB := below_app hB hb hB.size
    clear hb
    clear od
    go_wp2_with fail
    refine (implSetOf_list _ qc nc cc fc _ (by omega) oc.rd).mono ?_
    rintro e x5 ⟨q5, c5, rfl, hb, o5⟩
    replace oa := oa.grew hb
    replace ob := ob.grew hb
    replace ou := ou.grew hb
    replace om := om.grew hb
    replace or := or.grew hb
    replace oc := oc.grew hb
    replace o4 := o4.grew hb
    replace hB := below_app hB hb hB.size
    clear hb
    clear oc
    go_wp2_with fail
    refine (sameInts_any _ _ q4 q5 (sLen (mtL nc fc nd fd)) (sLen (lst nc fc)) _ _ (sEl (mtL nc fc nd fd)) (sEl (lst nc fc)) _ (by omega) o4.rd o5.rd).mono ?_
    rintro e x6 ⟨rfl, hb⟩
    replace oa := oa.grew hb
    replace ob := ob.grew hb
    replace ou := ou.grew hb
    replace om := om.grew hb
    replace or := or.grew hb
    replace o4 := o4.grew hb
    replace o5 := o5.grew hb
    replace hB := below_app hB hb hB.size
    clear hb
    clear o4
    clear o5
    go_wp2_with fail
    refine (implUnion_any _ _ qm qr (sLen (mtL na fa nb fb)) cm (sLen (rsL na fa nb fb)) cr (sEl (mtL na fa nb fb)) (sEl (rsL na fa nb fb)) _ (by omega) (by omega) om.rd or.rd).mono ?_
    rintro e x7 hp
    obtain ⟨q7, c7, rfl, hb, o7⟩ := hp.congr un_parts
    clear hp
    replace oa := oa.grew hb
    replace ob := ob.grew hb
    replace ou := ou.grew hb
    replace om := om.grew hb
    replace or := or.grew hb
    replace hB := below_app hB hb hB.size
    clear hb
    go_wp2_with fail
    refine (implSetOf_list _ qa na ca fa _ (by omega) oa.rd).mono ?_
    rintro e x8 ⟨q8, c8, rfl, hb, o8⟩
    replace oa := oa.grew hb
    replace ob := ob.grew hb
    replace ou := ou.grew hb
    replace om := om.grew hb
    replace or := or.grew hb
    replace o7 := o7.grew hb
    replace hB := below_app hB hb hB.size
    clear hb
    go_wp2_with fail
    refine (sameInts_same _ _ q7 q8 (sLen (lst na fa)) _ _ _ _ (by omega) o7.rd o8.rd).mono ?_
    rintro e x9 ⟨rfl, hb⟩
    replace oa := oa.grew hb
    replace ob := ob.grew hb
    replace ou := ou.grew hb
    replace om := om.grew hb
    replace or := or.grew hb
    replace o7 := o7.grew hb
    replace o8 := o8.grew hb
    replace hB := below_app hB hb hB.size
    clear hb
    clear o7
    clear o8
    go_wp2_with fail
    refine (implWithin_b _ _ qm qa (sLen (mtL na fa nb fb)) cm na ca (sEl (mtL na fa nb fb)) fa _ (by omega) (by omega) om.rd oa.rd).mono ?_
    rintro e y1 ⟨rfl, hb⟩
    replace oa := oa.grew hb
    replace ob := ob.grew hb
    replace ou := ou.grew hb
    replace om := om.grew hb
    replace or := or.grew hb
    replace hB := below_app hB hb hB.size
    clear hb
    go_wp2_with fail
    refine (implWithin_b _ _ qm qb (sLen (mtL na fa nb fb)) cm nb cb (sEl (mtL na fa nb fb)) fb _ (by omega) (by omega) om.rd ob.rd).mono ?_
    rintro e y2 ⟨rfl, hb⟩
    replace oa := oa.grew hb
    replace ob := ob.grew hb
    replace ou := ou.grew hb
    replace om := om.grew hb
    replace or := or.grew hb
    replace hB := below_app hB hb hB.size
    clear hb
    go_wp2_with fail
    refine (implWithin_b _ _ qa qu na ca (sLen (unL na fa nb fb)) cu fa (sEl (unL na fa nb fb)) _ (by omega) (by omega) oa.rd ou.rd).mono ?_
    rintro e y3 ⟨rfl, hb⟩
    replace oa := oa.grew hb
    replace ob := ob.grew hb
    replace ou := ou.grew hb
    replace om := om.grew hb
    replace or := or.grew hb
    replace hB := below_app hB hb hB.size
    clear hb
    go_wp2_with fail
    refine (implWithin_b _ _ qb qu nb cb (sLen (unL na fa nb fb)) cu fb (sEl (unL na fa nb fb)) _ (by omega) (by omega) ob.rd ou.rd).mono ?_
    rintro e y4 ⟨rfl, hb⟩
    replace oa := oa.grew hb
    replace ob := ob.grew hb
    replace ou := ou.grew hb
    replace om := om.grew hb
    replace or := or.grew hb
    replace hB := below_app hB hb hB.size
    clear hb
    go_wp2_with fail
    refine (implSetOf_list _ qa na ca fa _ (by omega) oa.rd).mono ?_
    rintro e y5 ⟨q9, c9, rfl, hb, o9⟩
    replace oa := oa.grew hb
    replace ob := ob.grew hb
    replace ou := ou.grew hb
    replace om := om.grew hb
    replace or := or.grew hb
    replace hB := below_app hB hb hB.size
    clear hb
    clear oa
    go_wp2_with fail
    refine (implSetOf_list _ qb nb cb fb _ (by omega) ob.rd).mono ?_
    rintro e y6 ⟨q10, c10, rfl, hb, o10⟩
    replace ob := ob.grew hb
    replace ou := ou.grew hb
    replace om := om.grew hb
    replace or := or.grew hb
    replace hB := below_app hB hb hB.size
    clear hb
    go_wp2_with fail
    refine (implMeet_any _ _ qr qb (sLen (rsL na fa nb fb)) cr nb cb (sEl (rsL na fa nb fb)) fb _ (by omega) (by omega) or.rd ob.rd).mono ?_
    rintro e y7 ⟨q11, c11, rfl, hb, o11⟩
    replace ob := ob.grew hb
    replace ou := ou.grew hb
    replace om := om.grew hb
    replace or := or.grew hb
    replace hB := below_app hB hb hB.size
    clear hb
    go_wp2
    go_ret
    exact ⟨rfl, hB⟩

set_option maxRecDepth 100000 in
theorem lifted (os : Os) (started : os.Started) (H : Type) (enc : TypeId × Value → H) :
    ReturnsInHanded {} Try.checked os 3 .any (Rows.fnSetSumsSpec.pre6 enc Try.prog Try.f3 Rows.fnSetSumsRow.domain false) (Rows.fnSetSumsSpec.post enc Try.prog Try.f3 false true false false) := by
  refine returnsInHanded_of_change (C := Try.checked) own started (by kernel_rfl) Try.func3
    (ChangeSpec.witness6 (enc := enc) (C := Try.checked) false ⟨#[], #[.slice none 0 0], []⟩ 8 (by kernel_rfl) (by kernel_rfl) (by kernel_rfl) (by kernel_rfl)) ?_
  intro W base args ds gs before hval0 hW hcnd _
  have hval : ∀ (j : Nat) t v, Try.f3.params[j]? = some t → args[j]? = some v → Value.okWide Try.prog W .any base t v := hval0
  have hW' := hW
  obtain ⟨p, q, hA0, hV, rfl, hfz, hnd⟩ := hW
  have hA : DataW.TrodAll enc Try.prog W 0 (fun _ => true) true Try.f3.params.toList args.toList ds p := hA0
  rw [Try.params3] at hA hval
  obtain ⟨v0, vs0, d0, ds0, p0, q0, hargs, rfl, rfl, h0, r0⟩ := trodAll_cons hA
  obtain ⟨rfl, rfl, rfl⟩ := trodAll_nil r0
  obtain rfl : args = #[v0] := by cases args; simp_all
  obtain ⟨rfl, rfl⟩ := trodVars_none hV
  obtain ⟨a0, len0, cap0, rfl⟩ := okWide_slice Try.underlying22 (hval 0 22 v0 rfl rfl)
  have k0 := h0
  have lt0 : ∀ x ∈ p0, x.block < W.heap.size := by obtain ⟨m, hm⟩ := k0; exact DataW.trod_lt m _ _ _ hm
  obtain ⟨z0, w0⟩ : ∃ zs, IsRow .u8 W a0 len0 cap0 zs := by
    obtain ⟨fuel, hf⟩ := h0
    rcases open_ints Try.underlying22 Try.underlying5 (by kernel_rfl) hf with ⟨hcs, _⟩ | ⟨x, l, c, zs, hcs, _, hl, hm, hz, _, hcell, hwz⟩
    · simp [Value.cells] at hcs
      obtain ⟨rfl, rfl, rfl⟩ := hcs
      exact ⟨[], .inl ⟨rfl, rfl, rfl, rfl⟩⟩
    · simp [Value.cells] at hcs
      obtain ⟨rfl, rfl, rfl⟩ := hcs
      exact ⟨zs, .inr ⟨_, rfl, hl, hm, by simpa using hz, hcell, hwz⟩⟩
  clear hA0 hval0
  refine (walk a0 len0 cap0 z0 W w0).mono fun e W' ⟨he, bel⟩ => ?_
  subst he
  exact ⟨_, rfl, _, _, _, [], _, [], hW', trodAll_mk1 (shut_bool Try.underlying4 _), (trodAll_cons_mk (Below.trod laidOut (by kernel_rfl) (of_decide_eq_true (by kernel_rfl)) k0 bel lt0) trodAll_mk0), rfl, bel.frame _, fun h => by cases h⟩

theorem over : Rows.fnSetSumsRow.holds Try.pinned (OpenSpec.ofChange Rows.fnSetSumsSpec) :=
  OpenClaim.holds_of_wide 3 Try.f3 rfl rfl rfl rfl rfl rfl rfl ⟨rfl, rfl, rfl, rfl, rfl⟩ rfl rfl rfl rfl rfl (by kernel_rfl) Try.func3 (by kernel_rfl)
    (of_decide_eq_true (by kernel_rfl)) (by unfold Func.isWrapper; first | (rw [if_pos (by decide +kernel)]; kernel_rfl) | (rw [if_neg (by decide +kernel)]; exact ⟨rfl, rfl⟩))
    (fun os started H enc _ => lifted os started H enc)

theorem proved : Rows.FnSetSumsSaid := over
#print axioms proved
end Go.Proofs.Ytdncgoippljlfab.fnSetSums
