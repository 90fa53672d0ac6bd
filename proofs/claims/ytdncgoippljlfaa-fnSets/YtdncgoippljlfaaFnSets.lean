/-
  What is proved: at every code (every slice of bytes, of whatever length), the law FnSets answers true: of a drawn list the set has what the list has, each once, ascending; of a set it is the set itself; and what comes and goes again is as the specification has it; and the argument reads afterwards as before; no condition.
-/
import Derived.Test.YtdncgoippljlfaaRows
import Derived.Test.YtdncgoippljlfaaNum
import Derived.Test.YtdncgoippljlfaaCur
import Derived.Test.YtdncgoippljlfaaCur2
import Derived.Test.YtdncgoippljlfaaCur3
import Derived.Test.YtdncgoippljlfaaCurLaw
import Derived.Test.YtdncgoippljlfaaRow
import Derived.Test.YtdncgoippljlfaaRowLaw
import Derived.Test.YtdncgoippljlfaaBytes
import Derived.Test.YtdncgoippljlfaaBytes2
import Derived.Test.YtdncgoippljlfaaBytes3
import Derived.Test.YtdncgoippljlfaaDrawB
import Derived.Test.YtdncgoippljlfaaDrawL
import Derived.Test.YtdncgoippljlfaaSets
import Derived.Test.YtdncgoippljlfaaSetSpec
import Derived.Test.YtdncgoippljlfaaSetOf
import Derived.Test.YtdncgoippljlfaaSetOf2
import Derived.Test.YtdncgoippljlfaaSetSpec2
import Derived.Test.YtdncgoippljlfaaSetSpec3
import Derived.Test.YtdncgoippljlfaaDrawS
import Derived.Test.YtdncgoippljlfaaSetLaw
import Derived.Test.YtdncgoippljlfaaSetCat
import Derived.Test.YtdncgoippljlfaaSetSeq
import Derived.Test.YtdncgoippljlfaaSetLib
import Derived.Test.YtdncgoippljlfaaSetFrom
import Derived.Test.YtdncgoippljlfaaSetImpl
import Derived.Test.YtdncgoippljlfaaSetSift
import Derived.Test.YtdncgoippljlfaaSetMeet
import Derived.WalkKit
import Derived.BigGuardPart
import Derived.BigQuiet
import Derived.ProofKit
import Derived.OpenShut
import Derived.ShutString
import Derived.ChangeOld
import Derived.Below
namespace Go.Proofs.Ytdncgoippljlfaa.fnSets
open Go.ChangeShapes Go.WideShapes Go.ChangeAt Go.RowKit
open Go.ChangeMaps (open_string shut_string)
set_option linter.unusedVariables false

theorem own : ownKnob Try.prog.godebug = none := by kernel_rfl
theorem laidOut : laidOutB Try.prog = true := by kernel_rfl

/-- WHAT THE WALK IS TOLD OF A SLICE OF INTEGERS THAT CAME IN: it is nil; or it leads to a row of 'cap' cells, the numbers 'zs' (the first 'len' are its elements, the rest its spare room), each fitting its kind. -/
def IsRow (k : IntKind) (w : World) (a : Option Addr) (len cap : Nat) (zs : List Int) : Prop :=
  (a = none ∧ len = 0 ∧ cap = 0 ∧ zs = []) ∨
  ∃ x, a = some x ∧ len ≤ cap ∧ cap ≤ maxLen ∧ zs.length = cap ∧ (∀ i, i < zs.length → w.cell? (x.add i) = some (.int k (zs.getD i 0))) ∧ ∀ n ∈ zs, (Lit.int k n).wf = true

set_option maxHeartbeats 4000000 in
theorem walk (a0 : Option Addr) (len0 cap0 : Nat) (z0 : List Int) (w : World) (w0 : IsRow .u8 w a0 len0 cap0 z0) :
    Calls Try.prog 6 #[.slice a0 len0 cap0] w fun e w' => e = .returned (.bool true) ∧ Below w.heap.size w w' := by
  have hc : Code w a0 len0 w.heap.size := code_of_row w0
  clear w0
  by_cases hbig : (1048576 : Int) < (len0 : Int)
  · go_enter Try.func6, Try.ntmps6
    go_wp2_with (go_at_call 7; refine (big_any _ _ _ _).mono ?_; rintro e w' ⟨rfl, rfl⟩)
    go_ret
    exact ⟨rfl, Below.refl _ _⟩
  · go_enter Try.func6, Try.ntmps6
    try simp only [List.append_eq, List.cons_append, List.nil_append]
    go_wp2_with fail
    refine (big_any _ _ _ _).mono ?_
    rintro e w' ⟨rfl, rfl⟩
    have hB := Below.refl w'.heap.size w'
    go_wp2_with fail
    refine (drawSetOf_any _ _ _ _ ((hc.below hB).mono hB.size (Nat.le_refl _))).mono ?_
    rintro e u1 ⟨ql, n, c, f, rfl, hn, ol, hb⟩
    replace hB := below_app hB hb hB.size
    clear hb
    go_wp2_with fail
    refine (implSetOf_list _ ql n c f _ (by omega) ol.rd).mono ?_
    rintro e u2 ⟨qs, cs, rfl, hb, os⟩
    replace ol := ol.grew hb
    replace hB := below_app hB hb hB.size
    clear hb
    go_wp2_with fail
    refine (drawWith_any _ _ _ _ ((hc.below hB).mono hB.size (Nat.le_refl _))).mono ?_
    rintro e u3 ⟨qa, na, ca, fa, x, rfl, hna, oa, hb⟩
    replace ol := ol.grew hb
    replace os := os.grew hb
    replace hB := below_app hB hb hB.size
    clear hb
    go_wp2_with fail
    refine (drawWithout_any _ _ _ _ ((hc.below hB).mono hB.size (Nat.le_refl _))).mono ?_
    rintro e u4 ⟨qb, nb, cb, fb, y, rfl, hnb, ob, hb⟩
    replace ol := ol.grew hb
    replace os := os.grew hb
    replace oa := oa.grew hb
    replace hB := below_app hB hb hB.size
    clear hb
    have hsl := sLen_of n f
    have hx1 := sLen_wt na fa x
    have hx2 := sLen_wo na fa x
    have hy1 := sLen_wo nb fb y
    have hy2 := sLen_wt nb fb y
    have t1 := in_set n f
    have t2 := set_in n f
    have t3 := has_wt na fa x
    have t4 := has_wo nb fb y
    go_wp2_with fail
    refine (specSetOf_list _ ql n c f _ (by omega) ol.rd).mono ?_
    rintro e u5 ⟨q5, c5, rfl, hb, o5⟩
    replace ol := ol.grew hb
    replace os := os.grew hb
    replace oa := oa.grew hb
    replace ob := ob.grew hb
    replace hB := below_app hB hb hB.size
    clear hb
    go_wp2_with fail
    refine (sameInts_same _ _ qs q5 (sLen (lst n f)) _ _ _ _ (by omega) os.rd o5.rd).mono ?_
    rintro e u6 ⟨rfl, hb⟩
    replace ol := ol.grew hb
    replace os := os.grew hb
    replace oa := oa.grew hb
    replace ob := ob.grew hb
    replace o5 := o5.grew hb
    replace hB := below_app hB hb hB.size
    clear hb
    clear o5
    go_wp2_with fail
    refine (implSetOf_list _ qs (sLen (lst n f)) cs (sEl (lst n f)) _ (by omega) os.rd).mono ?_
    rintro e u7 hp
    obtain ⟨q7, c7, rfl, hb, o7⟩ := hp.congr (fun x => mem_s)
    clear hp
    replace ol := ol.grew hb
    replace os := os.grew hb
    replace oa := oa.grew hb
    replace ob := ob.grew hb
    replace hB := below_app hB hb hB.size
    clear hb
    go_wp2_with fail
    refine (sameInts_same _ _ q7 qs (sLen (lst n f)) _ _ _ _ (by omega) o7.rd os.rd).mono ?_
    rintro e u8 ⟨rfl, hb⟩
    replace ol := ol.grew hb
    replace os := os.grew hb
    replace oa := oa.grew hb
    replace ob := ob.grew hb
    replace o7 := o7.grew hb
    replace hB := below_app hB hb hB.size
    clear hb
    clear o7
    go_wp2_with fail
    refine (implWithin_b _ _ ql qs n c (sLen (lst n f)) cs f (sEl (lst n f)) _ (by omega) (by omega) ol.rd os.rd).mono ?_
    rintro e u9 ⟨rfl, hb⟩
    replace ol := ol.grew hb
    replace os := os.grew hb
    replace oa := oa.grew hb
    replace ob := ob.grew hb
    replace hB := below_app hB hb hB.size
    clear hb
    go_wp2_with fail
    refine (implWithin_b _ _ qs ql (sLen (lst n f)) cs n c (sEl (lst n f)) f _ (by omega) (by omega) os.rd ol.rd).mono ?_
    rintro e u10 ⟨rfl, hb⟩
    replace ol := ol.grew hb
    replace os := os.grew hb
    replace oa := oa.grew hb
    replace ob := ob.grew hb
    replace hB := below_app hB hb hB.size
    clear hb
    clear ol
    go_wp2
    clear t1 t2
    go_loopw [9] (fun i wr => ∃ k : Nat, 1 ≤ k ∧ k ≤ 8 ∧ i = .int .i64 k ∧ Below w'.heap.size w' wr ∧ Below u10.heap.size u10 wr) (fun i _ => 8 - (intOf i).toNat)
    case atStart => exact ⟨1, by omega, by omega, rfl, hB, Below.refl _ _⟩
    case round =>
      clear hB
      obtain ⟨k, hk1, hk8, rfl, hB, hb⟩ := hrel
      replace os := os.grew hb
      replace oa := oa.grew hb
      replace ob := ob.grew hb
      by_cases hlt : k < sLen (lst n f)
      · have e1 := os.cell k hlt
        have e2 := os.cell (k - 1) (by omega)
        rw [Nat.zero_add] at e1 e2
        have hasc := s_asc (lst n f) (i := k - 1) (j := k) (by omega) hlt
        have x2 : IntKind.i64.wrap ((k : Int) - 1) = ((k - 1 : Nat) : Int) := by rw [IntWalk.i64_in _ (by omega)]; omega
        go_wp2
        go_quiet (fail)
        go_wp2
        go_roundw
        case rel => exact ⟨k + 1, by omega, by omega, by go_num, below_drewN hB _, below_drewN hb _⟩
        case measure => simp [intOf]; omega
      · clear hb os
        go_wp2_with fail
        refine (implWith_any _ qa na ca x fa _ (by omega) oa.rd).mono ?_
        rintro e v1 ⟨qx, cx, rfl, hb, ox⟩
        replace oa := oa.grew hb
        replace ob := ob.grew hb
        replace hB := below_app hB hb hB.size
        clear hb
        go_wp2_with fail
        refine (implWithout_any _ qb nb cb y fb _ (by omega) ob.rd).mono ?_
        rintro e v2 ⟨qy, cy, rfl, hb, oy⟩
        replace oa := oa.grew hb
        replace ob := ob.grew hb
        replace ox := ox.grew hb
        replace hB := below_app hB hb hB.size
        clear hb
        go_wp2_with fail
        refine (implHas_b _ qx (sLen (wtL na fa x)) cx x (sEl (wtL na fa x)) _ (by omega) ox.rd).mono ?_
        rintro e v3 ⟨rfl, hb⟩
        replace oa := oa.grew hb
        replace ob := ob.grew hb
        replace ox := ox.grew hb
        replace oy := oy.grew hb
        replace hB := below_app hB hb hB.size
        clear hb
        go_wp2_with fail
        refine (implHas_b _ qy (sLen (woL nb fb y)) cy y (sEl (woL nb fb y)) _ (by omega) oy.rd).mono ?_
        rintro e v4 ⟨rfl, hb⟩
        replace oa := oa.grew hb
        replace ob := ob.grew hb
        replace ox := ox.grew hb
        replace oy := oy.grew hb
        replace hB := below_app hB hb hB.size
        clear hb
        go_wp2_with fail
        refine (implWithout_any _ qx (sLen (wtL na fa x)) cx x (sEl (wtL na fa x)) _ (by omega) ox.rd).mono ?_
        rintro e v5 hp
        obtain ⟨q1, c1, rfl, hb, o1⟩ := hp.congr wo_wt
        clear hp
        replace oa := oa.grew hb
        replace ob := ob.grew hb
        replace ox := ox.grew hb
        replace oy := oy.grew hb
        replace hB := below_app hB hb hB.size
        clear hb
        clear ox
        go_wp2_with fail
        refine (implWithout_any _ qa na ca x fa _ (by omega) oa.rd).mono ?_
        rintro e v6 ⟨q2, c2, rfl, hb, o2⟩
        replace oa := oa.grew hb
        replace ob := ob.grew hb
        replace oy := oy.grew hb
        replace o1 := o1.grew hb
        replace hB := below_app hB hb hB.size
        clear hb
        clear oa
        go_wp2_with fail
        refine (sameInts_same _ _ q1 q2 (sLen (woL na fa x)) _ _ _ _ (by omega) o1.rd o2.rd).mono ?_
        rintro e v7 ⟨rfl, hb⟩
        replace ob := ob.grew hb
        replace oy := oy.grew hb
        replace o1 := o1.grew hb
        replace o2 := o2.grew hb
        replace hB := below_app hB hb hB.size
        clear hb
        clear o1
        clear o2
        go_wp2_with fail
        refine (implWith_any _ qy (sLen (woL nb fb y)) cy y (sEl (woL nb fb y)) _ (by omega) oy.rd).mono ?_
        rintro e v8 hp
        obtain ⟨q3, c3, rfl, hb, o3⟩ := hp.congr wt_wo
        clear hp
        replace ob := ob.grew hb
        replace oy := oy.grew hb
        replace hB := below_app hB hb hB.size
        clear hb
        clear oy
        go_wp2_with fail
        refine (implWith_any _ qb nb cb y fb _ (by omega) ob.rd).mono ?_
        rintro e v9 ⟨q4, c4, rfl, hb, o4⟩
        replace ob := ob.grew hb
        replace o3 := o3.grew hb
        replace hB := below_app hB hb hB.size
        clear hb
        clear ob
        go_wp2_with fail
        refine (sameInts_same _ _ q3 q4 (sLen (wtL nb fb y)) _ _ _ _ (by omega) o3.rd o4.rd).mono ?_
        rintro e v10 ⟨rfl, hb⟩
        replace o3 := o3.grew hb
        replace o4 := o4.grew hb
        replace hB := below_app hB hb hB.size
        clear hb
        clear o3
        clear o4
        go_wp2
        go_ret
        exact ⟨rfl, hB⟩

set_option maxRecDepth 100000 in
theorem lifted (os : Os) (started : os.Started) (H : Type) (enc : TypeId × Value → H) :
    ReturnsInHanded {} Try.checked os 6 .any (Rows.fnSetsSpec.pre6 enc Try.prog Try.f6 Rows.fnSetsRow.domain false) (Rows.fnSetsSpec.post enc Try.prog Try.f6 false true false false) := by
  refine returnsInHanded_of_change (C := Try.checked) own started (by kernel_rfl) Try.func6
    (ChangeSpec.witness6 (enc := enc) (C := Try.checked) false ⟨#[], #[.slice none 0 0], []⟩ 8 (by kernel_rfl) (by kernel_rfl) (by kernel_rfl) (by kernel_rfl)) ?_
  intro W base args ds gs before hval0 hW hcnd _
  have hval : ∀ (j : Nat) t v, Try.f6.params[j]? = some t → args[j]? = some v → Value.okWide Try.prog W .any base t v := hval0
  have hW' := hW
  obtain ⟨p, q, hA0, hV, rfl, hfz, hnd⟩ := hW
  have hA : DataW.TrodAll enc Try.prog W 0 (fun _ => true) true Try.f6.params.toList args.toList ds p := hA0
  rw [Try.params6] at hA hval
  obtain ⟨v0, vs0, d0, ds0, p0, q0, hargs, rfl, rfl, h0, r0⟩ := trodAll_cons hA
  obtain ⟨rfl, rfl, rfl⟩ := trodAll_nil r0
  obtain rfl : args = #[v0] := by cases args; simp_all
  obtain ⟨rfl, rfl⟩ := trodVars_none hV
  obtain ⟨a0, len0, cap0, rfl⟩ := okWide_slice Try.underlying22 (hval 0 22 v0 rfl rfl)
  have k0 := h0
  have lt0 : ∀ x ∈ p0, x.block < W.heap.size := by obtain ⟨m, hm⟩ := k0; exact DataW.trod_lt m _ _ _ hm
  obtain ⟨z0, w0⟩ : ∃ zs, IsRow .u8 W a0 len0 cap0 zs := by
    obtain ⟨fuel, hf⟩ := h0
    rcases open_ints Try.underlying22 Try.underlying5 (by kernel_rfl) hf with ⟨hcs, _⟩ | ⟨x, l, c, zs, hcs, _, hl, hm, hz, _, hcell, hwz⟩
    · simp [Value.cells] at hcs
      obtain ⟨rfl, rfl, rfl⟩ := hcs
      exact ⟨[], .inl ⟨rfl, rfl, rfl, rfl⟩⟩
    · simp [Value.cells] at hcs
      obtain ⟨rfl, rfl, rfl⟩ := hcs
      exact ⟨zs, .inr ⟨_, rfl, hl, hm, by simpa using hz, hcell, hwz⟩⟩
  clear hA0 hval0
  refine (walk a0 len0 cap0 z0 W w0).mono fun e W' ⟨he, bel⟩ => ?_
  subst he
  exact ⟨_, rfl, _, _, _, [], _, [], hW', trodAll_mk1 (shut_bool Try.underlying4 _), (trodAll_cons_mk (Below.trod laidOut (by kernel_rfl) (of_decide_eq_true (by kernel_rfl)) k0 bel lt0) trodAll_mk0), rfl, bel.frame _, fun h => by cases h⟩

theorem over : Rows.fnSetsRow.holds Try.pinned (OpenSpec.ofChange Rows.fnSetsSpec) :=
  OpenClaim.holds_of_wide 6 Try.f6 rfl rfl rfl rfl rfl rfl rfl ⟨rfl, rfl, rfl, rfl, rfl⟩ rfl rfl rfl rfl rfl (by kernel_rfl) Try.func6 (by kernel_rfl)
    (of_decide_eq_true (by kernel_rfl)) (by unfold Func.isWrapper; first | (rw [if_pos (by decide +kernel)]; kernel_rfl) | (rw [if_neg (by decide +kernel)]; exact ⟨rfl, rfl⟩))
    (fun os started H enc _ => lifted os started H enc)

theorem proved : Rows.FnSetsSaid := over
#print axioms proved
end Go.Proofs.Ytdncgoippljlfaa.fnSets
