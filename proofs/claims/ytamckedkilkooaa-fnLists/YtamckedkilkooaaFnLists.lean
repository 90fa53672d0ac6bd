/-
  What is proved: at every code (every slice of bytes, of whatever length), the law FnLists answers true: a drawn list comes back of its bytes, each number bounded; what Unpacked and GetList read of drawn bytes is what the specification reads, and their bytes those that Packed makes; PutList answers as the specification's; and the argument reads afterwards as before; no condition.
-/
import Derived.Test.YtamckedkilkooaaRows
import Derived.Test.YtamckedkilkooaaNum
import Derived.Test.YtamckedkilkooaaCur
import Derived.Test.YtamckedkilkooaaCur2
import Derived.Test.YtamckedkilkooaaCur3
import Derived.Test.YtamckedkilkooaaCurLaw
import Derived.Test.YtamckedkilkooaaRow
import Derived.Test.YtamckedkilkooaaRowLaw
import Derived.Test.YtamckedkilkooaaBytes
import Derived.Test.YtamckedkilkooaaBytes2
import Derived.Test.YtamckedkilkooaaBytes3
import Derived.Test.YtamckedkilkooaaDrawB
import Derived.Test.YtamckedkilkooaaDrawB2
import Derived.Test.YtamckedkilkooaaDrawL
import Derived.Test.YtamckedkilkooaaDrawBend
import Derived.Test.YtamckedkilkooaaList1
import Derived.Test.YtamckedkilkooaaList2
import Derived.Test.YtamckedkilkooaaList3
import Derived.Test.YtamckedkilkooaaList4
import Derived.Test.YtamckedkilkooaaList5
import Derived.Test.YtamckedkilkooaaDrawL2
import Derived.Test.YtamckedkilkooaaDrawL3
import Derived.Test.YtamckedkilkooaaNums
import Derived.Test.YtamckedkilkooaaLists
import Derived.WalkKit
import Derived.BigGuardPart
import Derived.BigQuiet
import Derived.ProofKit
import Derived.OpenShut
import Derived.ShutString
import Derived.ChangeOld
import Derived.Below
namespace Go.Proofs.Ytamckedkilkooaa.fnLists
open Go.ChangeShapes Go.WideShapes Go.ChangeAt Go.RowKit
open Go.ChangeMaps (open_string shut_string)
set_option linter.unusedVariables false

theorem own : ownKnob Try.prog.godebug = none := by kernel_rfl
theorem laidOut : laidOutB Try.prog = true := by kernel_rfl

/-- WHAT THE WALK IS TOLD OF A SLICE OF INTEGERS THAT CAME IN: it is nil; or it leads to a row of 'cap' cells, the numbers 'zs' (the first 'len' are its elements, the rest its spare room), each fitting its kind. -/
def IsRow (k : IntKind) (w : World) (a : Option Addr) (len cap : Nat) (zs : List Int) : Prop :=
  (a = none ∧ len = 0 ∧ cap = 0 ∧ zs = []) ∨
  ∃ x, a = some x ∧ len ≤ cap ∧ cap ≤ maxLen ∧ zs.length = cap ∧ (∀ i, i < zs.length → w.cell? (x.add i) = some (.int k (zs.getD i 0))) ∧ ∀ n ∈ zs, (Lit.int k n).wf = true

set_option maxHeartbeats 4000000 in
theorem walk (a0 : Option Addr) (len0 cap0 : Nat) (z0 : List Int) (w : World) (w0 : IsRow .u8 w a0 len0 cap0 z0) :
    Calls Try.prog 5 #[.slice a0 len0 cap0] w fun e w' => e = .returned (.bool true) ∧ Below w.heap.size w w' := by
  have hc : Code w a0 len0 w.heap.size := code_of_row w0
  clear w0
  by_cases hbig : (1048576 : Int) < (len0 : Int)
  · go_enter Try.func5, Try.ntmps5
    go_wp2_with (go_at_call 6; refine (big_any _ _ _ _).mono ?_; rintro e w' ⟨rfl, rfl⟩)
    go_ret
    exact ⟨rfl, Below.refl _ _⟩
  · go_enter Try.func5, Try.ntmps5
    go_wp2_with fail
    refine (big_any _ _ _ _).mono ?_
    rintro e w' ⟨rfl, rfl⟩
    have hB := Below.refl w'.heap.size w'
    go_wp2_with fail
    refine (drawPacked_any _ _ _ _ ((hc.below hB).mono hB.size (Nat.le_refl _))).mono ?_
    rintro e u1 ⟨ql, cl, m, g, rfl, hm, _, ol, hb⟩
    replace hB := below_app hB hb hB.size
    clear hb
    go_wp2_with fail
    refine (implPacked_small _ ql m _ g _ (by omega) ol.rd).mono ?_
    rintro e u2 ⟨qb, cb, rfl, hcb, hb, ob⟩
    replace ol := ol.grew hb
    replace hB := below_app hB hb hB.size
    clear hb
    go_wp2_with fail
    refine (implUnpacked_pack _ qb m cb g _ (by omega) hcb ob.rd).mono ?_
    rintro e u3 ⟨qm, cm, rfl, hb, om⟩
    replace ol := ol.grew hb
    replace ob := ob.grew hb
    replace hB := below_app hB hb hB.size
    clear hb
    clear ob
    go_wp2_with fail
    refine (drawUnpacked_any _ _ _ _ ((hc.below hB).mono hB.size (Nat.le_refl _))).mono ?_
    rintro e u4 ⟨qc, cc, n, f, rfl, hn, hcc, hu, oc, hb⟩
    replace ol := ol.grew hb
    replace om := om.grew hb
    replace hB := below_app hB hb hB.size
    clear hb
    go_wp2_with fail
    refine (implUnpacked_any _ qc n cc f _ (by omega) hcc hu oc.rd).mono ?_
    rintro e u5 ⟨qx, cx, rfl, hb, ox⟩
    replace ol := ol.grew hb
    replace om := om.grew hb
    replace oc := oc.grew hb
    replace hB := below_app hB hb hB.size
    clear hb
    go_wp2_with fail
    refine (specUnpacked_any _ qc n cc f _ (by omega) hu oc.rd).mono ?_
    rintro e u6 ⟨qy, cy, rfl, hb, oy⟩
    replace ol := ol.grew hb
    replace om := om.grew hb
    replace oc := oc.grew hb
    replace ox := ox.grew hb
    replace hB := below_app hB hb hB.size
    clear hb
    go_wp2_with fail
    refine (drawGetList_any _ _ _ _ ((hc.below hB).mono hB.size (Nat.le_refl _))).mono ?_
    rintro e u7 ⟨qd, nd, cd, fd, at', rfl, ha, hnd, hcd, hud, od, hb⟩
    replace ol := ol.grew hb
    replace om := om.grew hb
    replace oc := oc.grew hb
    replace ox := ox.grew hb
    replace oy := oy.grew hb
    replace hB := below_app hB hb hB.size
    clear hb
    go_wp2_with fail
    refine (implGetList_any _ qd nd cd at' fd _ (by omega) hcd ha hud od.rd).mono ?_
    rintro e u8 ⟨qu, cu, rfl, hb, ou⟩
    replace ol := ol.grew hb
    replace om := om.grew hb
    replace oc := oc.grew hb
    replace ox := ox.grew hb
    replace oy := oy.grew hb
    replace od := od.grew hb
    replace hB := below_app hB hb hB.size
    clear hb
    go_wp2_with fail
    refine (specGetList_any _ qd nd cd at' fd _ (by omega) ha hud od.rd).mono ?_
    rintro e u9 ⟨qv, cv, rfl, hb, ov⟩
    replace ol := ol.grew hb
    replace om := om.grew hb
    replace oc := oc.grew hb
    replace ox := ox.grew hb
    replace oy := oy.grew hb
    replace od := od.grew hb
    replace ou := ou.grew hb
    replace hB := below_app hB hb hB.size
    clear hb
    clear od
    go_wp2_with fail
    refine (drawPutList_any _ _ _ _ ((hc.below hB).mono hB.size (Nat.le_refl _))).mono ?_
    rintro e u10 ⟨qe, ne, ce, fe, qo, mo, co, go', rfl, hne, hmo, oe, oo, hb⟩
    replace ol := ol.grew hb
    replace om := om.grew hb
    replace oc := oc.grew hb
    replace ox := ox.grew hb
    replace oy := oy.grew hb
    replace ou := ou.grew hb
    replace ov := ov.grew hb
    replace hB := below_app hB hb hB.size
    clear hb
    have hun := unN_le n f hu
    have hgl := glN_le nd fd at' hud
    have hpl := plN_le ne mo
    clear ha hud hcd hcc hcb
    cases hok : unOk n f with
    | false =>
      go_wp2_with fail
      refine (sameInts_same _ _ qx qy (unN n f) _ _ _ _ (by omega) ox.rd oy.rd).mono ?_
      rintro e u11 ⟨rfl, hb⟩
      replace ol := ol.grew hb
      replace om := om.grew hb
      replace oc := oc.grew hb
      replace ox := ox.grew hb
      replace oy := oy.grew hb
      replace ou := ou.grew hb
      replace ov := ov.grew hb
      replace oe := oe.grew hb
      replace oo := oo.grew hb
      replace hB := below_app hB hb hB.size
      clear hb
      clear oy
      clear ox
      clear oc
      go_wp2_with fail
      refine (sameInts_same _ _ qu qv (glN nd fd at') _ _ _ _ (by omega) ou.rd ov.rd).mono ?_
      rintro e u14 ⟨rfl, hb⟩
      replace ol := ol.grew hb
      replace om := om.grew hb
      replace ou := ou.grew hb
      replace ov := ov.grew hb
      replace oe := oe.grew hb
      replace oo := oo.grew hb
      replace hB := below_app hB hb hB.size
      clear hb
      clear ou
      clear ov
      go_wp2_with fail
      refine (implPutList_all _ _ qe qo ne ce mo co fe go' _ (by omega) oe.rd oo.rd).mono ?_
      rintro e u15 ⟨q1, c1, rfl, hb, o1⟩
      replace ol := ol.grew hb
      replace om := om.grew hb
      replace oe := oe.grew hb
      replace oo := oo.grew hb
      replace hB := below_app hB hb hB.size
      clear hb
      go_wp2_with fail
      refine (specPutList_all _ _ qe qo ne ce mo co fe go' _ (by omega) oe.rd oo.rd).mono ?_
      rintro e u16 ⟨q2, c2, rfl, hb, o2⟩
      replace ol := ol.grew hb
      replace om := om.grew hb
      replace oe := oe.grew hb
      replace oo := oo.grew hb
      replace o1 := o1.grew hb
      replace hB := below_app hB hb hB.size
      clear hb
      clear oe
      clear oo
      go_wp2_with fail
      refine (same_any _ _ q1 q2 (plN ne mo) _ _ (plF ne mo fe go') u16 o1.rd o2.rd).mono ?_
      rintro e u17 ⟨rfl, hu17⟩
      have hb : Below u16.heap.size u16 u17 := by rw [hu17]; exact Below.refl _ _
      clear hu17
      replace ol := ol.grew hb
      replace om := om.grew hb
      replace o1 := o1.grew hb
      replace o2 := o2.grew hb
      replace hB := below_app hB hb hB.size
      clear hb
      clear o1
      clear o2
      clear hun hgl hpl hok hu
      go_wp2
      go_loopw [22] (fun i wr => ∃ k : Nat, k ≤ m ∧ i = .int .i64 k ∧ Below w'.heap.size w' wr ∧ Own .i64 wr w'.heap.size ql (some ⟨ql, 0, none⟩) m g ∧ Own .i64 wr u2.heap.size qm (some ⟨qm, 0, none⟩) m (fun i => bd (g i))) (fun i _ => m - (intOf i).toNat)
      case atStart => exact ⟨0, Nat.zero_le _, rfl, hB, ol, om⟩
      case round =>
        clear hB ol om
        obtain ⟨k, hk, rfl, hB, ol, om⟩ := hrel
        by_cases hlt : k < m
        · have e1 := ol.cell k hlt
          have e2 := om.cell k hlt
          simp only [Nat.zero_add] at e1 e2
          have hB2 := fun x => below_drewN hB x
          go_wp2
          go_quiet ((go_at_call 19; exact Calls.quiet_of_same (implBound_b _ _)))
          go_wp2
          go_roundw
          case rel => exact ⟨k + 1, by omega, by go_num, hB2 _, ol, om⟩
          case measure => simp [intOf]; omega
        · go_wp2
          go_ret
          exact ⟨rfl, hB⟩
    | true =>
      go_wp2_with fail
      refine (sameInts_same _ _ qx qy (unN n f) _ _ _ _ (by omega) ox.rd oy.rd).mono ?_
      rintro e u11 ⟨rfl, hb⟩
      replace ol := ol.grew hb
      replace om := om.grew hb
      replace oc := oc.grew hb
      replace ox := ox.grew hb
      replace oy := oy.grew hb
      replace ou := ou.grew hb
      replace ov := ov.grew hb
      replace oe := oe.grew hb
      replace oo := oo.grew hb
      replace hB := below_app hB hb hB.size
      clear hb
      clear oy
      go_wp2_with fail
      refine (implPacked_back _ qx _ n f _ hu hok ox.rd).mono ?_
      rintro e u12 ⟨qp, cp, rfl, hb, op⟩
      replace ol := ol.grew hb
      replace om := om.grew hb
      replace oc := oc.grew hb
      replace ox := ox.grew hb
      replace ou := ou.grew hb
      replace ov := ov.grew hb
      replace oe := oe.grew hb
      replace oo := oo.grew hb
      replace hB := below_app hB hb hB.size
      clear hb
      clear ox
      go_wp2_with fail
      refine (same_any _ _ qp qc n _ _ f u12 op.rd oc.rd).mono ?_
      rintro e u13 ⟨rfl, hu13⟩
      have hb : Below u12.heap.size u12 u13 := by rw [hu13]; exact Below.refl _ _
      clear hu13
      replace ol := ol.grew hb
      replace om := om.grew hb
      replace oc := oc.grew hb
      replace ou := ou.grew hb
      replace ov := ov.grew hb
      replace oe := oe.grew hb
      replace oo := oo.grew hb
      replace op := op.grew hb
      replace hB := below_app hB hb hB.size
      clear hb
      clear op
      clear oc
      go_wp2_with fail
      refine (sameInts_same _ _ qu qv (glN nd fd at') _ _ _ _ (by omega) ou.rd ov.rd).mono ?_
      rintro e u14 ⟨rfl, hb⟩
      replace ol := ol.grew hb
      replace om := om.grew hb
      replace ou := ou.grew hb
      replace ov := ov.grew hb
      replace oe := oe.grew hb
      replace oo := oo.grew hb
      replace hB := below_app hB hb hB.size
      clear hb
      clear ou
      clear ov
      go_wp2_with fail
      refine (implPutList_all _ _ qe qo ne ce mo co fe go' _ (by omega) oe.rd oo.rd).mono ?_
      rintro e u15 ⟨q1, c1, rfl, hb, o1⟩
      replace ol := ol.grew hb
      replace om := om.grew hb
      replace oe := oe.grew hb
      replace oo := oo.grew hb
      replace hB := below_app hB hb hB.size
      clear hb
      go_wp2_with fail
      refine (specPutList_all _ _ qe qo ne ce mo co fe go' _ (by omega) oe.rd oo.rd).mono ?_
      rintro e u16 ⟨q2, c2, rfl, hb, o2⟩
      replace ol := ol.grew hb
      replace om := om.grew hb
      replace oe := oe.grew hb
      replace oo := oo.grew hb
      replace o1 := o1.grew hb
      replace hB := below_app hB hb hB.size
      clear hb
      clear oe
      clear oo
      go_wp2_with fail
      refine (same_any _ _ q1 q2 (plN ne mo) _ _ (plF ne mo fe go') u16 o1.rd o2.rd).mono ?_
      rintro e u17 ⟨rfl, hu17⟩
      have hb : Below u16.heap.size u16 u17 := by rw [hu17]; exact Below.refl _ _
      clear hu17
      replace ol := ol.grew hb
      replace om := om.grew hb
      replace o1 := o1.grew hb
      replace o2 := o2.grew hb
      replace hB := below_app hB hb hB.size
      clear hb
      clear o1
      clear o2
      clear hun hgl hpl hok hu
      go_wp2
      go_loopw [22] (fun i wr => ∃ k : Nat, k ≤ m ∧ i = .int .i64 k ∧ Below w'.heap.size w' wr ∧ Own .i64 wr w'.heap.size ql (some ⟨ql, 0, none⟩) m g ∧ Own .i64 wr u2.heap.size qm (some ⟨qm, 0, none⟩) m (fun i => bd (g i))) (fun i _ => m - (intOf i).toNat)
      case atStart => exact ⟨0, Nat.zero_le _, rfl, hB, ol, om⟩
      case round =>
        clear hB ol om
        obtain ⟨k, hk, rfl, hB, ol, om⟩ := hrel
        by_cases hlt : k < m
        · have e1 := ol.cell k hlt
          have e2 := om.cell k hlt
          simp only [Nat.zero_add] at e1 e2
          have hB2 := fun x => below_drewN hB x
          go_wp2
          go_quiet ((go_at_call 19; exact Calls.quiet_of_same (implBound_b _ _)))
          go_wp2
          go_roundw
          case rel => exact ⟨k + 1, by omega, by go_num, hB2 _, ol, om⟩
          case measure => simp [intOf]; omega
        · go_wp2
          go_ret
          exact ⟨rfl, hB⟩

set_option maxRecDepth 100000 in
theorem lifted (os : Os) (started : os.Started) (H : Type) (enc : TypeId × Value → H) :
    ReturnsInHanded {} Try.checked os 5 .any (Rows.fnListsSpec.pre6 enc Try.prog Try.f5 Rows.fnListsRow.domain false) (Rows.fnListsSpec.post enc Try.prog Try.f5 false true false false) := by
  refine returnsInHanded_of_change (C := Try.checked) own started (by kernel_rfl) Try.func5
    (ChangeSpec.witness6 (enc := enc) (C := Try.checked) false ⟨#[], #[.slice none 0 0], []⟩ 8 (by kernel_rfl) (by kernel_rfl) (by kernel_rfl) (by kernel_rfl)) ?_
  intro W base args ds gs before hval0 hW hcnd _
  have hval : ∀ (j : Nat) t v, Try.f5.params[j]? = some t → args[j]? = some v → Value.okWide Try.prog W .any base t v := hval0
  have hW' := hW
  obtain ⟨p, q, hA0, hV, rfl, hfz, hnd⟩ := hW
  have hA : DataW.TrodAll enc Try.prog W 0 (fun _ => true) true Try.f5.params.toList args.toList ds p := hA0
  rw [Try.params5] at hA hval
  obtain ⟨v0, vs0, d0, ds0, p0, q0, hargs, rfl, rfl, h0, r0⟩ := trodAll_cons hA
  obtain ⟨rfl, rfl, rfl⟩ := trodAll_nil r0
  obtain rfl : args = #[v0] := by cases args; simp_all
  obtain ⟨rfl, rfl⟩ := trodVars_none hV
  obtain ⟨a0, len0, cap0, rfl⟩ := okWide_slice Try.underlying22 (hval 0 22 v0 rfl rfl)
  have k0 := h0
  have lt0 : ∀ x ∈ p0, x.block < W.heap.size := by obtain ⟨m, hm⟩ := k0; exact DataW.trod_lt m _ _ _ hm
  obtain ⟨z0, w0⟩ : ∃ zs, IsRow .u8 W a0 len0 cap0 zs := by
    obtain ⟨fuel, hf⟩ := h0
    rcases open_ints Try.underlying22 Try.underlying5 (by kernel_rfl) hf with ⟨hcs, _⟩ | ⟨x, l, c, zs, hcs, _, hl, hm, hz, _, hcell, hwz⟩
    · simp [Value.cells] at hcs
      obtain ⟨rfl, rfl, rfl⟩ := hcs
      exact ⟨[], .inl ⟨rfl, rfl, rfl, rfl⟩⟩
    · simp [Value.cells] at hcs
      obtain ⟨rfl, rfl, rfl⟩ := hcs
      exact ⟨zs, .inr ⟨_, rfl, hl, hm, by simpa using hz, hcell, hwz⟩⟩
  clear hA0 hval0
  refine (walk a0 len0 cap0 z0 W w0).mono fun e W' ⟨he, bel⟩ => ?_
  subst he
  exact ⟨_, rfl, _, _, _, [], _, [], hW', trodAll_mk1 (shut_bool Try.underlying4 _), (trodAll_cons_mk (Below.trod laidOut (by kernel_rfl) (of_decide_eq_true (by kernel_rfl)) k0 bel lt0) trodAll_mk0), rfl, bel.frame _, fun h => by cases h⟩

theorem over : Rows.fnListsRow.holds Try.pinned (OpenSpec.ofChange Rows.fnListsSpec) :=
  OpenClaim.holds_of_wide 5 Try.f5 rfl rfl rfl rfl rfl rfl rfl ⟨rfl, rfl, rfl, rfl, rfl⟩ rfl rfl rfl rfl rfl (by kernel_rfl) Try.func5 (by kernel_rfl)
    (of_decide_eq_true (by kernel_rfl)) (by unfold Func.isWrapper; first | (rw [if_pos (by decide +kernel)]; kernel_rfl) | (rw [if_neg (by decide +kernel)]; exact ⟨rfl, rfl⟩))
    (fun os started H enc _ => lifted os started H enc)

theorem proved : Rows.FnListsSaid := over
#print axioms proved
end Go.Proofs.Ytamckedkilkooaa.fnLists
