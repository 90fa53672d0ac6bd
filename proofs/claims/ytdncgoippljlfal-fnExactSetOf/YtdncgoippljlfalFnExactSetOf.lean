/-
  What is proved: at every slice of ints, the law FnExactSetOf answers true: the program's SetOf and the specification's answer alike, the answer lies in new memory, and the arguments read afterwards as before; no condition.
-/
import Derived.Test.YtdncgoippljlfalRows
import Derived.Test.YtdncgoippljlfalCur
import Derived.Test.YtdncgoippljlfalRow
import Derived.Test.YtdncgoippljlfalRowLaw
import Derived.Test.YtdncgoippljlfalSets
import Derived.Test.YtdncgoippljlfalSetSpec
import Derived.Test.YtdncgoippljlfalSetOf
import Derived.Test.YtdncgoippljlfalSetOf2
import Derived.Test.YtdncgoippljlfalSetSpec2
import Derived.Test.YtdncgoippljlfalSetSpec3
import Derived.Test.YtdncgoippljlfalSetLaw
import Derived.Test.YtdncgoippljlfalSetCat
import Derived.Test.YtdncgoippljlfalSetSeq
import Derived.Test.YtdncgoippljlfalSetLib
import Derived.Test.YtdncgoippljlfalSetFrom
import Derived.Test.YtdncgoippljlfalSetImpl
import Derived.Test.YtdncgoippljlfalSetSift
import Derived.Test.YtdncgoippljlfalSetMeet
import Derived.WalkKit
import Derived.ProofKit
import Derived.OpenShut
import Derived.ShutString
import Derived.ChangeOld
import Derived.Below
namespace Go.Proofs.Ytdncgoippljlfal.fnExactSetOf
open Go.ChangeShapes Go.WideShapes Go.ChangeAt Go.RowKit
open Go.ChangeMaps (open_string shut_string)
set_option linter.unusedVariables false

theorem own : ownKnob Try.prog.godebug = none := by kernel_rfl
theorem laidOut : laidOutB Try.prog = true := by kernel_rfl

/-- WHAT THE WALK IS TOLD OF A SLICE OF INTEGERS THAT CAME IN: it is nil; or it leads to a row of 'cap' cells, the numbers 'zs' (the first 'len' are its elements, the rest its spare room), each fitting its kind. -/
def IsRow (k : IntKind) (w : World) (a : Option Addr) (len cap : Nat) (zs : List Int) : Prop :=
  (a = none ∧ len = 0 ∧ cap = 0 ∧ zs = []) ∨
  ∃ x, a = some x ∧ len ≤ cap ∧ cap ≤ maxLen ∧ zs.length = cap ∧ (∀ i, i < zs.length → w.cell? (x.add i) = some (.int k (zs.getD i 0))) ∧ ∀ n ∈ zs, (Lit.int k n).wf = true

set_option maxHeartbeats 2000000 in
theorem walk (a0 : Option Addr) (len0 cap0 : Nat) (z0 : List Int) (w : World) (w0 : IsRow .i64 w a0 len0 cap0 z0) :
    Calls Try.prog 5 #[.slice a0 len0 cap0] w fun e w' => e = .returned (.bool true) ∧ Below w.heap.size w w' := by
  obtain ⟨hl0, b0, f0, hr0, hwf0⟩ := rd_of_row w0
  clear hwf0
  clear w0
  by_cases hbig0 : (1048576 : Int) < (len0 : Int)
  · go_enter Try.func5, Try.ntmps5
    go_wp2
    go_ret
    exact ⟨rfl, Below.refl _ _⟩
  · go_enter Try.func5, Try.ntmps5
    have hsl := sLen_of len0 f0
    have hB := Below.refl w.heap.size w
    go_wp2_with fail
    refine (toIntS_any _ b0 len0 _ f0 _ (by omega) (hr0.grew hB)).mono ?_
    rintro e u1 ⟨rfl, hb, s0⟩
    replace hB := below_app hB hb hB.size
    clear hb
    go_wp2_with fail
    refine (specSetOf_list _ _ len0 _ f0 _ (by omega) s0.rd).mono ?_
    rintro e u2 ⟨gow, cow, rfl, hb, ow⟩
    replace s0 := s0.grew hb
    replace hB := below_app hB hb hB.size
    clear hb
    clear s0
    go_wp2_with fail
    refine (toIntS_any _ b0 len0 _ f0 _ (by omega) (hr0.grew hB)).mono ?_
    rintro e u3 ⟨rfl, hb, x0⟩
    have d_ow_x0 : gow ≠ u2.heap.size := by have h1 := ow.2.1; have h2 := x0.1; omega
    have l_x0 : w.heap.size ≤ u2.heap.size := by have h1 := hB.size; have h2 := x0.1; omega
    replace ow := ow.grew hb
    replace hB := below_app hB hb hB.size
    clear hb
    go_wp2_with fail
    refine (implSetOf_list _ _ len0 _ f0 _ (by omega) x0.rd).mono ?_
    rintro e u4 ⟨gog, cog, rfl, hb, og⟩
    have d_ow_og : gow ≠ gog := by have h1 := ow.2.1; have h2 := og.1; omega
    have d_x0_og : u2.heap.size ≠ gog := by have h1 := x0.2.1; have h2 := og.1; omega
    have l_og : w.heap.size ≤ gog := by have h1 := hB.size; have h2 := og.1; omega
    replace ow := ow.grew hb
    replace x0 := x0.grew hb
    replace hB := below_app hB hb hB.size
    clear hb
    go_wp2_with fail
    refine (eqIntS_same _ _ gog gow (sLen (lst len0 f0)) _ _ _ _ (by omega) og.rd ow.rd).mono ?_
    rintro e u5 ⟨rfl, hb⟩
    replace ow := ow.grew hb
    replace x0 := x0.grew hb
    replace og := og.grew hb
    replace hB := below_app hB hb hB.size
    clear hb
    go_wp2_with fail
    refine (toIntS_any _ b0 len0 _ f0 _ (by omega) (hr0.grew hB)).mono ?_
    rintro e u6 ⟨rfl, hb, y0⟩
    replace ow := ow.grew hb
    replace x0 := x0.grew hb
    replace og := og.grew hb
    replace hB := below_app hB hb hB.size
    clear hb
    go_wp2_with fail
    refine (eqIntS_same _ _ u2.heap.size u5.heap.size len0 _ _ _ _ (by omega) x0.rd y0.rd).mono ?_
    rintro e u7 ⟨rfl, hb⟩
    replace ow := ow.grew hb
    replace x0 := x0.grew hb
    replace og := og.grew hb
    replace y0 := y0.grew hb
    replace hB := below_app hB hb hB.size
    clear hb
    clear y0
    go_wp2_with fail
    refine (markIntS_any _ u2.heap.size len0 _ 1 _ _ (by omega) (by omega) (by omega) x0).mono ?_
    rintro e u8 ⟨rfl, ho, _⟩
    replace ow := ow.only ho d_ow_x0
    replace og := og.only ho d_x0_og.symm
    replace hB := below_only hB l_x0 hB.size ho
    clear ho x0
    go_wp2_with fail
    refine (eqIntS_same _ _ gog gow (sLen (lst len0 f0)) _ _ _ _ (by omega) og.rd ow.rd).mono ?_
    rintro e u9 ⟨rfl, hb⟩
    replace ow := ow.grew hb
    replace og := og.grew hb
    replace hB := below_app hB hb hB.size
    clear hb
    go_wp2_with fail
    refine (markIntS_any _ gog (sLen (lst len0 f0)) _ 1 _ _ (by omega) (by omega) (by omega) og).mono ?_
    rintro e u10 ⟨rfl, ho, om⟩
    replace ow := ow.only ho d_ow_og
    replace hB := below_only hB l_og hB.size ho
    clear ho og
    go_wp2_with fail
    refine (heldIntS_any _ gog (sLen (lst len0 f0)) _ 1 _ (by omega) (by omega) (by omega) om.rd).mono ?_
    rintro e u11 ⟨rfl, hb⟩
    replace ow := ow.grew hb
    replace om := om.grew hb
    replace hB := below_app hB hb hB.size
    clear hb
    go_wp2_with fail
    refine (toIntS_any _ b0 len0 _ f0 _ (by omega) (hr0.grew hB)).mono ?_
    rintro e u12 ⟨rfl, hb, z0⟩
    replace ow := ow.grew hb
    replace om := om.grew hb
    replace hB := below_app hB hb hB.size
    clear hb
    go_wp2_with fail
    refine (implSetOf_list _ _ len0 _ f0 _ (by omega) z0.rd).mono ?_
    rintro e u13 ⟨goh, coh, rfl, hb, oh⟩
    replace ow := ow.grew hb
    replace om := om.grew hb
    replace z0 := z0.grew hb
    replace hB := below_app hB hb hB.size
    clear hb
    clear z0
    go_wp2_with fail
    refine (eqIntS_same _ _ goh gow (sLen (lst len0 f0)) _ _ _ _ (by omega) oh.rd ow.rd).mono ?_
    rintro e u14 ⟨rfl, hb⟩
    replace ow := ow.grew hb
    replace om := om.grew hb
    replace oh := oh.grew hb
    replace hB := below_app hB hb hB.size
    clear hb
    clear oh
    clear ow
    go_wp2_with fail
    refine (heldIntS_any _ gog (sLen (lst len0 f0)) _ 1 _ (by omega) (by omega) (by omega) om.rd).mono ?_
    rintro e u15 ⟨rfl, hb⟩
    replace om := om.grew hb
    replace hB := below_app hB hb hB.size
    clear hb
    clear om
    go_wp2
    go_ret
    exact ⟨rfl, hB⟩

set_option maxRecDepth 100000 in
theorem lifted (os : Os) (started : os.Started) (H : Type) (enc : TypeId × Value → H) :
    ReturnsInHanded {} Try.checked os 5 .any (Rows.fnExactSetOfSpec.pre6 enc Try.prog Try.f5 Rows.fnExactSetOfRow.domain false) (Rows.fnExactSetOfSpec.post enc Try.prog Try.f5 false true false false) := by
  refine returnsInHanded_of_change (C := Try.checked) own started (by kernel_rfl) Try.func5
    (ChangeSpec.witness6 (enc := enc) (C := Try.checked) false ⟨#[], #[.slice none 0 0], []⟩ 8 (by kernel_rfl) (by kernel_rfl) (by kernel_rfl) (by kernel_rfl)) ?_
  intro W base args ds gs before hval0 hW hcnd _
  have hval : ∀ (j : Nat) t v, Try.f5.params[j]? = some t → args[j]? = some v → Value.okWide Try.prog W .any base t v := hval0
  have hW' := hW
  obtain ⟨p, q, hA0, hV, rfl, hfz, hnd⟩ := hW
  have hA : DataW.TrodAll enc Try.prog W 0 (fun _ => true) true Try.f5.params.toList args.toList ds p := hA0
  rw [Try.params5] at hA hval
  obtain ⟨v0, vs0, d0, ds0, p0, q0, hargs, rfl, rfl, h0, r0⟩ := trodAll_cons hA
  obtain ⟨rfl, rfl, rfl⟩ := trodAll_nil r0
  obtain rfl : args = #[v0] := by cases args; simp_all
  obtain ⟨rfl, rfl⟩ := trodVars_none hV
  obtain ⟨a0, len0, cap0, rfl⟩ := okWide_slice Try.underlying22 (hval 0 22 v0 rfl rfl)
  have k0 := h0
  have lt0 : ∀ x ∈ p0, x.block < W.heap.size := by obtain ⟨m, hm⟩ := k0; exact DataW.trod_lt m _ _ _ hm
  obtain ⟨z0, w0⟩ : ∃ zs, IsRow .i64 W a0 len0 cap0 zs := by
    obtain ⟨fuel, hf⟩ := h0
    rcases open_ints Try.underlying22 Try.underlying3 (by kernel_rfl) hf with ⟨hcs, _⟩ | ⟨x, l, c, zs, hcs, _, hl, hm, hz, _, hcell, hwz⟩
    · simp [Value.cells] at hcs
      obtain ⟨rfl, rfl, rfl⟩ := hcs
      exact ⟨[], .inl ⟨rfl, rfl, rfl, rfl⟩⟩
    · simp [Value.cells] at hcs
      obtain ⟨rfl, rfl, rfl⟩ := hcs
      exact ⟨zs, .inr ⟨_, rfl, hl, hm, by simpa using hz, hcell, hwz⟩⟩
  clear hA0 hval0
  refine (walk a0 len0 cap0 z0 W w0).mono fun e W' ⟨he, bel⟩ => ?_
  subst he
  exact ⟨_, rfl, _, _, _, [], _, [], hW', trodAll_mk1 (shut_bool Try.underlying4 _), (trodAll_cons_mk (Below.trod laidOut (by kernel_rfl) (of_decide_eq_true (by kernel_rfl)) k0 bel lt0) trodAll_mk0), rfl, bel.frame _, fun h => by cases h⟩

theorem over : Rows.fnExactSetOfRow.holds Try.pinned (OpenSpec.ofChange Rows.fnExactSetOfSpec) :=
  OpenClaim.holds_of_wide 5 Try.f5 rfl rfl rfl rfl rfl rfl rfl ⟨rfl, rfl, rfl, rfl, rfl⟩ rfl rfl rfl rfl rfl (by kernel_rfl) Try.func5 (by kernel_rfl)
    (of_decide_eq_true (by kernel_rfl)) (by unfold Func.isWrapper; first | (rw [if_pos (by decide +kernel)]; kernel_rfl) | (rw [if_neg (by decide +kernel)]; exact ⟨rfl, rfl⟩))
    (fun os started H enc _ => lifted os started H enc)

theorem proved : Rows.FnExactSetOfSaid := over
#print axioms proved
end Go.Proofs.Ytdncgoippljlfal.fnExactSetOf
