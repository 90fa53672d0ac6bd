/-
  What is proved: at every two slices of ints, the law FnExactMeet answers true: the program's Meet and the specification's answer alike, the answer lies in new memory, and the arguments read afterwards as before; no condition.
-/
import Derived.Test.YtdncgoippljlfamRows
import Derived.Test.YtdncgoippljlfamCur
import Derived.Test.YtdncgoippljlfamRow
import Derived.Test.YtdncgoippljlfamRowLaw
import Derived.Test.YtdncgoippljlfamSets
import Derived.Test.YtdncgoippljlfamSetSpec
import Derived.Test.YtdncgoippljlfamSetOf
import Derived.Test.YtdncgoippljlfamSetOf2
import Derived.Test.YtdncgoippljlfamSetSpec2
import Derived.Test.YtdncgoippljlfamSetSpec3
import Derived.Test.YtdncgoippljlfamSetLaw
import Derived.Test.YtdncgoippljlfamSetCat
import Derived.Test.YtdncgoippljlfamSetSeq
import Derived.Test.YtdncgoippljlfamSetLib
import Derived.Test.YtdncgoippljlfamSetFrom
import Derived.Test.YtdncgoippljlfamSetImpl
import Derived.Test.YtdncgoippljlfamSetSift
import Derived.Test.YtdncgoippljlfamSetMeet
import Derived.WalkKit
import Derived.ProofKit
import Derived.OpenShut
import Derived.ShutString
import Derived.ChangeOld
import Derived.Below
namespace Go.Proofs.Ytdncgoippljlfam.fnExactMeet
open Go.ChangeShapes Go.WideShapes Go.ChangeAt Go.RowKit
open Go.ChangeMaps (open_string shut_string)
set_option linter.unusedVariables false

theorem own : ownKnob Try.prog.godebug = none := by kernel_rfl
theorem laidOut : laidOutB Try.prog = true := by kernel_rfl

/-- WHAT THE WALK IS TOLD OF A SLICE OF INTEGERS THAT CAME IN: it is nil; or it leads to a row of 'cap' cells, the numbers 'zs' (the first 'len' are its elements, the rest its spare room), each fitting its kind. -/
def IsRow (k : IntKind) (w : World) (a : Option Addr) (len cap : Nat) (zs : List Int) : Prop :=
  (a = none ∧ len = 0 ∧ cap = 0 ∧ zs = []) ∨
  ∃ x, a = some x ∧ len ≤ cap ∧ cap ≤ maxLen ∧ zs.length = cap ∧ (∀ i, i < zs.length → w.cell? (x.add i) = some (.int k (zs.getD i 0))) ∧ ∀ n ∈ zs, (Lit.int k n).wf = true

set_option maxHeartbeats 2000000 in
theorem walk (a0 : Option Addr) (len0 cap0 : Nat) (z0 : List Int) (a1 : Option Addr) (len1 cap1 : Nat) (z1 : List Int) (w : World) (w0 : IsRow .i64 w a0 len0 cap0 z0) (w1 : IsRow .i64 w a1 len1 cap1 z1) :
    Calls Try.prog 4 #[.slice a0 len0 cap0, .slice a1 len1 cap1] w fun e w' => e = .returned (.bool true) ∧ Below w.heap.size w w' := by
  obtain ⟨hl0, b0, f0, hr0, hwf0⟩ := rd_of_row w0
  clear hwf0
  obtain ⟨hl1, b1, f1, hr1, hwf1⟩ := rd_of_row w1
  clear hwf1
  clear w0 w1
  by_cases hbig0 : (1048576 : Int) < (len0 : Int)
  · go_enter Try.func4, Try.ntmps4
    go_wp2
    go_ret
    exact ⟨rfl, Below.refl _ _⟩
  · skip
    by_cases hbig1 : (1048576 : Int) < (len1 : Int)
    · go_enter Try.func4, Try.ntmps4
      go_wp2
      go_ret
      exact ⟨rfl, Below.refl _ _⟩
    · go_enter Try.func4, Try.ntmps4
      have hsl := sLen_mt len0 len1 f0 f1
      have hB := Below.refl w.heap.size w
      go_wp2_with fail
      refine (toIntS_any _ b0 len0 _ f0 _ (by omega) (hr0.grew hB)).mono ?_
      rintro e u1 ⟨rfl, hb, s0⟩
      replace hB := below_app hB hb hB.size
      clear hb
      go_wp2_with fail
      refine (toIntS_any _ b1 len1 _ f1 _ (by omega) (hr1.grew hB)).mono ?_
      rintro e u2 ⟨rfl, hb, s1⟩
      replace s0 := s0.grew hb
      replace hB := below_app hB hb hB.size
      clear hb
      go_wp2_with fail
      refine (specMeet_any _ _ _ _ len0 _ len1 _ f0 f1 _ (by omega) (by omega) s0.rd s1.rd).mono ?_
      rintro e u3 ⟨gow, cow, rfl, hb, ow⟩
      replace s0 := s0.grew hb
      replace s1 := s1.grew hb
      replace hB := below_app hB hb hB.size
      clear hb
      clear s0
      clear s1
      go_wp2_with fail
      refine (toIntS_any _ b0 len0 _ f0 _ (by omega) (hr0.grew hB)).mono ?_
      rintro e u4 ⟨rfl, hb, x0⟩
      have d_ow_x0 : gow ≠ u3.heap.size := by have h1 := ow.2.1; have h2 := x0.1; omega
      have l_x0 : w.heap.size ≤ u3.heap.size := by have h1 := hB.size; have h2 := x0.1; omega
      replace ow := ow.grew hb
      replace hB := below_app hB hb hB.size
      clear hb
      go_wp2_with fail
      refine (toIntS_any _ b1 len1 _ f1 _ (by omega) (hr1.grew hB)).mono ?_
      rintro e u5 ⟨rfl, hb, x1⟩
      have d_ow_x1 : gow ≠ u4.heap.size := by have h1 := ow.2.1; have h2 := x1.1; omega
      have d_x0_x1 : u3.heap.size ≠ u4.heap.size := by have h1 := x0.2.1; have h2 := x1.1; omega
      have l_x1 : w.heap.size ≤ u4.heap.size := by have h1 := hB.size; have h2 := x1.1; omega
      replace ow := ow.grew hb
      replace x0 := x0.grew hb
      replace hB := below_app hB hb hB.size
      clear hb
      go_wp2_with fail
      refine (implMeet_any _ _ _ _ len0 _ len1 _ f0 f1 _ (by omega) (by omega) x0.rd x1.rd).mono ?_
      rintro e u6 ⟨gog, cog, rfl, hb, og⟩
      have d_ow_og : gow ≠ gog := by have h1 := ow.2.1; have h2 := og.1; omega
      have d_x0_og : u3.heap.size ≠ gog := by have h1 := x0.2.1; have h2 := og.1; omega
      have d_x1_og : u4.heap.size ≠ gog := by have h1 := x1.2.1; have h2 := og.1; omega
      have l_og : w.heap.size ≤ gog := by have h1 := hB.size; have h2 := og.1; omega
      replace ow := ow.grew hb
      replace x0 := x0.grew hb
      replace x1 := x1.grew hb
      replace hB := below_app hB hb hB.size
      clear hb
      go_wp2_with fail
      refine (eqIntS_same _ _ gog gow (sLen (mtL len0 f0 len1 f1)) _ _ _ _ (by omega) og.rd ow.rd).mono ?_
      rintro e u7 ⟨rfl, hb⟩
      replace ow := ow.grew hb
      replace x0 := x0.grew hb
      replace x1 := x1.grew hb
      replace og := og.grew hb
      replace hB := below_app hB hb hB.size
      clear hb
      go_wp2_with fail
      refine (toIntS_any _ b0 len0 _ f0 _ (by omega) (hr0.grew hB)).mono ?_
      rintro e u8 ⟨rfl, hb, y0⟩
      replace ow := ow.grew hb
      replace x0 := x0.grew hb
      replace x1 := x1.grew hb
      replace og := og.grew hb
      replace hB := below_app hB hb hB.size
      clear hb
      go_wp2_with fail
      refine (eqIntS_same _ _ u3.heap.size u7.heap.size len0 _ _ _ _ (by omega) x0.rd y0.rd).mono ?_
      rintro e u9 ⟨rfl, hb⟩
      replace ow := ow.grew hb
      replace x0 := x0.grew hb
      replace x1 := x1.grew hb
      replace og := og.grew hb
      replace y0 := y0.grew hb
      replace hB := below_app hB hb hB.size
      clear hb
      clear y0
      go_wp2_with fail
      refine (toIntS_any _ b1 len1 _ f1 _ (by omega) (hr1.grew hB)).mono ?_
      rintro e u10 ⟨rfl, hb, y1⟩
      replace ow := ow.grew hb
      replace x0 := x0.grew hb
      replace x1 := x1.grew hb
      replace og := og.grew hb
      replace hB := below_app hB hb hB.size
      clear hb
      go_wp2_with fail
      refine (eqIntS_same _ _ u4.heap.size u9.heap.size len1 _ _ _ _ (by omega) x1.rd y1.rd).mono ?_
      rintro e u11 ⟨rfl, hb⟩
      replace ow := ow.grew hb
      replace x0 := x0.grew hb
      replace x1 := x1.grew hb
      replace og := og.grew hb
      replace y1 := y1.grew hb
      replace hB := below_app hB hb hB.size
      clear hb
      clear y1
      go_wp2_with fail
      refine (markIntS_any _ u3.heap.size len0 _ 1 _ _ (by omega) (by omega) (by omega) x0).mono ?_
      rintro e u12 ⟨rfl, ho, _⟩
      replace ow := ow.only ho d_ow_x0
      replace x1 := x1.only ho d_x0_x1.symm
      replace og := og.only ho d_x0_og.symm
      replace hB := below_only hB l_x0 hB.size ho
      clear ho x0
      go_wp2_with fail
      refine (markIntS_any _ u4.heap.size len1 _ (1 + (len0 : Int)) _ _ (by omega) (by omega) (by omega) x1).mono ?_
      rintro e u13 ⟨rfl, ho, _⟩
      replace ow := ow.only ho d_ow_x1
      replace og := og.only ho d_x1_og.symm
      replace hB := below_only hB l_x1 hB.size ho
      clear ho x1
      go_wp2_with fail
      refine (eqIntS_same _ _ gog gow (sLen (mtL len0 f0 len1 f1)) _ _ _ _ (by omega) og.rd ow.rd).mono ?_
      rintro e u14 ⟨rfl, hb⟩
      replace ow := ow.grew hb
      replace og := og.grew hb
      replace hB := below_app hB hb hB.size
      clear hb
      go_wp2_with fail
      refine (markIntS_any _ gog (sLen (mtL len0 f0 len1 f1)) _ 1 _ _ (by omega) (by omega) (by omega) og).mono ?_
      rintro e u15 ⟨rfl, ho, om⟩
      replace ow := ow.only ho d_ow_og
      replace hB := below_only hB l_og hB.size ho
      clear ho og
      go_wp2_with fail
      refine (heldIntS_any _ gog (sLen (mtL len0 f0 len1 f1)) _ 1 _ (by omega) (by omega) (by omega) om.rd).mono ?_
      rintro e u16 ⟨rfl, hb⟩
      replace ow := ow.grew hb
      replace om := om.grew hb
      replace hB := below_app hB hb hB.size
      clear hb
      go_wp2_with fail
      refine (toIntS_any _ b0 len0 _ f0 _ (by omega) (hr0.grew hB)).mono ?_
      rintro e u17 ⟨rfl, hb, z0⟩
      replace ow := ow.grew hb
      replace om := om.grew hb
      replace hB := below_app hB hb hB.size
      clear hb
      go_wp2_with fail
      refine (toIntS_any _ b1 len1 _ f1 _ (by omega) (hr1.grew hB)).mono ?_
      rintro e u18 ⟨rfl, hb, z1⟩
      replace ow := ow.grew hb
      replace om := om.grew hb
      replace z0 := z0.grew hb
      replace hB := below_app hB hb hB.size
      clear hb
      go_wp2_with fail
      refine (implMeet_any _ _ _ _ len0 _ len1 _ f0 f1 _ (by omega) (by omega) z0.rd z1.rd).mono ?_
      rintro e u19 ⟨goh, coh, rfl, hb, oh⟩
      replace ow := ow.grew hb
      replace om := om.grew hb
      replace z0 := z0.grew hb
      replace z1 := z1.grew hb
      replace hB := below_app hB hb hB.size
      clear hb
      clear z0
      clear z1
      go_wp2_with fail
      refine (eqIntS_same _ _ goh gow (sLen (mtL len0 f0 len1 f1)) _ _ _ _ (by omega) oh.rd ow.rd).mono ?_
      rintro e u20 ⟨rfl, hb⟩
      replace ow := ow.grew hb
      replace om := om.grew hb
      replace oh := oh.grew hb
      replace hB := below_app hB hb hB.size
      clear hb
      clear oh
      clear ow
      go_wp2_with fail
      refine (heldIntS_any _ gog (sLen (mtL len0 f0 len1 f1)) _ 1 _ (by omega) (by omega) (by omega) om.rd).mono ?_
      rintro e u21 ⟨rfl, hb⟩
      replace om := om.grew hb
      replace hB := below_app hB hb hB.size
      clear hb
      clear om
      go_wp2
      go_ret
      exact ⟨rfl, hB⟩

set_option maxRecDepth 100000 in
theorem lifted (os : Os) (started : os.Started) (H : Type) (enc : TypeId × Value → H) :
    ReturnsInHanded {} Try.checked os 4 .any (Rows.fnExactMeetSpec.pre6 enc Try.prog Try.f4 Rows.fnExactMeetRow.domain false) (Rows.fnExactMeetSpec.post enc Try.prog Try.f4 false true false false) := by
  refine returnsInHanded_of_change (C := Try.checked) own started (by kernel_rfl) Try.func4
    (ChangeSpec.witness6 (enc := enc) (C := Try.checked) false ⟨#[], #[.slice none 0 0, .slice none 0 0], []⟩ 8 (by kernel_rfl) (by kernel_rfl) (by kernel_rfl) (by kernel_rfl)) ?_
  intro W base args ds gs before hval0 hW hcnd _
  have hval : ∀ (j : Nat) t v, Try.f4.params[j]? = some t → args[j]? = some v → Value.okWide Try.prog W .any base t v := hval0
  have hW' := hW
  obtain ⟨p, q, hA0, hV, rfl, hfz, hnd⟩ := hW
  have hA : DataW.TrodAll enc Try.prog W 0 (fun _ => true) true Try.f4.params.toList args.toList ds p := hA0
  rw [Try.params4] at hA hval
  obtain ⟨v0, vs0, d0, ds0, p0, q0, hargs, rfl, rfl, h0, r0⟩ := trodAll_cons hA
  obtain ⟨v1, vs1, d1, ds1, p1, q1, rfl, rfl, rfl, h1, r1⟩ := trodAll_cons r0
  obtain ⟨rfl, rfl, rfl⟩ := trodAll_nil r1
  obtain rfl : args = #[v0, v1] := by cases args; simp_all
  obtain ⟨rfl, rfl⟩ := trodVars_none hV
  obtain ⟨a0, len0, cap0, rfl⟩ := okWide_slice Try.underlying22 (hval 0 22 v0 rfl rfl)
  have k0 := h0
  have lt0 : ∀ x ∈ p0, x.block < W.heap.size := by obtain ⟨m, hm⟩ := k0; exact DataW.trod_lt m _ _ _ hm
  obtain ⟨z0, w0⟩ : ∃ zs, IsRow .i64 W a0 len0 cap0 zs := by
    obtain ⟨fuel, hf⟩ := h0
    rcases open_ints Try.underlying22 Try.underlying3 (by kernel_rfl) hf with ⟨hcs, _⟩ | ⟨x, l, c, zs, hcs, _, hl, hm, hz, _, hcell, hwz⟩
    · simp [Value.cells] at hcs
      obtain ⟨rfl, rfl, rfl⟩ := hcs
      exact ⟨[], .inl ⟨rfl, rfl, rfl, rfl⟩⟩
    · simp [Value.cells] at hcs
      obtain ⟨rfl, rfl, rfl⟩ := hcs
      exact ⟨zs, .inr ⟨_, rfl, hl, hm, by simpa using hz, hcell, hwz⟩⟩
  obtain ⟨a1, len1, cap1, rfl⟩ := okWide_slice Try.underlying22 (hval 1 22 v1 rfl rfl)
  have k1 := h1
  have lt1 : ∀ x ∈ p1, x.block < W.heap.size := by obtain ⟨m, hm⟩ := k1; exact DataW.trod_lt m _ _ _ hm
  obtain ⟨z1, w1⟩ : ∃ zs, IsRow .i64 W a1 len1 cap1 zs := by
    obtain ⟨fuel, hf⟩ := h1
    rcases open_ints Try.underlying22 Try.underlying3 (by kernel_rfl) hf with ⟨hcs, _⟩ | ⟨x, l, c, zs, hcs, _, hl, hm, hz, _, hcell, hwz⟩
    · simp [Value.cells] at hcs
      obtain ⟨rfl, rfl, rfl⟩ := hcs
      exact ⟨[], .inl ⟨rfl, rfl, rfl, rfl⟩⟩
    · simp [Value.cells] at hcs
      obtain ⟨rfl, rfl, rfl⟩ := hcs
      exact ⟨zs, .inr ⟨_, rfl, hl, hm, by simpa using hz, hcell, hwz⟩⟩
  clear hA0 hval0
  refine (walk a0 len0 cap0 z0 a1 len1 cap1 z1 W w0 w1).mono fun e W' ⟨he, bel⟩ => ?_
  subst he
  exact ⟨_, rfl, _, _, _, [], _, [], hW', trodAll_mk1 (shut_bool Try.underlying4 _), (trodAll_cons_mk (Below.trod laidOut (by kernel_rfl) (of_decide_eq_true (by kernel_rfl)) k0 bel lt0) (trodAll_cons_mk (Below.trod laidOut (by kernel_rfl) (of_decide_eq_true (by kernel_rfl)) k1 bel lt1) trodAll_mk0)), rfl, bel.frame _, fun h => by cases h⟩

theorem over : Rows.fnExactMeetRow.holds Try.pinned (OpenSpec.ofChange Rows.fnExactMeetSpec) :=
  OpenClaim.holds_of_wide 4 Try.f4 rfl rfl rfl rfl rfl rfl rfl ⟨rfl, rfl, rfl, rfl, rfl⟩ rfl rfl rfl rfl rfl (by kernel_rfl) Try.func4 (by kernel_rfl)
    (of_decide_eq_true (by kernel_rfl)) (by unfold Func.isWrapper; first | (rw [if_pos (by decide +kernel)]; kernel_rfl) | (rw [if_neg (by decide +kernel)]; exact ⟨rfl, rfl⟩))
    (fun os started H enc _ => lifted os started H enc)

theorem proved : Rows.FnExactMeetSaid := over
#print axioms proved
end Go.Proofs.Ytdncgoippljlfam.fnExactMeet
