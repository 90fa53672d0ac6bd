/-
  What is proved: at every slice of bytes and every int, the law FnExactPutNum answers true: the program's PutNum and the specification's answer alike, the answer lies in new memory, and the arguments read afterwards as before; no condition.
-/
import Derived.Test.YtamckedkilkooakRows
import Derived.Test.YtamckedkilkooakNum
import Derived.Test.YtamckedkilkooakCur
import Derived.Test.YtamckedkilkooakRow
import Derived.Test.YtamckedkilkooakRowLaw
import Derived.Test.YtamckedkilkooakBytes
import Derived.Test.YtamckedkilkooakBytes2
import Derived.WalkKit
import Derived.ProofKit
import Derived.OpenShut
import Derived.ShutString
import Derived.ChangeOld
import Derived.Below
namespace Go.Proofs.Ytamckedkilkooak.fnExactPutNum
open Go.ChangeShapes Go.WideShapes Go.ChangeAt Go.RowKit
open Go.ChangeMaps (open_string shut_string)
set_option linter.unusedVariables false

theorem own : ownKnob Try.prog.godebug = none := by kernel_rfl
theorem laidOut : laidOutB Try.prog = true := by kernel_rfl

/-- WHAT THE WALK IS TOLD OF A SLICE OF INTEGERS THAT CAME IN: it is nil; or it leads to a row of 'cap' cells, the numbers 'zs' (the first 'len' are its elements, the rest its spare room), each fitting its kind. -/
def IsRow (k : IntKind) (w : World) (a : Option Addr) (len cap : Nat) (zs : List Int) : Prop :=
  (a = none ∧ len = 0 ∧ cap = 0 ∧ zs = []) ∨
  ∃ x, a = some x ∧ len ≤ cap ∧ cap ≤ maxLen ∧ zs.length = cap ∧ (∀ i, i < zs.length → w.cell? (x.add i) = some (.int k (zs.getD i 0))) ∧ ∀ n ∈ zs, (Lit.int k n).wf = true

set_option maxHeartbeats 1000000 in
theorem walk (a0 : Option Addr) (len0 cap0 : Nat) (z0 : List Int) (a1 : Int) (w : World) (w0 : IsRow .u8 w a0 len0 cap0 z0) (w1 : (Lit.int .i64 a1).wf = true) :
    Calls Try.prog 4 #[.slice a0 len0 cap0, .int .i64 a1] w fun e w' => e = .returned (.bool true) ∧ Below w.heap.size w w' := by
  obtain ⟨hl0, b, f, hr, _⟩ := rd_of_row w0
  clear w0 w1
  by_cases hbig : (1048576 : Int) < (len0 : Int)
  · go_enter Try.func4, Try.ntmps4
    go_wp2
    go_ret
    exact ⟨rfl, Below.refl _ _⟩
  · go_enter Try.func4, Try.ntmps4
    go_wp2_with fail
    refine (toByteS_any a0 b len0 cap0 f _ (by omega) hr).mono ?_
    rintro e u1 ⟨rfl, hb, o1⟩
    have hB := hb
    clear hb
    go_wp2_with fail
    refine (specPutNum_any a1 _ _ len0 _ f _ (by omega) o1.rd).mono ?_
    rintro e u2 ⟨g2, c2, rfl, hb, o2⟩
    replace hB := below_app hB hb hB.size
    have d2 := o2.2.1
    clear hb o1
    go_wp2_with fail
    refine (toByteS_any a0 b len0 cap0 f _ (by omega) (hr.grew hB)).mono ?_
    rintro e u3 ⟨rfl, hb, o3⟩
    have d0 : w.heap.size ≤ u2.heap.size := hB.size
    replace o2 := o2.grew hb
    replace hB := below_app hB hb hB.size
    have d3 := o3.2.1
    clear hb
    go_wp2_with fail
    refine (implPutNum_any a1 _ _ len0 _ f _ (by omega) o3.rd).mono ?_
    rintro e u4 ⟨g4, c4, rfl, hb, o4⟩
    replace o2 := o2.grew hb
    replace o3 := o3.grew hb
    replace hB := below_app hB hb hB.size
    have d4 := o4.1
    clear hb
    go_wp2_with fail
    refine (eqByteS_same _ _ g4 g2 (len0 + 4) _ _ _ _ (by omega) o4.rd o2.rd).mono ?_
    rintro e u5 ⟨rfl, hb⟩
    replace o2 := o2.grew hb
    replace o3 := o3.grew hb
    replace o4 := o4.grew hb
    replace hB := below_app hB hb hB.size
    clear hb
    go_wp2_with fail
    refine (toByteS_any a0 b len0 cap0 f _ (by omega) (hr.grew hB)).mono ?_
    rintro e u6 ⟨rfl, hb, o6⟩
    replace o2 := o2.grew hb
    replace o3 := o3.grew hb
    replace o4 := o4.grew hb
    replace hB := below_app hB hb hB.size
    clear hb
    go_wp2_with fail
    refine (eqByteS_same _ _ u2.heap.size _ len0 _ _ _ _ (by omega) o3.rd o6.rd).mono ?_
    rintro e u7 ⟨rfl, hb⟩
    replace o2 := o2.grew hb
    replace o3 := o3.grew hb
    replace o4 := o4.grew hb
    replace hB := below_app hB hb hB.size
    clear hb o6
    go_wp2_with fail
    refine (markByteS_any _ u2.heap.size len0 _ 1 f _ (by omega) (by omega) (by omega) o3).mono ?_
    rintro e u8 ⟨rfl, ho, _⟩
    replace o2 := o2.only ho (by omega)
    replace o4 := o4.only ho (by omega)
    replace hB := below_only hB d0 hB.size ho
    clear ho o3
    go_wp2_with fail
    refine (eqByteS_same _ _ g4 g2 (len0 + 4) _ _ _ _ (by omega) o4.rd o2.rd).mono ?_
    rintro e u9 ⟨rfl, hb⟩
    replace o2 := o2.grew hb
    replace o4 := o4.grew hb
    replace hB := below_app hB hb hB.size
    clear hb
    go_wp2_with fail
    refine (markByteS_any _ g4 (len0 + 4) _ 1 _ _ (by omega) (by omega) (by omega) o4).mono ?_
    rintro e u10 ⟨rfl, ho, o4m⟩
    replace o2 := o2.only ho (by omega)
    replace hB := below_only hB (by omega) hB.size ho
    clear ho o4
    go_wp2_with fail
    refine (heldByteS_any _ g4 (len0 + 4) _ 1 _ (by omega) (by omega) (by omega) o4m.rd).mono ?_
    rintro e u11 ⟨rfl, hb⟩
    replace o2 := o2.grew hb
    replace o4m := o4m.grew hb
    replace hB := below_app hB hb hB.size
    clear hb
    go_wp2_with fail
    refine (toByteS_any a0 b len0 cap0 f _ (by omega) (hr.grew hB)).mono ?_
    rintro e u12 ⟨rfl, hb, o12⟩
    replace o2 := o2.grew hb
    replace o4m := o4m.grew hb
    replace hB := below_app hB hb hB.size
    clear hb
    go_wp2_with fail
    refine (implPutNum_any a1 _ _ len0 _ f _ (by omega) o12.rd).mono ?_
    rintro e u13 ⟨g13, c13, rfl, hb, o13⟩
    replace o2 := o2.grew hb
    replace o4m := o4m.grew hb
    replace hB := below_app hB hb hB.size
    clear hb o12
    go_wp2_with fail
    refine (eqByteS_same _ _ g13 g2 (len0 + 4) _ _ _ _ (by omega) o13.rd o2.rd).mono ?_
    rintro e u14 ⟨rfl, hb⟩
    replace o4m := o4m.grew hb
    replace hB := below_app hB hb hB.size
    clear hb o13 o2
    go_wp2_with fail
    refine (heldByteS_any _ g4 (len0 + 4) _ 1 _ (by omega) (by omega) (by omega) o4m.rd).mono ?_
    rintro e u15 ⟨rfl, hb⟩
    replace hB := below_app hB hb hB.size
    clear hb o4m
    go_wp2
    go_ret
    exact ⟨rfl, hB⟩

set_option maxRecDepth 100000 in
theorem lifted (os : Os) (started : os.Started) (H : Type) (enc : TypeId × Value → H) :
    ReturnsInHanded {} Try.checked os 4 .any (Rows.fnExactPutNumSpec.pre6 enc Try.prog Try.f4 Rows.fnExactPutNumRow.domain false) (Rows.fnExactPutNumSpec.post enc Try.prog Try.f4 false true false false) := by
  refine returnsInHanded_of_change (C := Try.checked) own started (by kernel_rfl) Try.func4
    (ChangeSpec.witness6 (enc := enc) (C := Try.checked) false ⟨#[], #[.slice none 0 0, .int .i64 0], []⟩ 8 (by kernel_rfl) (by kernel_rfl) (by kernel_rfl) (by kernel_rfl)) ?_
  intro W base args ds gs before hval0 hW hcnd _
  have hval : ∀ (j : Nat) t v, Try.f4.params[j]? = some t → args[j]? = some v → Value.okWide Try.prog W .any base t v := hval0
  have hW' := hW
  obtain ⟨p, q, hA0, hV, rfl, hfz, hnd⟩ := hW
  have hA : DataW.TrodAll enc Try.prog W 0 (fun _ => true) true Try.f4.params.toList args.toList ds p := hA0
  rw [Try.params4] at hA hval
  obtain ⟨v0, vs0, d0, ds0, p0, q0, hargs, rfl, rfl, h0, r0⟩ := trodAll_cons hA
  obtain ⟨v1, vs1, d1, ds1, p1, q1, rfl, rfl, rfl, h1, r1⟩ := trodAll_cons r0
  obtain ⟨rfl, rfl, rfl⟩ := trodAll_nil r1
  obtain rfl : args = #[v0, v1] := by cases args; simp_all
  obtain ⟨rfl, rfl⟩ := trodVars_none hV
  obtain ⟨a0, len0, cap0, rfl⟩ := okWide_slice Try.underlying25 (hval 0 25 v0 rfl rfl)
  have k0 := h0
  have lt0 : ∀ x ∈ p0, x.block < W.heap.size := by obtain ⟨m, hm⟩ := k0; exact DataW.trod_lt m _ _ _ hm
  obtain ⟨z0, w0⟩ : ∃ zs, IsRow .u8 W a0 len0 cap0 zs := by
    obtain ⟨fuel, hf⟩ := h0
    rcases open_ints Try.underlying25 Try.underlying5 (by kernel_rfl) hf with ⟨hcs, _⟩ | ⟨x, l, c, zs, hcs, _, hl, hm, hz, _, hcell, hwz⟩
    · simp [Value.cells] at hcs
      obtain ⟨rfl, rfl, rfl⟩ := hcs
      exact ⟨[], .inl ⟨rfl, rfl, rfl, rfl⟩⟩
    · simp [Value.cells] at hcs
      obtain ⟨rfl, rfl, rfl⟩ := hcs
      exact ⟨zs, .inr ⟨_, rfl, hl, hm, by simpa using hz, hcell, hwz⟩⟩
  obtain ⟨a1, rfl, rfl, rfl, w1⟩ := open_int Try.underlying3 (hval 1 3 v1 rfl rfl) h1
  clear hA0 hval0
  refine (walk a0 len0 cap0 z0 a1 W w0 w1).mono fun e W' ⟨he, bel⟩ => ?_
  subst he
  exact ⟨_, rfl, _, _, _, [], _, [], hW', trodAll_mk1 (shut_bool Try.underlying4 _), (trodAll_cons_mk (Below.trod laidOut (by kernel_rfl) (of_decide_eq_true (by kernel_rfl)) k0 bel lt0) (trodAll_cons_mk (shut_int Try.underlying3 w1) trodAll_mk0)), rfl, bel.frame _, fun h => by cases h⟩

theorem over : Rows.fnExactPutNumRow.holds Try.pinned (OpenSpec.ofChange Rows.fnExactPutNumSpec) :=
  OpenClaim.holds_of_wide 4 Try.f4 rfl rfl rfl rfl rfl rfl rfl ⟨rfl, rfl, rfl, rfl, rfl⟩ rfl rfl rfl rfl rfl (by kernel_rfl) Try.func4 (by kernel_rfl)
    (of_decide_eq_true (by kernel_rfl)) (by unfold Func.isWrapper; first | (rw [if_pos (by decide +kernel)]; kernel_rfl) | (rw [if_neg (by decide +kernel)]; exact ⟨rfl, rfl⟩))
    (fun os started H enc _ => lifted os started H enc)

theorem proved : Rows.FnExactPutNumSaid := over
#print axioms proved
end Go.Proofs.Ytamckedkilkooak.fnExactPutNum
