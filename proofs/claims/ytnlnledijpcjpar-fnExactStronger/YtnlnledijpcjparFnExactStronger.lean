/-
  What is proved: at every two guards, the law FnExactStronger answers true: the program's Stronger and the specification's answer alike; no condition.
-/
import Derived.Test.YtnlnledijpcjparRows
import Derived.Test.YtnlnledijpcjparCur
import Derived.Test.YtnlnledijpcjparPiece
import Derived.Test.YtnlnledijpcjparRow
import Derived.Test.YtnlnledijpcjparPiece2
import Derived.Test.YtnlnledijpcjparRowLaw
import Derived.Test.YtnlnledijpcjparEvA
import Derived.Test.YtnlnledijpcjparGuA
import Derived.Test.YtnlnledijpcjparGuB
import Derived.Test.YtnlnledijpcjparState1
import Derived.Test.YtnlnledijpcjparState2
import Derived.Test.YtnlnledijpcjparState3
import Derived.Test.YtnlnledijpcjparSeg
import Derived.Test.YtnlnledijpcjparRegTail
import Derived.Test.YtnlnledijpcjparRegBelow
import Derived.Test.YtnlnledijpcjparNum
import Derived.Test.YtnlnledijpcjparPiece3
import Derived.Test.YtnlnledijpcjparState4
import Derived.Test.YtnlnledijpcjparState5
import Derived.Test.YtnlnledijpcjparBytes
import Derived.Test.YtnlnledijpcjparState8
import Derived.Test.YtnlnledijpcjparGuC
import Derived.Test.YtnlnledijpcjparStMark
import Derived.Test.YtnlnledijpcjparPieceOk
import Derived.Test.YtnlnledijpcjparState6
import Derived.Test.YtnlnledijpcjparStHeld
import Derived.Test.YtnlnledijpcjparStEq
import Derived.Test.YtnlnledijpcjparStSame
import Derived.Test.YtnlnledijpcjparRegCut
import Derived.Test.YtnlnledijpcjparStLaw
import Derived.Test.YtnlnledijpcjparGuD
import Derived.Test.YtnlnledijpcjparPaA
import Derived.Test.YtnlnledijpcjparPaB
import Derived.Test.YtnlnledijpcjparPaC
import Derived.Test.YtnlnledijpcjparPieceI1
import Derived.Test.YtnlnledijpcjparEvC
import Derived.Test.YtnlnledijpcjparPaI
import Derived.Test.YtnlnledijpcjparGuE
import Derived.Test.YtnlnledijpcjparStAt
import Derived.Test.YtnlnledijpcjparStField
import Derived.Test.YtnlnledijpcjparGuF
import Derived.Test.YtnlnledijpcjparStHas
import Derived.Test.YtnlnledijpcjparGuG
import Derived.Test.YtnlnledijpcjparGuH
import Derived.Test.YtnlnledijpcjparGuL
import Derived.WalkKit
import Derived.Deep.DeepCutAuto
import Derived.Deep.RegionHeld
import Derived.ProofKit
import Derived.OpenShut
import Derived.ShutString
import Derived.ChangeOld
import Derived.Below
namespace Go.Proofs.Ytnlnledijpcjpar.fnExactStronger
open Go.ChangeShapes Go.WideShapes Go.ChangeAt Go.RowKit
set_option linter.unusedVariables false

theorem own : ownKnob Try.prog.godebug = none := by kernel_rfl
theorem laidOut : laidOutB Try.prog = true := by kernel_rfl

def IsRow (k : IntKind) (w : World) (a : Option Addr) (len cap : Nat) (zs : List Int) : Prop :=
  (a = none ∧ len = 0 ∧ cap = 0 ∧ zs = []) ∨
  ∃ x, a = some x ∧ len ≤ cap ∧ cap ≤ maxLen ∧ zs.length = cap ∧ (∀ i, i < zs.length → w.cell? (x.add i) = some (.int k (zs.getD i 0))) ∧ ∀ n ∈ zs, (Lit.int k n).wf = true

set_option maxHeartbeats 2000000 in
set_option maxHeartbeats 4000000 in
theorem walk (p0 : Gd) (p1 : Gd) (w : World) (w0 : p0.wf) (w1 : p1.wf) :
    Calls Try.prog 6 #[.agg #[.int .i64 p0.kd, .int .i64 p0.nn], .agg #[.int .i64 p1.kd, .int .i64 p1.nn]] w fun e w' => e = .returned (.bool true) ∧ Below w.heap.size w w' := by
  have m_ : Try.prog.follows Departure.mixedOrders = true := by kernel_rfl
  have hBw := ((Below.refl _ w).alloc (by exact Nat.le_refl _) (.cells #[.int .i64 p0.kd, .int .i64 p0.nn] 23)).alloc (by simp) (.cells #[.int .i64 p1.kd, .int .i64 p1.nn] 23)
  have b_d0 := (boxR_new w 23 #[.int .i64 p0.kd, .int .i64 p0.nn]).alloc (.cells #[.int .i64 p1.kd, .int .i64 p1.nn] 23)
  have b_d1 := boxR_new (w.alloc (.cells #[.int .i64 p0.kd, .int .i64 p0.nn] 23)) 23 #[.int .i64 p1.kd, .int .i64 p1.nn]
  simp only [World.size_alloc] at b_d1
  generalize hW : (w.alloc (.cells #[.int .i64 p0.kd, .int .i64 p0.nn] 23)).alloc (.cells #[.int .i64 p1.kd, .int .i64 p1.nn] 23) = W at hBw b_d0 b_d1
  have hsz : w.heap.size ≤ W.heap.size := hBw.size
  have l_d0 := b_d0.lt
  have l_d1 := b_d1.lt
  have hB := Below.refl W.heap.size W
  go_enter Try.func6, Try.ntmps6
  go_upto_region 1 with fail
  try clear hW
  go_cut [5] (fun sx wc => sx = (.bool (srG p0 p1)) ∧ Below W.heap.size W wc)
  case first =>
    have c_d0_0 := b_d0.cell 0
    have c_d0_1 := b_d0.cell 1
    have c_d1_0 := b_d1.cell 0
    have c_d1_1 := b_d1.cell 1
    simp at c_d0_0 c_d0_1 c_d1_0 c_d1_1
    have SK : ∀ u : World, Below W.heap.size W u → u.cell? ⟨w.heap.size, 0, none⟩ = some (.int .i64 p0.kd) ∧ u.cell? ⟨w.heap.size, 1, none⟩ = some (.int .i64 p0.nn) ∧ u.cell? ⟨w.heap.size + 1, 0, none⟩ = some (.int .i64 p1.kd) ∧ u.cell? ⟨w.heap.size + 1, 1, none⟩ = some (.int .i64 p1.nn) := fun u hu => ⟨(hu.cell (World.block_lt_of_cell? _ _ c_d0_0)).trans c_d0_0, (hu.cell (World.block_lt_of_cell? _ _ c_d0_1)).trans c_d0_1, (hu.cell (World.block_lt_of_cell? _ _ c_d1_0)).trans c_d1_0, (hu.cell (World.block_lt_of_cell? _ _ c_d1_1)).trans c_d1_1⟩
    have hq0 : Below W.heap.size W W.drew := (Below.refl _ W).drew
    clear c_d0_0 c_d0_1 c_d1_0 c_d1_1
    go_wp2_with fail
    go_region_held (fun u : World => u.cell? ⟨w.heap.size, 0, none⟩ = some (.int .i64 p0.kd) ∧ u.cell? ⟨w.heap.size, 1, none⟩ = some (.int .i64 p0.nn) ∧ u.cell? ⟨w.heap.size + 1, 0, none⟩ = some (.int .i64 p1.kd) ∧ u.cell? ⟨w.heap.size + 1, 1, none⟩ = some (.int .i64 p1.nn)) (first | (refine SK _ ?_; first | with_reducible exact hq0 | with_reducible exact hq1 | with_reducible exact hq2 | with_reducible exact hq3)) (first | (go_at_call_of 9 (p0.kd); refine (toGuard_any p0 _).mono ?_; rintro e v1 ⟨rfl, hb1⟩; have hq1 : Below W.heap.size W v1 := below_app hq0 hb1 hq0.size) | (go_at_call_of 9 (p1.kd); refine (toGuard_any p1 _).mono ?_; rintro e v2 ⟨rfl, hb2⟩; have hq2 : Below W.heap.size W v2 := below_app hq1 hb2 hq1.size) | (go_at_call 18; refine (specStronger_any p0 p1 _).mono ?_; rintro e v3 ⟨rfl, hb3⟩; have hq3 : Below W.heap.size W v3 := below_app hq2 hb3 hq2.size))
    all_goals (go_wp2_with fail; go_meet; exact ⟨rfl, hq3⟩)
  case rest =>
    rename World => y1_
    obtain ⟨rfl, hb⟩ := hcut
    replace b_d0 := b_d0.grew hb
    replace b_d1 := b_d1.grew hb
    replace hB := below_app hB hb hB.size
    clear hb
    go_upto_region 2 with fail
    go_cut [6] (fun sx wc => sx = (.bool (srG p0 p1)) ∧ Below y1_.heap.size y1_ wc)
    case first =>
      have c_d0_0 := b_d0.cell 0
      have c_d0_1 := b_d0.cell 1
      have c_d1_0 := b_d1.cell 0
      have c_d1_1 := b_d1.cell 1
      simp at c_d0_0 c_d0_1 c_d1_0 c_d1_1
      have SK : ∀ u : World, Below y1_.heap.size y1_ u → u.cell? ⟨w.heap.size, 0, none⟩ = some (.int .i64 p0.kd) ∧ u.cell? ⟨w.heap.size, 1, none⟩ = some (.int .i64 p0.nn) ∧ u.cell? ⟨w.heap.size + 1, 0, none⟩ = some (.int .i64 p1.kd) ∧ u.cell? ⟨w.heap.size + 1, 1, none⟩ = some (.int .i64 p1.nn) := fun u hu => ⟨(hu.cell (World.block_lt_of_cell? _ _ c_d0_0)).trans c_d0_0, (hu.cell (World.block_lt_of_cell? _ _ c_d0_1)).trans c_d0_1, (hu.cell (World.block_lt_of_cell? _ _ c_d1_0)).trans c_d1_0, (hu.cell (World.block_lt_of_cell? _ _ c_d1_1)).trans c_d1_1⟩
      have hq0 : Below y1_.heap.size y1_ y1_.drew := (Below.refl _ y1_).drew
      clear c_d0_0 c_d0_1 c_d1_0 c_d1_1
      go_wp2_with fail
      go_region_held (fun u : World => u.cell? ⟨w.heap.size, 0, none⟩ = some (.int .i64 p0.kd) ∧ u.cell? ⟨w.heap.size, 1, none⟩ = some (.int .i64 p0.nn) ∧ u.cell? ⟨w.heap.size + 1, 0, none⟩ = some (.int .i64 p1.kd) ∧ u.cell? ⟨w.heap.size + 1, 1, none⟩ = some (.int .i64 p1.nn)) (first | (refine SK _ ?_; first | with_reducible exact hq0 | with_reducible exact hq1 | with_reducible exact hq2 | with_reducible exact hq3)) (first | (go_at_call_of 9 (p0.kd); refine (toGuard_any p0 _).mono ?_; rintro e v1 ⟨rfl, hb1⟩; have hq1 : Below y1_.heap.size y1_ v1 := below_app hq0 hb1 hq0.size) | (go_at_call_of 9 (p1.kd); refine (toGuard_any p1 _).mono ?_; rintro e v2 ⟨rfl, hb2⟩; have hq2 : Below y1_.heap.size y1_ v2 := below_app hq1 hb2 hq1.size) | (go_at_call 19; refine (implStronger_any p0 p1 _).mono ?_; rintro e v3 ⟨rfl, hb3⟩; have hq3 : Below y1_.heap.size y1_ v3 := below_app hq2 hb3 hq2.size))
      all_goals (go_wp2_with fail; go_meet; exact ⟨rfl, hq3⟩)
    case rest =>
      rename World => y2_
      obtain ⟨rfl, hb⟩ := hcut
      replace b_d0 := b_d0.grew hb
      replace b_d1 := b_d1.grew hb
      replace hB := below_app hB hb hB.size
      clear hb
      go_wp2
      go_ret
      exact ⟨rfl, below_app hBw hB hsz⟩

set_option maxRecDepth 100000 in
theorem lifted (os : Os) (started : os.Started) (H : Type) (enc : TypeId × Value → H) :
    ReturnsInHanded {} Try.checked os 6 .any (Rows.fnExactStrongerSpec.pre6 enc Try.prog Try.f6 Rows.fnExactStrongerRow.domain false) (Rows.fnExactStrongerSpec.post enc Try.prog Try.f6 false true false false) := by
  refine returnsInHanded_of_change (C := Try.checked) own started (by kernel_rfl) Try.func6
    (ChangeSpec.witness6 (enc := enc) (C := Try.checked) false ⟨#[], #[.agg #[.int .i64 0, .int .i64 0], .agg #[.int .i64 0, .int .i64 0]], []⟩ 8 (by kernel_rfl) (by kernel_rfl) (by kernel_rfl) (by kernel_rfl)) ?_
  intro W base args ds gs before hval0 hW hcnd _
  have hval : ∀ (j : Nat) t v, Try.f6.params[j]? = some t → args[j]? = some v → Value.okWide Try.prog W .any base t v := hval0
  have hW' := hW
  obtain ⟨p, q, hA0, hV, rfl, hfz, hnd⟩ := hW
  have hA : DataW.TrodAll enc Try.prog W 0 (fun _ => true) true Try.f6.params.toList args.toList ds p := hA0
  rw [Try.params6] at hA hval
  obtain ⟨v0, vs0, d0, ds0, p0', q0, hargs, rfl, rfl, h0, r0⟩ := trodAll_cons hA
  obtain ⟨v1, vs1, d1, ds1, p1', q1, rfl, rfl, rfl, h1, r1⟩ := trodAll_cons r0
  obtain ⟨rfl, rfl, rfl⟩ := trodAll_nil r1
  obtain rfl : args = #[v0, v1] := by cases args; simp_all
  obtain ⟨rfl, rfl⟩ := trodVars_none hV
  have k0 := h0
  have lt0 : ∀ x ∈ p0', x.block < W.heap.size := by obtain ⟨m, hm⟩ := k0; exact DataW.trod_lt m _ _ _ hm
  obtain ⟨p0, rfl, w0⟩ := open_guard (hval 0 23 v0 rfl rfl) h0
  have k1 := h1
  have lt1 : ∀ x ∈ p1', x.block < W.heap.size := by obtain ⟨m, hm⟩ := k1; exact DataW.trod_lt m _ _ _ hm
  obtain ⟨p1, rfl, w1⟩ := open_guard (hval 1 23 v1 rfl rfl) h1
  clear hA0 hval0
  refine (walk p0 p1 W w0 w1).mono fun e W' ⟨he, bel⟩ => ?_
  subst he
  exact ⟨_, rfl, _, _, _, [], _, [], hW', trodAll_mk1 (shut_bool Try.underlying4 _), (trodAll_cons_mk (Below.trod laidOut (by kernel_rfl) (of_decide_eq_true (by kernel_rfl)) k0 bel lt0) (trodAll_cons_mk (Below.trod laidOut (by kernel_rfl) (of_decide_eq_true (by kernel_rfl)) k1 bel lt1) trodAll_mk0)), rfl, bel.frame _, fun h => by cases h⟩

theorem over : Rows.fnExactStrongerRow.holds Try.pinned (OpenSpec.ofChange Rows.fnExactStrongerSpec) :=
  OpenClaim.holds_of_wide 6 Try.f6 rfl rfl rfl rfl rfl rfl rfl ⟨rfl, rfl, rfl, rfl, rfl⟩ rfl rfl rfl rfl rfl (by kernel_rfl) Try.func6 (by kernel_rfl)
    (of_decide_eq_true (by kernel_rfl)) (by unfold Func.isWrapper; first | (rw [if_pos (by decide +kernel)]; kernel_rfl) | (rw [if_neg (by decide +kernel)]; exact ⟨rfl, rfl⟩))
    (fun os started H enc _ => lifted os started H enc)

theorem proved : Rows.FnExactStrongerSaid := over
#print axioms proved
end Go.Proofs.Ytnlnledijpcjpar.fnExactStronger
