/-
  What is proved: at every two things that may be asked for, the law FnExactNarrower answers true: the program's Narrower and the specification's answer alike; no condition.
-/
import Derived.Test.YtpfddfkjmbnpaaqRows
import Derived.Test.YtpfddfkjmbnpaaqCur
import Derived.Test.YtpfddfkjmbnpaaqPiece
import Derived.Test.YtpfddfkjmbnpaaqRow
import Derived.Test.YtpfddfkjmbnpaaqPiece2
import Derived.Test.YtpfddfkjmbnpaaqRowLaw
import Derived.Test.YtpfddfkjmbnpaaqEvA
import Derived.Test.YtpfddfkjmbnpaaqPaA
import Derived.Test.YtpfddfkjmbnpaaqPaB
import Derived.Test.YtpfddfkjmbnpaaqPaC
import Derived.Test.YtpfddfkjmbnpaaqNum
import Derived.Test.YtpfddfkjmbnpaaqPiece3
import Derived.Test.YtpfddfkjmbnpaaqSeg
import Derived.Test.YtpfddfkjmbnpaaqRegTail
import Derived.Test.YtpfddfkjmbnpaaqRegBelow
import Derived.Test.YtpfddfkjmbnpaaqPieceI1
import Derived.Test.YtpfddfkjmbnpaaqEvC
import Derived.Test.YtpfddfkjmbnpaaqPaI
import Derived.Test.YtpfddfkjmbnpaaqPaJ
import Derived.Test.YtpfddfkjmbnpaaqState1
import Derived.Test.YtpfddfkjmbnpaaqState2
import Derived.Test.YtpfddfkjmbnpaaqState3
import Derived.Test.YtpfddfkjmbnpaaqState4
import Derived.Test.YtpfddfkjmbnpaaqState5
import Derived.Test.YtpfddfkjmbnpaaqStMark
import Derived.Test.YtpfddfkjmbnpaaqPieceOk
import Derived.Test.YtpfddfkjmbnpaaqState6
import Derived.Test.YtpfddfkjmbnpaaqStHeld
import Derived.Test.YtpfddfkjmbnpaaqStEq
import Derived.Test.YtpfddfkjmbnpaaqStSame
import Derived.Test.YtpfddfkjmbnpaaqRegCut
import Derived.Test.YtpfddfkjmbnpaaqStLaw
import Derived.WalkKit
import Derived.Deep.DeepCutAuto
import Derived.Deep.RegionHeld
import Derived.ProofKit
import Derived.OpenShut
import Derived.ShutString
import Derived.ChangeOld
import Derived.Below
namespace Go.Proofs.Ytpfddfkjmbnpaaq.fnExactNarrower
open Go.ChangeShapes Go.WideShapes Go.ChangeAt Go.RowKit
set_option linter.unusedVariables false

theorem own : ownKnob Try.prog.godebug = none := by kernel_rfl
theorem laidOut : laidOutB Try.prog = true := by kernel_rfl

def IsRow (k : IntKind) (w : World) (a : Option Addr) (len cap : Nat) (zs : List Int) : Prop :=
  (a = none ∧ len = 0 ∧ cap = 0 ∧ zs = []) ∨
  ∃ x, a = some x ∧ len ≤ cap ∧ cap ≤ maxLen ∧ zs.length = cap ∧ (∀ i, i < zs.length → w.cell? (x.add i) = some (.int k (zs.getD i 0))) ∧ ∀ n ∈ zs, (Lit.int k n).wf = true

set_option maxHeartbeats 2000000 in
set_option maxHeartbeats 4000000 in
theorem walk (p0 : Pt) (p1 : Pt) (w : World) (w0 : p0.wf) (w1 : p1.wf) :
    Calls Try.prog 6 #[.agg #[.int .i64 p0.kd, .int .i64 p0.wh, .int .i64 p0.sr, .int .i64 p0.tr, .int .i64 p0.pi, .int .i64 p0.le, .int .i64 p0.zo], .agg #[.int .i64 p1.kd, .int .i64 p1.wh, .int .i64 p1.sr, .int .i64 p1.tr, .int .i64 p1.pi, .int .i64 p1.le, .int .i64 p1.zo]] w fun e w' => e = .returned (.bool true) ∧ Below w.heap.size w w' := by
  have m_ : Try.prog.follows Departure.mixedOrders = true := by kernel_rfl
  have hBw := ((Below.refl _ w).alloc (by exact Nat.le_refl _) (.cells #[.int .i64 p0.kd, .int .i64 p0.wh, .int .i64 p0.sr, .int .i64 p0.tr, .int .i64 p0.pi, .int .i64 p0.le, .int .i64 p0.zo] 23)).alloc (by simp) (.cells #[.int .i64 p1.kd, .int .i64 p1.wh, .int .i64 p1.sr, .int .i64 p1.tr, .int .i64 p1.pi, .int .i64 p1.le, .int .i64 p1.zo] 23)
  have b_t0 := (boxR_new w 23 #[.int .i64 p0.kd, .int .i64 p0.wh, .int .i64 p0.sr, .int .i64 p0.tr, .int .i64 p0.pi, .int .i64 p0.le, .int .i64 p0.zo]).alloc (.cells #[.int .i64 p1.kd, .int .i64 p1.wh, .int .i64 p1.sr, .int .i64 p1.tr, .int .i64 p1.pi, .int .i64 p1.le, .int .i64 p1.zo] 23)
  have b_t1 := boxR_new (w.alloc (.cells #[.int .i64 p0.kd, .int .i64 p0.wh, .int .i64 p0.sr, .int .i64 p0.tr, .int .i64 p0.pi, .int .i64 p0.le, .int .i64 p0.zo] 23)) 23 #[.int .i64 p1.kd, .int .i64 p1.wh, .int .i64 p1.sr, .int .i64 p1.tr, .int .i64 p1.pi, .int .i64 p1.le, .int .i64 p1.zo]
  simp only [World.size_alloc] at b_t1
  generalize hW : (w.alloc (.cells #[.int .i64 p0.kd, .int .i64 p0.wh, .int .i64 p0.sr, .int .i64 p0.tr, .int .i64 p0.pi, .int .i64 p0.le, .int .i64 p0.zo] 23)).alloc (.cells #[.int .i64 p1.kd, .int .i64 p1.wh, .int .i64 p1.sr, .int .i64 p1.tr, .int .i64 p1.pi, .int .i64 p1.le, .int .i64 p1.zo] 23) = W at hBw b_t0 b_t1
  have hsz : w.heap.size ≤ W.heap.size := hBw.size
  have l_t0 := b_t0.lt
  have l_t1 := b_t1.lt
  have hB := Below.refl W.heap.size W
  go_enter Try.func6, Try.ntmps6
  go_upto_region 1 with fail
  try clear hW
  go_cut [5] (fun sx wc => sx = (.bool (nrP p0 p1)) ∧ Below W.heap.size W wc)
  case first =>
    have c_t0_0 := b_t0.cell 0
    have c_t0_1 := b_t0.cell 1
    have c_t0_2 := b_t0.cell 2
    have c_t0_3 := b_t0.cell 3
    have c_t0_4 := b_t0.cell 4
    have c_t0_5 := b_t0.cell 5
    have c_t0_6 := b_t0.cell 6
    have c_t1_0 := b_t1.cell 0
    have c_t1_1 := b_t1.cell 1
    have c_t1_2 := b_t1.cell 2
    have c_t1_3 := b_t1.cell 3
    have c_t1_4 := b_t1.cell 4
    have c_t1_5 := b_t1.cell 5
    have c_t1_6 := b_t1.cell 6
    simp at c_t0_0 c_t0_1 c_t0_2 c_t0_3 c_t0_4 c_t0_5 c_t0_6 c_t1_0 c_t1_1 c_t1_2 c_t1_3 c_t1_4 c_t1_5 c_t1_6
    have SK : ∀ u : World, Below W.heap.size W u → u.cell? ⟨w.heap.size, 0, none⟩ = some (.int .i64 p0.kd) ∧ u.cell? ⟨w.heap.size, 1, none⟩ = some (.int .i64 p0.wh) ∧ u.cell? ⟨w.heap.size, 2, none⟩ = some (.int .i64 p0.sr) ∧ u.cell? ⟨w.heap.size, 3, none⟩ = some (.int .i64 p0.tr) ∧ u.cell? ⟨w.heap.size, 4, none⟩ = some (.int .i64 p0.pi) ∧ u.cell? ⟨w.heap.size, 5, none⟩ = some (.int .i64 p0.le) ∧ u.cell? ⟨w.heap.size, 6, none⟩ = some (.int .i64 p0.zo) ∧ u.cell? ⟨w.heap.size + 1, 0, none⟩ = some (.int .i64 p1.kd) ∧ u.cell? ⟨w.heap.size + 1, 1, none⟩ = some (.int .i64 p1.wh) ∧ u.cell? ⟨w.heap.size + 1, 2, none⟩ = some (.int .i64 p1.sr) ∧ u.cell? ⟨w.heap.size + 1, 3, none⟩ = some (.int .i64 p1.tr) ∧ u.cell? ⟨w.heap.size + 1, 4, none⟩ = some (.int .i64 p1.pi) ∧ u.cell? ⟨w.heap.size + 1, 5, none⟩ = some (.int .i64 p1.le) ∧ u.cell? ⟨w.heap.size + 1, 6, none⟩ = some (.int .i64 p1.zo) := fun u hu => ⟨(hu.cell (World.block_lt_of_cell? _ _ c_t0_0)).trans c_t0_0, (hu.cell (World.block_lt_of_cell? _ _ c_t0_1)).trans c_t0_1, (hu.cell (World.block_lt_of_cell? _ _ c_t0_2)).trans c_t0_2, (hu.cell (World.block_lt_of_cell? _ _ c_t0_3)).trans c_t0_3, (hu.cell (World.block_lt_of_cell? _ _ c_t0_4)).trans c_t0_4, (hu.cell (World.block_lt_of_cell? _ _ c_t0_5)).trans c_t0_5, (hu.cell (World.block_lt_of_cell? _ _ c_t0_6)).trans c_t0_6, (hu.cell (World.block_lt_of_cell? _ _ c_t1_0)).trans c_t1_0, (hu.cell (World.block_lt_of_cell? _ _ c_t1_1)).trans c_t1_1, (hu.cell (World.block_lt_of_cell? _ _ c_t1_2)).trans c_t1_2, (hu.cell (World.block_lt_of_cell? _ _ c_t1_3)).trans c_t1_3, (hu.cell (World.block_lt_of_cell? _ _ c_t1_4)).trans c_t1_4, (hu.cell (World.block_lt_of_cell? _ _ c_t1_5)).trans c_t1_5, (hu.cell (World.block_lt_of_cell? _ _ c_t1_6)).trans c_t1_6⟩
    have hq0 : Below W.heap.size W W.drew := (Below.refl _ W).drew
    clear c_t0_0 c_t0_1 c_t0_2 c_t0_3 c_t0_4 c_t0_5 c_t0_6 c_t1_0 c_t1_1 c_t1_2 c_t1_3 c_t1_4 c_t1_5 c_t1_6
    go_wp2_with fail
    go_region_held (fun u : World => u.cell? ⟨w.heap.size, 0, none⟩ = some (.int .i64 p0.kd) ∧ u.cell? ⟨w.heap.size, 1, none⟩ = some (.int .i64 p0.wh) ∧ u.cell? ⟨w.heap.size, 2, none⟩ = some (.int .i64 p0.sr) ∧ u.cell? ⟨w.heap.size, 3, none⟩ = some (.int .i64 p0.tr) ∧ u.cell? ⟨w.heap.size, 4, none⟩ = some (.int .i64 p0.pi) ∧ u.cell? ⟨w.heap.size, 5, none⟩ = some (.int .i64 p0.le) ∧ u.cell? ⟨w.heap.size, 6, none⟩ = some (.int .i64 p0.zo) ∧ u.cell? ⟨w.heap.size + 1, 0, none⟩ = some (.int .i64 p1.kd) ∧ u.cell? ⟨w.heap.size + 1, 1, none⟩ = some (.int .i64 p1.wh) ∧ u.cell? ⟨w.heap.size + 1, 2, none⟩ = some (.int .i64 p1.sr) ∧ u.cell? ⟨w.heap.size + 1, 3, none⟩ = some (.int .i64 p1.tr) ∧ u.cell? ⟨w.heap.size + 1, 4, none⟩ = some (.int .i64 p1.pi) ∧ u.cell? ⟨w.heap.size + 1, 5, none⟩ = some (.int .i64 p1.le) ∧ u.cell? ⟨w.heap.size + 1, 6, none⟩ = some (.int .i64 p1.zo)) (first | (refine SK _ ?_; first | with_reducible exact hq0 | with_reducible exact hq1 | with_reducible exact hq2 | with_reducible exact hq3)) (first | (go_at_call_of 8 (p0.kd); refine (toPat_any p0 _).mono ?_; rintro e v1 ⟨rfl, hb1⟩; have hq1 : Below W.heap.size W v1 := below_app hq0 hb1 hq0.size) | (go_at_call_of 8 (p1.kd); refine (toPat_any p1 _).mono ?_; rintro e v2 ⟨rfl, hb2⟩; have hq2 : Below W.heap.size W v2 := below_app hq1 hb2 hq1.size) | (go_at_call 18; refine (specNarrower_any p0 p1 _).mono ?_; rintro e v3 ⟨rfl, hb3⟩; have hq3 : Below W.heap.size W v3 := below_app hq2 hb3 hq2.size))
    all_goals (go_wp2_with fail; go_meet; exact ⟨rfl, hq3⟩)
  case rest =>
    rename World => y1_
    obtain ⟨rfl, hb⟩ := hcut
    replace b_t0 := b_t0.grew hb
    replace b_t1 := b_t1.grew hb
    replace hB := below_app hB hb hB.size
    clear hb
    go_upto_region 2 with fail
    go_cut [6] (fun sx wc => sx = (.bool (nrP p0 p1)) ∧ Below y1_.heap.size y1_ wc)
    case first =>
      have c_t0_0 := b_t0.cell 0
      have c_t0_1 := b_t0.cell 1
      have c_t0_2 := b_t0.cell 2
      have c_t0_3 := b_t0.cell 3
      have c_t0_4 := b_t0.cell 4
      have c_t0_5 := b_t0.cell 5
      have c_t0_6 := b_t0.cell 6
      have c_t1_0 := b_t1.cell 0
      have c_t1_1 := b_t1.cell 1
      have c_t1_2 := b_t1.cell 2
      have c_t1_3 := b_t1.cell 3
      have c_t1_4 := b_t1.cell 4
      have c_t1_5 := b_t1.cell 5
      have c_t1_6 := b_t1.cell 6
      simp at c_t0_0 c_t0_1 c_t0_2 c_t0_3 c_t0_4 c_t0_5 c_t0_6 c_t1_0 c_t1_1 c_t1_2 c_t1_3 c_t1_4 c_t1_5 c_t1_6
      have SK : ∀ u : World, Below y1_.heap.size y1_ u → u.cell? ⟨w.heap.size, 0, none⟩ = some (.int .i64 p0.kd) ∧ u.cell? ⟨w.heap.size, 1, none⟩ = some (.int .i64 p0.wh) ∧ u.cell? ⟨w.heap.size, 2, none⟩ = some (.int .i64 p0.sr) ∧ u.cell? ⟨w.heap.size, 3, none⟩ = some (.int .i64 p0.tr) ∧ u.cell? ⟨w.heap.size, 4, none⟩ = some (.int .i64 p0.pi) ∧ u.cell? ⟨w.heap.size, 5, none⟩ = some (.int .i64 p0.le) ∧ u.cell? ⟨w.heap.size, 6, none⟩ = some (.int .i64 p0.zo) ∧ u.cell? ⟨w.heap.size + 1, 0, none⟩ = some (.int .i64 p1.kd) ∧ u.cell? ⟨w.heap.size + 1, 1, none⟩ = some (.int .i64 p1.wh) ∧ u.cell? ⟨w.heap.size + 1, 2, none⟩ = some (.int .i64 p1.sr) ∧ u.cell? ⟨w.heap.size + 1, 3, none⟩ = some (.int .i64 p1.tr) ∧ u.cell? ⟨w.heap.size + 1, 4, none⟩ = some (.int .i64 p1.pi) ∧ u.cell? ⟨w.heap.size + 1, 5, none⟩ = some (.int .i64 p1.le) ∧ u.cell? ⟨w.heap.size + 1, 6, none⟩ = some (.int .i64 p1.zo) := fun u hu => ⟨(hu.cell (World.block_lt_of_cell? _ _ c_t0_0)).trans c_t0_0, (hu.cell (World.block_lt_of_cell? _ _ c_t0_1)).trans c_t0_1, (hu.cell (World.block_lt_of_cell? _ _ c_t0_2)).trans c_t0_2, (hu.cell (World.block_lt_of_cell? _ _ c_t0_3)).trans c_t0_3, (hu.cell (World.block_lt_of_cell? _ _ c_t0_4)).trans c_t0_4, (hu.cell (World.block_lt_of_cell? _ _ c_t0_5)).trans c_t0_5, (hu.cell (World.block_lt_of_cell? _ _ c_t0_6)).trans c_t0_6, (hu.cell (World.block_lt_of_cell? _ _ c_t1_0)).trans c_t1_0, (hu.cell (World.block_lt_of_cell? _ _ c_t1_1)).trans c_t1_1, (hu.cell (World.block_lt_of_cell? _ _ c_t1_2)).trans c_t1_2, (hu.cell (World.block_lt_of_cell? _ _ c_t1_3)).trans c_t1_3, (hu.cell (World.block_lt_of_cell? _ _ c_t1_4)).trans c_t1_4, (hu.cell (World.block_lt_of_cell? _ _ c_t1_5)).trans c_t1_5, (hu.cell (World.block_lt_of_cell? _ _ c_t1_6)).trans c_t1_6⟩
      have hq0 : Below y1_.heap.size y1_ y1_.drew := (Below.refl _ y1_).drew
      clear c_t0_0 c_t0_1 c_t0_2 c_t0_3 c_t0_4 c_t0_5 c_t0_6 c_t1_0 c_t1_1 c_t1_2 c_t1_3 c_t1_4 c_t1_5 c_t1_6
      go_wp2_with fail
      go_region_held (fun u : World => u.cell? ⟨w.heap.size, 0, none⟩ = some (.int .i64 p0.kd) ∧ u.cell? ⟨w.heap.size, 1, none⟩ = some (.int .i64 p0.wh) ∧ u.cell? ⟨w.heap.size, 2, none⟩ = some (.int .i64 p0.sr) ∧ u.cell? ⟨w.heap.size, 3, none⟩ = some (.int .i64 p0.tr) ∧ u.cell? ⟨w.heap.size, 4, none⟩ = some (.int .i64 p0.pi) ∧ u.cell? ⟨w.heap.size, 5, none⟩ = some (.int .i64 p0.le) ∧ u.cell? ⟨w.heap.size, 6, none⟩ = some (.int .i64 p0.zo) ∧ u.cell? ⟨w.heap.size + 1, 0, none⟩ = some (.int .i64 p1.kd) ∧ u.cell? ⟨w.heap.size + 1, 1, none⟩ = some (.int .i64 p1.wh) ∧ u.cell? ⟨w.heap.size + 1, 2, none⟩ = some (.int .i64 p1.sr) ∧ u.cell? ⟨w.heap.size + 1, 3, none⟩ = some (.int .i64 p1.tr) ∧ u.cell? ⟨w.heap.size + 1, 4, none⟩ = some (.int .i64 p1.pi) ∧ u.cell? ⟨w.heap.size + 1, 5, none⟩ = some (.int .i64 p1.le) ∧ u.cell? ⟨w.heap.size + 1, 6, none⟩ = some (.int .i64 p1.zo)) (first | (refine SK _ ?_; first | with_reducible exact hq0 | with_reducible exact hq1 | with_reducible exact hq2 | with_reducible exact hq3)) (first | (go_at_call_of 8 (p0.kd); refine (toPat_any p0 _).mono ?_; rintro e v1 ⟨rfl, hb1⟩; have hq1 : Below y1_.heap.size y1_ v1 := below_app hq0 hb1 hq0.size) | (go_at_call_of 8 (p1.kd); refine (toPat_any p1 _).mono ?_; rintro e v2 ⟨rfl, hb2⟩; have hq2 : Below y1_.heap.size y1_ v2 := below_app hq1 hb2 hq1.size) | (go_at_call 19; refine (implNarrower_any p0 p1 _).mono ?_; rintro e v3 ⟨rfl, hb3⟩; have hq3 : Below y1_.heap.size y1_ v3 := below_app hq2 hb3 hq2.size))
      all_goals (go_wp2_with fail; go_meet; exact ⟨rfl, hq3⟩)
    case rest =>
      rename World => y2_
      obtain ⟨rfl, hb⟩ := hcut
      replace b_t0 := b_t0.grew hb
      replace b_t1 := b_t1.grew hb
      replace hB := below_app hB hb hB.size
      clear hb
      go_wp2
      go_ret
      exact ⟨rfl, below_app hBw hB hsz⟩

set_option maxRecDepth 100000 in
theorem lifted (os : Os) (started : os.Started) (H : Type) (enc : TypeId × Value → H) :
    ReturnsInHanded {} Try.checked os 6 .any (Rows.fnExactNarrowerSpec.pre6 enc Try.prog Try.f6 Rows.fnExactNarrowerRow.domain false) (Rows.fnExactNarrowerSpec.post enc Try.prog Try.f6 false true false false) := by
  refine returnsInHanded_of_change (C := Try.checked) own started (by kernel_rfl) Try.func6
    (ChangeSpec.witness6 (enc := enc) (C := Try.checked) false ⟨#[], #[.agg #[.int .i64 0, .int .i64 0, .int .i64 0, .int .i64 0, .int .i64 0, .int .i64 0, .int .i64 0], .agg #[.int .i64 0, .int .i64 0, .int .i64 0, .int .i64 0, .int .i64 0, .int .i64 0, .int .i64 0]], []⟩ 8 (by kernel_rfl) (by kernel_rfl) (by kernel_rfl) (by kernel_rfl)) ?_
  intro W base args ds gs before hval0 hW hcnd _
  have hval : ∀ (j : Nat) t v, Try.f6.params[j]? = some t → args[j]? = some v → Value.okWide Try.prog W .any base t v := hval0
  have hW' := hW
  obtain ⟨p, q, hA0, hV, rfl, hfz, hnd⟩ := hW
  have hA : DataW.TrodAll enc Try.prog W 0 (fun _ => true) true Try.f6.params.toList args.toList ds p := hA0
  rw [Try.params6] at hA hval
  obtain ⟨v0, vs0, d0, ds0, p0', q0, hargs, rfl, rfl, h0, r0⟩ := trodAll_cons hA
  obtain ⟨v1, vs1, d1, ds1, p1', q1, rfl, rfl, rfl, h1, r1⟩ := trodAll_cons r0
  obtain ⟨rfl, rfl, rfl⟩ := trodAll_nil r1
  obtain rfl : args = #[v0, v1] := by cases args; simp_all
  obtain ⟨rfl, rfl⟩ := trodVars_none hV
  have k0 := h0
  have lt0 : ∀ x ∈ p0', x.block < W.heap.size := by obtain ⟨m, hm⟩ := k0; exact DataW.trod_lt m _ _ _ hm
  obtain ⟨p0, rfl, w0⟩ := open_pat (hval 0 23 v0 rfl rfl) h0
  have k1 := h1
  have lt1 : ∀ x ∈ p1', x.block < W.heap.size := by obtain ⟨m, hm⟩ := k1; exact DataW.trod_lt m _ _ _ hm
  obtain ⟨p1, rfl, w1⟩ := open_pat (hval 1 23 v1 rfl rfl) h1
  clear hA0 hval0
  refine (walk p0 p1 W w0 w1).mono fun e W' ⟨he, bel⟩ => ?_
  subst he
  exact ⟨_, rfl, _, _, _, [], _, [], hW', trodAll_mk1 (shut_bool Try.underlying4 _), (trodAll_cons_mk (Below.trod laidOut (by kernel_rfl) (of_decide_eq_true (by kernel_rfl)) k0 bel lt0) (trodAll_cons_mk (Below.trod laidOut (by kernel_rfl) (of_decide_eq_true (by kernel_rfl)) k1 bel lt1) trodAll_mk0)), rfl, bel.frame _, fun h => by cases h⟩

theorem over : Rows.fnExactNarrowerRow.holds Try.pinned (OpenSpec.ofChange Rows.fnExactNarrowerSpec) :=
  OpenClaim.holds_of_wide 6 Try.f6 rfl rfl rfl rfl rfl rfl rfl ⟨rfl, rfl, rfl, rfl, rfl⟩ rfl rfl rfl rfl rfl (by kernel_rfl) Try.func6 (by kernel_rfl)
    (of_decide_eq_true (by kernel_rfl)) (by unfold Func.isWrapper; first | (rw [if_pos (by decide +kernel)]; kernel_rfl) | (rw [if_neg (by decide +kernel)]; exact ⟨rfl, rfl⟩))
    (fun os started H enc _ => lifted os started H enc)

theorem proved : Rows.FnExactNarrowerSaid := over
#print axioms proved
end Go.Proofs.Ytpfddfkjmbnpaaq.fnExactNarrower
