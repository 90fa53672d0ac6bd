/-
  Chapter 9: the program's namedOk, ActOk. Written by tools/aci.gen.py. Own work.
-/
import Derived.Test.YtgaodfjmehofgasDoorAcG
namespace Go.Proofs.YtgaodfjmehofgasDoor
open Go.ChangeShapes Go.WideShapes Go.ChangeAt Go.RowKit
set_option maxRecDepth 100000
set_option linter.unusedVariables false
set_option linter.unusedSimpArgs false

/-- what its kind names is right -/
def naA (a : Ac) : Bool :=
  if a.kd = 1 ∨ a.kd = 2 ∨ a.kd = 4 ∨ a.kd = 5 then true else if a.kd = 3 then ib a.nn 1 2147483647 else if a.kd = 6 then aimA a else if a.kd = 7 then ib a.zo 1 4 else if a.kd = 8 then ib a.nn 0 99 else if a.kd = 9 then ib a.ln 1 3 && apL a.ln a.es else false
set_option maxHeartbeats 4000000 in
theorem namedOk_any (a : Ac) (w : World) (hok : a.ok w) (hn : a.ln ≤ 1048577) : Calls Tryd.prog 22 #[(.agg #[.int .i64 a.kd, .int .i64 a.nn, .int .i64 a.pi, .int .i64 a.si, .int .i64 a.zo, .bool a.be, .slice a.la a.ln a.lcap])] w fun e w' => e = .returned (.bool (naA a)) ∧ Below w.heap.size w w' := by
  obtain ⟨_, _, r1, _⟩ := hok
  have HB := (Below.refl _ w).alloc (Nat.le_refl _) (.cells #[.int .i64 a.kd, .int .i64 a.nn, .int .i64 a.pi, .int .i64 a.si, .int .i64 a.zo, .bool a.be, .slice a.la a.ln a.lcap] 29)
  have bx := boxR_new w 29 #[.int .i64 a.kd, .int .i64 a.nn, .int .i64 a.pi, .int .i64 a.si, .int .i64 a.zo, .bool a.be, .slice a.la a.ln a.lcap]
  generalize hW : w.alloc (.cells #[.int .i64 a.kd, .int .i64 a.nn, .int .i64 a.pi, .int .i64 a.si, .int .i64 a.zo, .bool a.be, .slice a.la a.ln a.lcap] 29) = W at HB bx
  have c0 := bx.cell 0
  have c1 := bx.cell 1
  have c2 := bx.cell 2
  have c3 := bx.cell 3
  have c4 := bx.cell 4
  have c5 := bx.cell 5
  have c6 := bx.cell 6
  simp at c0 c1 c2 c3 c4 c5 c6
  go_enter Tryd.func22, Tryd.ntmps22
  have r2 := r1.grew evC_ne HB
  go_wp2_with first | (go_at_call 28; refine (between_any _ _ _ _).mono ?_; rintro e w' ⟨rfl, rfl⟩) | (go_at_call 29; refine (aimOk_any a _).mono ?_; rintro e w2 ⟨rfl, hb2⟩) | (go_at_call 30; refine (partsOk_any a.la a.lb a.ln a.lcap a.es _ hn r2).mono ?_; rintro e w2 ⟨rfl, hb2⟩)
  all_goals go_ret
  all_goals exact ⟨ret_bool' (by unfold naA; first | (simp_all; done) | (simp_all; omega) | (rw [Bool.eq_iff_iff]; simp_all)), by first | exact HB | exact below_app HB hb2 HB.size⟩
theorem okAc_eq (a : Ac) : okAc a = (naA a && nnA (woA a)) := by
  by_cases hx : 1 ≤ a.kd ∧ a.kd ≤ 9
  · have hk : a.kd = 1 ∨ a.kd = 2 ∨ a.kd = 3 ∨ a.kd = 4 ∨ a.kd = 5 ∨ a.kd = 6 ∨ a.kd = 7 ∨ a.kd = 8 ∨ a.kd = 9 := by omega
    rcases hk with h | h | h | h | h | h | h | h | h
    case inr.inr.inr.inr.inr.inl => unfold okAc naA nnA woA plA; simp only [h]; by_cases h1 : a.nn = 0 <;> by_cases h2 : a.zo = 0 <;> by_cases h3 : a.ln = 0 <;> by_cases h4 : a.pi = 0 <;> by_cases h6 : a.si = -1 <;> cases h5 : a.be <;> simp [ac6, aimA, ib, *]
    all_goals (unfold okAc naA nnA woA plA; simp only [h]; simp [ac6, ac7, ac8, ac9, aimA, ib, h])
    all_goals first | (rw [Bool.eq_iff_iff]; simp; done) | (rw [Bool.eq_iff_iff]; simp; omega) | (rw [Bool.eq_iff_iff]; simp; constructor <;> intro hh <;> simp_all <;> omega)
  · have h1 : a.kd ≠ 1 := by omega
    have h2 : a.kd ≠ 2 := by omega
    have h3 : a.kd ≠ 3 := by omega
    have h4 : a.kd ≠ 4 := by omega
    have h5 : a.kd ≠ 5 := by omega
    have h6 : a.kd ≠ 6 := by omega
    have h7 : a.kd ≠ 7 := by omega
    have h8 : a.kd ≠ 8 := by omega
    have h9 : a.kd ≠ 9 := by omega
    unfold okAc naA; simp [h1, h2, h3, h4, h5, h6, h7, h8, h9]
set_option maxHeartbeats 4000000 in
theorem implActOk_any (a : Ac) (w : World) (hok : a.ok w) (hn : a.ln ≤ 1048577) : Calls Tryd.prog 13 #[(.agg #[.int .i64 a.kd, .int .i64 a.nn, .int .i64 a.pi, .int .i64 a.si, .int .i64 a.zo, .bool a.be, .slice a.la a.ln a.lcap])] w fun e w' => e = .returned (.bool (okAc a)) ∧ Below w.heap.size w w' := by
  rw [okAc_eq]
  have HB := (Below.refl _ w).alloc (Nat.le_refl _) (.cells #[.int .i64 a.kd, .int .i64 a.nn, .int .i64 a.pi, .int .i64 a.si, .int .i64 a.zo, .bool a.be, .slice a.la a.ln a.lcap] 29)
  have bx := boxR_new w 29 #[.int .i64 a.kd, .int .i64 a.nn, .int .i64 a.pi, .int .i64 a.si, .int .i64 a.zo, .bool a.be, .slice a.la a.ln a.lcap]
  generalize hW : w.alloc (.cells #[.int .i64 a.kd, .int .i64 a.nn, .int .i64 a.pi, .int .i64 a.si, .int .i64 a.zo, .bool a.be, .slice a.la a.ln a.lcap] 29) = W at HB bx
  have c0 := bx.cell 0
  have c1 := bx.cell 1
  have c2 := bx.cell 2
  have c3 := bx.cell 3
  have c4 := bx.cell 4
  have c5 := bx.cell 5
  have c6 := bx.cell 6
  simp at c0 c1 c2 c3 c4 c5 c6
  go_enter Tryd.func13, Tryd.ntmps13
  have hok2 := act_grew hok HB
  go_wp2_with fail
  refine (namedOk_any a _ hok2 hn).mono ?_
  rintro e w1 ⟨rfl, hb1⟩
  replace bx := bx.grew hb1
  replace HB := below_app HB hb1 HB.size
  clear hW c0 c1 c2 c3 c4 c5 c6 hok2 hb1
  have d0 := bx.cell 0
  have d1 := bx.cell 1
  have d2 := bx.cell 2
  have d3 := bx.cell 3
  have d4 := bx.cell 4
  have d5 := bx.cell 5
  have d6 := bx.cell 6
  simp at d0 d1 d2 d3 d4 d5 d6
  cases hp : naA a
  case false =>
    go_wp2
    go_ret
    exact ⟨ret_bool' (by first | rfl | (simp [hp]; done)), HB⟩
  case true =>
    go_wp2_with fail
    refine (withoutNamed_any a _).mono ?_
    rintro e w2 ⟨rfl, hb2⟩
    obtain ⟨b, hbw⟩ : ∃ b, woA a = b := ⟨_, rfl⟩
    rw [hbw]
    have HW : Hid (woA a = b) := hbw
    clear hbw
    go_wp2_with fail
    refine (namesNothing_any b _).mono ?_
    rintro e w3 ⟨rfl, hb3⟩
    replace HB := below_app HB hb2 HB.size
    go_wp2
    go_ret
    exact ⟨ret_bool' (by simp [hp, HW.out]), below_app HB hb3 HB.size⟩
end Go.Proofs.YtgaodfjmehofgasDoor
