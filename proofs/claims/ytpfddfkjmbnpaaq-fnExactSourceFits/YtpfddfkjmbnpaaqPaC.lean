/-
  Chapter 7: the specification's Narrower (nrP). Written by tools/pa.gen.py. Own work.
-/
import Derived.Test.YtpfddfkjmbnpaaqPaB
namespace Go.Proofs.Ytpfddfkjmbnpaaq
open Go.ChangeShapes Go.WideShapes Go.ChangeAt Go.RowKit
set_option maxRecDepth 100000
set_option linter.unusedVariables false
set_option linter.unusedSimpArgs false

/-- what is asked for behind the two tests: the kinds, the traits, how much at least -/
def nrA (p q : Pt) : Bool := decide (p.kd = q.kd) && decide (bits .and .i64 p.tr q.tr = q.tr) && decide (q.le ≤ p.le)
def orS (x y : Int) : Bool := decide (x = 0) || decide (x = y)
def nrB (p q : Pt) : Bool := orS q.wh p.wh && orS q.sr p.sr && orS q.pi p.pi && orS q.zo p.zo
/-- whether p asks for all that q asks for -/
def nrP (p q : Pt) : Bool := okPt p && okPt q && nrA p q && nrB p q
set_option maxHeartbeats 4000000 in
theorem nar_p (p q : Pt) (w : World) (hp : okPt p = false) : Calls Try.prog 18 #[(.agg #[.int .i64 p.kd, .int .i64 p.wh, .int .i64 p.sr, .int .i64 p.tr, .int .i64 p.pi, .int .i64 p.le, .int .i64 p.zo]), (.agg #[.int .i64 q.kd, .int .i64 q.wh, .int .i64 q.sr, .int .i64 q.tr, .int .i64 q.pi, .int .i64 q.le, .int .i64 q.zo])] w fun e w' => e = .returned (.bool (nrP p q)) ∧ Below w.heap.size w w' := by
  have HN : Hid (nrP p q = false) := by show nrP p q = false; unfold nrP; rw [hp]; rfl
  have HP : Hid (∀ w : World, Calls Try.prog 7 #[(.agg #[.int .i64 p.kd, .int .i64 p.wh, .int .i64 p.sr, .int .i64 p.tr, .int .i64 p.pi, .int .i64 p.le, .int .i64 p.zo])] w fun e w' => e = .returned (.bool false) ∧ Below w.heap.size w w') := fun w => by have := specPatOk_any p w; rw [hp] at this; exact this
  clear hp
  have HB := ((Below.refl _ w).alloc (Nat.le_refl _) (.cells #[.int .i64 p.kd, .int .i64 p.wh, .int .i64 p.sr, .int .i64 p.tr, .int .i64 p.pi, .int .i64 p.le, .int .i64 p.zo] 25)).alloc (by simp) (.cells #[.int .i64 q.kd, .int .i64 q.wh, .int .i64 q.sr, .int .i64 q.tr, .int .i64 q.pi, .int .i64 q.le, .int .i64 q.zo] 25)
  have bp := (boxPt_new w 25 p).alloc (.cells #[.int .i64 q.kd, .int .i64 q.wh, .int .i64 q.sr, .int .i64 q.tr, .int .i64 q.pi, .int .i64 q.le, .int .i64 q.zo] 25)
  have bq : BoxPt ((w.alloc (.cells #[.int .i64 p.kd, .int .i64 p.wh, .int .i64 p.sr, .int .i64 p.tr, .int .i64 p.pi, .int .i64 p.le, .int .i64 p.zo] 25)).alloc (.cells #[.int .i64 q.kd, .int .i64 q.wh, .int .i64 q.sr, .int .i64 q.tr, .int .i64 q.pi, .int .i64 q.le, .int .i64 q.zo] 25)) (w.heap.size + 1) 25 q := heap_alloc2_new _ _ _
  generalize hW : (w.alloc (.cells #[.int .i64 p.kd, .int .i64 p.wh, .int .i64 p.sr, .int .i64 p.tr, .int .i64 p.pi, .int .i64 p.le, .int .i64 p.zo] 25)).alloc (.cells #[.int .i64 q.kd, .int .i64 q.wh, .int .i64 q.sr, .int .i64 q.tr, .int .i64 q.pi, .int .i64 q.le, .int .i64 q.zo] 25) = W at HB bp bq
  obtain ⟨a0, a1, a2, a3, a4, a5, a6⟩ : CellsPt _ _ _ := bp.cells
  obtain ⟨b0, b1, b2, b3, b4, b5, b6⟩ : CellsPt _ _ _ := bq.cells
  go_enter Try.func18, Try.ntmps18
  go_wp2_with fail
  refine (HP.out _).mono ?_
  rintro e u1 ⟨rfl, hb⟩
  replace HB := below_app HB hb HB.size
  go_wp2
  go_ret
  exact ⟨ret_bool' HN.out.symm, HB⟩
set_option maxHeartbeats 4000000 in
theorem nar_q (p q : Pt) (w : World) (hp : okPt p = true) (hq : okPt q = false) : Calls Try.prog 18 #[(.agg #[.int .i64 p.kd, .int .i64 p.wh, .int .i64 p.sr, .int .i64 p.tr, .int .i64 p.pi, .int .i64 p.le, .int .i64 p.zo]), (.agg #[.int .i64 q.kd, .int .i64 q.wh, .int .i64 q.sr, .int .i64 q.tr, .int .i64 q.pi, .int .i64 q.le, .int .i64 q.zo])] w fun e w' => e = .returned (.bool (nrP p q)) ∧ Below w.heap.size w w' := by
  have HN : Hid (nrP p q = false) := by show nrP p q = false; unfold nrP; rw [hp, hq]; rfl
  have HP : Hid (∀ w : World, Calls Try.prog 7 #[(.agg #[.int .i64 p.kd, .int .i64 p.wh, .int .i64 p.sr, .int .i64 p.tr, .int .i64 p.pi, .int .i64 p.le, .int .i64 p.zo])] w fun e w' => e = .returned (.bool true) ∧ Below w.heap.size w w') := fun w => by have := specPatOk_any p w; rw [hp] at this; exact this
  have HQ : Hid (∀ w : World, Calls Try.prog 7 #[(.agg #[.int .i64 q.kd, .int .i64 q.wh, .int .i64 q.sr, .int .i64 q.tr, .int .i64 q.pi, .int .i64 q.le, .int .i64 q.zo])] w fun e w' => e = .returned (.bool false) ∧ Below w.heap.size w w') := fun w => by have := specPatOk_any q w; rw [hq] at this; exact this
  clear hp hq
  have HB := ((Below.refl _ w).alloc (Nat.le_refl _) (.cells #[.int .i64 p.kd, .int .i64 p.wh, .int .i64 p.sr, .int .i64 p.tr, .int .i64 p.pi, .int .i64 p.le, .int .i64 p.zo] 25)).alloc (by simp) (.cells #[.int .i64 q.kd, .int .i64 q.wh, .int .i64 q.sr, .int .i64 q.tr, .int .i64 q.pi, .int .i64 q.le, .int .i64 q.zo] 25)
  have bp := (boxPt_new w 25 p).alloc (.cells #[.int .i64 q.kd, .int .i64 q.wh, .int .i64 q.sr, .int .i64 q.tr, .int .i64 q.pi, .int .i64 q.le, .int .i64 q.zo] 25)
  have bq : BoxPt ((w.alloc (.cells #[.int .i64 p.kd, .int .i64 p.wh, .int .i64 p.sr, .int .i64 p.tr, .int .i64 p.pi, .int .i64 p.le, .int .i64 p.zo] 25)).alloc (.cells #[.int .i64 q.kd, .int .i64 q.wh, .int .i64 q.sr, .int .i64 q.tr, .int .i64 q.pi, .int .i64 q.le, .int .i64 q.zo] 25)) (w.heap.size + 1) 25 q := heap_alloc2_new _ _ _
  generalize hW : (w.alloc (.cells #[.int .i64 p.kd, .int .i64 p.wh, .int .i64 p.sr, .int .i64 p.tr, .int .i64 p.pi, .int .i64 p.le, .int .i64 p.zo] 25)).alloc (.cells #[.int .i64 q.kd, .int .i64 q.wh, .int .i64 q.sr, .int .i64 q.tr, .int .i64 q.pi, .int .i64 q.le, .int .i64 q.zo] 25) = W at HB bp bq
  obtain ⟨a0, a1, a2, a3, a4, a5, a6⟩ : CellsPt _ _ _ := bp.cells
  obtain ⟨b0, b1, b2, b3, b4, b5, b6⟩ : CellsPt _ _ _ := bq.cells
  go_enter Try.func18, Try.ntmps18
  go_wp2_with fail
  refine (HP.out _).mono ?_
  rintro e u1 ⟨rfl, hb⟩
  clear hW
  replace bp := bp.grew hb
  replace bq := bq.grew hb
  replace HB := below_app HB hb HB.size
  clear hb a0 a1 a2 a3 a4 a5 a6 b0 b1 b2 b3 b4 b5 b6
  obtain ⟨a0, a1, a2, a3, a4, a5, a6⟩ : CellsPt _ _ _ := bp.cells
  obtain ⟨b0, b1, b2, b3, b4, b5, b6⟩ : CellsPt _ _ _ := bq.cells
  go_wp2_with fail
  refine (HQ.out _).mono ?_
  rintro e u2 ⟨rfl, hb⟩
  replace HB := below_app HB hb HB.size
  go_wp2
  go_ret
  exact ⟨ret_bool' HN.out.symm, HB⟩
set_option maxHeartbeats 8000000 in
theorem nar_kd (p q : Pt) (w : World) (hp : okPt p = true) (hq : okPt q = true) (hk : decide (p.kd = q.kd) = false) : Calls Try.prog 18 #[(.agg #[.int .i64 p.kd, .int .i64 p.wh, .int .i64 p.sr, .int .i64 p.tr, .int .i64 p.pi, .int .i64 p.le, .int .i64 p.zo]), (.agg #[.int .i64 q.kd, .int .i64 q.wh, .int .i64 q.sr, .int .i64 q.tr, .int .i64 q.pi, .int .i64 q.le, .int .i64 q.zo])] w fun e w' => e = .returned (.bool (nrP p q)) ∧ Below w.heap.size w w' := by
  have HN : Hid (nrP p q = (nrA p q && nrB p q)) := by show nrP p q = _; unfold nrP; rw [hp, hq]; rfl
  have HP : Hid (∀ w : World, Calls Try.prog 7 #[(.agg #[.int .i64 p.kd, .int .i64 p.wh, .int .i64 p.sr, .int .i64 p.tr, .int .i64 p.pi, .int .i64 p.le, .int .i64 p.zo])] w fun e w' => e = .returned (.bool true) ∧ Below w.heap.size w w') := fun w => by have := specPatOk_any p w; rw [hp] at this; exact this
  have HQ : Hid (∀ w : World, Calls Try.prog 7 #[(.agg #[.int .i64 q.kd, .int .i64 q.wh, .int .i64 q.sr, .int .i64 q.tr, .int .i64 q.pi, .int .i64 q.le, .int .i64 q.zo])] w fun e w' => e = .returned (.bool true) ∧ Below w.heap.size w w') := fun w => by have := specPatOk_any q w; rw [hq] at this; exact this
  clear hp hq
  have HA : Hid (nrP p q = false) := by show nrP p q = false; rw [HN.out]; unfold nrA; rw [hk]; simp
  have hk' : (p.kd != q.kd) = true := by simpa using hk
  have HB := ((Below.refl _ w).alloc (Nat.le_refl _) (.cells #[.int .i64 p.kd, .int .i64 p.wh, .int .i64 p.sr, .int .i64 p.tr, .int .i64 p.pi, .int .i64 p.le, .int .i64 p.zo] 25)).alloc (by simp) (.cells #[.int .i64 q.kd, .int .i64 q.wh, .int .i64 q.sr, .int .i64 q.tr, .int .i64 q.pi, .int .i64 q.le, .int .i64 q.zo] 25)
  have bp := (boxPt_new w 25 p).alloc (.cells #[.int .i64 q.kd, .int .i64 q.wh, .int .i64 q.sr, .int .i64 q.tr, .int .i64 q.pi, .int .i64 q.le, .int .i64 q.zo] 25)
  have bq : BoxPt ((w.alloc (.cells #[.int .i64 p.kd, .int .i64 p.wh, .int .i64 p.sr, .int .i64 p.tr, .int .i64 p.pi, .int .i64 p.le, .int .i64 p.zo] 25)).alloc (.cells #[.int .i64 q.kd, .int .i64 q.wh, .int .i64 q.sr, .int .i64 q.tr, .int .i64 q.pi, .int .i64 q.le, .int .i64 q.zo] 25)) (w.heap.size + 1) 25 q := heap_alloc2_new _ _ _
  generalize hW : (w.alloc (.cells #[.int .i64 p.kd, .int .i64 p.wh, .int .i64 p.sr, .int .i64 p.tr, .int .i64 p.pi, .int .i64 p.le, .int .i64 p.zo] 25)).alloc (.cells #[.int .i64 q.kd, .int .i64 q.wh, .int .i64 q.sr, .int .i64 q.tr, .int .i64 q.pi, .int .i64 q.le, .int .i64 q.zo] 25) = W at HB bp bq
  obtain ⟨a0, a1, a2, a3, a4, a5, a6⟩ : CellsPt _ _ _ := bp.cells
  obtain ⟨b0, b1, b2, b3, b4, b5, b6⟩ : CellsPt _ _ _ := bq.cells
  go_enter Try.func18, Try.ntmps18
  go_wp2_with fail
  refine (HP.out _).mono ?_
  rintro e u1 ⟨rfl, hb⟩
  clear hW
  replace bp := bp.grew hb
  replace bq := bq.grew hb
  replace HB := below_app HB hb HB.size
  clear hb a0 a1 a2 a3 a4 a5 a6 b0 b1 b2 b3 b4 b5 b6
  obtain ⟨a0, a1, a2, a3, a4, a5, a6⟩ : CellsPt _ _ _ := bp.cells
  obtain ⟨b0, b1, b2, b3, b4, b5, b6⟩ : CellsPt _ _ _ := bq.cells
  go_wp2_with fail
  refine (HQ.out _).mono ?_
  rintro e u2 ⟨rfl, hb⟩
  replace bp := bp.grew hb
  replace bq := bq.grew hb
  replace HB := below_app HB hb HB.size
  clear hb a0 a1 a2 a3 a4 a5 a6 b0 b1 b2 b3 b4 b5 b6
  obtain ⟨a0, a1, a2, a3, a4, a5, a6⟩ : CellsPt _ _ _ := bp.cells
  obtain ⟨b0, b1, b2, b3, b4, b5, b6⟩ : CellsPt _ _ _ := bq.cells
  go_wp2
  all_goals go_ret
  all_goals exact ⟨ret_bool' HA.out.symm, HB⟩
set_option maxHeartbeats 8000000 in
theorem nar_tr (p q : Pt) (w : World) (hp : okPt p = true) (hq : okPt q = true) (hk : decide (p.kd = q.kd) = true) (ht : decide (bits .and .i64 p.tr q.tr = q.tr) = false) : Calls Try.prog 18 #[(.agg #[.int .i64 p.kd, .int .i64 p.wh, .int .i64 p.sr, .int .i64 p.tr, .int .i64 p.pi, .int .i64 p.le, .int .i64 p.zo]), (.agg #[.int .i64 q.kd, .int .i64 q.wh, .int .i64 q.sr, .int .i64 q.tr, .int .i64 q.pi, .int .i64 q.le, .int .i64 q.zo])] w fun e w' => e = .returned (.bool (nrP p q)) ∧ Below w.heap.size w w' := by
  have HN : Hid (nrP p q = (nrA p q && nrB p q)) := by show nrP p q = _; unfold nrP; rw [hp, hq]; rfl
  have HP : Hid (∀ w : World, Calls Try.prog 7 #[(.agg #[.int .i64 p.kd, .int .i64 p.wh, .int .i64 p.sr, .int .i64 p.tr, .int .i64 p.pi, .int .i64 p.le, .int .i64 p.zo])] w fun e w' => e = .returned (.bool true) ∧ Below w.heap.size w w') := fun w => by have := specPatOk_any p w; rw [hp] at this; exact this
  have HQ : Hid (∀ w : World, Calls Try.prog 7 #[(.agg #[.int .i64 q.kd, .int .i64 q.wh, .int .i64 q.sr, .int .i64 q.tr, .int .i64 q.pi, .int .i64 q.le, .int .i64 q.zo])] w fun e w' => e = .returned (.bool true) ∧ Below w.heap.size w w') := fun w => by have := specPatOk_any q w; rw [hq] at this; exact this
  clear hp hq
  have HA : Hid (nrP p q = false) := by show nrP p q = false; rw [HN.out]; unfold nrA; rw [ht]; simp
  have hk' : (p.kd != q.kd) = false := by simpa using hk
  have ht' : (bits .and .i64 p.tr q.tr != q.tr) = true := by simpa using ht
  have HB := ((Below.refl _ w).alloc (Nat.le_refl _) (.cells #[.int .i64 p.kd, .int .i64 p.wh, .int .i64 p.sr, .int .i64 p.tr, .int .i64 p.pi, .int .i64 p.le, .int .i64 p.zo] 25)).alloc (by simp) (.cells #[.int .i64 q.kd, .int .i64 q.wh, .int .i64 q.sr, .int .i64 q.tr, .int .i64 q.pi, .int .i64 q.le, .int .i64 q.zo] 25)
  have bp := (boxPt_new w 25 p).alloc (.cells #[.int .i64 q.kd, .int .i64 q.wh, .int .i64 q.sr, .int .i64 q.tr, .int .i64 q.pi, .int .i64 q.le, .int .i64 q.zo] 25)
  have bq : BoxPt ((w.alloc (.cells #[.int .i64 p.kd, .int .i64 p.wh, .int .i64 p.sr, .int .i64 p.tr, .int .i64 p.pi, .int .i64 p.le, .int .i64 p.zo] 25)).alloc (.cells #[.int .i64 q.kd, .int .i64 q.wh, .int .i64 q.sr, .int .i64 q.tr, .int .i64 q.pi, .int .i64 q.le, .int .i64 q.zo] 25)) (w.heap.size + 1) 25 q := heap_alloc2_new _ _ _
  generalize hW : (w.alloc (.cells #[.int .i64 p.kd, .int .i64 p.wh, .int .i64 p.sr, .int .i64 p.tr, .int .i64 p.pi, .int .i64 p.le, .int .i64 p.zo] 25)).alloc (.cells #[.int .i64 q.kd, .int .i64 q.wh, .int .i64 q.sr, .int .i64 q.tr, .int .i64 q.pi, .int .i64 q.le, .int .i64 q.zo] 25) = W at HB bp bq
  obtain ⟨a0, a1, a2, a3, a4, a5, a6⟩ : CellsPt _ _ _ := bp.cells
  obtain ⟨b0, b1, b2, b3, b4, b5, b6⟩ : CellsPt _ _ _ := bq.cells
  go_enter Try.func18, Try.ntmps18
  go_wp2_with fail
  refine (HP.out _).mono ?_
  rintro e u1 ⟨rfl, hb⟩
  clear hW
  replace bp := bp.grew hb
  replace bq := bq.grew hb
  replace HB := below_app HB hb HB.size
  clear hb a0 a1 a2 a3 a4 a5 a6 b0 b1 b2 b3 b4 b5 b6
  obtain ⟨a0, a1, a2, a3, a4, a5, a6⟩ : CellsPt _ _ _ := bp.cells
  obtain ⟨b0, b1, b2, b3, b4, b5, b6⟩ : CellsPt _ _ _ := bq.cells
  go_wp2_with fail
  refine (HQ.out _).mono ?_
  rintro e u2 ⟨rfl, hb⟩
  replace bp := bp.grew hb
  replace bq := bq.grew hb
  replace HB := below_app HB hb HB.size
  clear hb a0 a1 a2 a3 a4 a5 a6 b0 b1 b2 b3 b4 b5 b6
  obtain ⟨a0, a1, a2, a3, a4, a5, a6⟩ : CellsPt _ _ _ := bp.cells
  obtain ⟨b0, b1, b2, b3, b4, b5, b6⟩ : CellsPt _ _ _ := bq.cells
  go_wp2
  all_goals go_ret
  all_goals exact ⟨ret_bool' HA.out.symm, HB⟩
set_option maxHeartbeats 8000000 in
theorem nar_le (p q : Pt) (w : World) (hp : okPt p = true) (hq : okPt q = true) (hk : decide (p.kd = q.kd) = true) (ht : decide (bits .and .i64 p.tr q.tr = q.tr) = true) (hl : decide (q.le ≤ p.le) = false) : Calls Try.prog 18 #[(.agg #[.int .i64 p.kd, .int .i64 p.wh, .int .i64 p.sr, .int .i64 p.tr, .int .i64 p.pi, .int .i64 p.le, .int .i64 p.zo]), (.agg #[.int .i64 q.kd, .int .i64 q.wh, .int .i64 q.sr, .int .i64 q.tr, .int .i64 q.pi, .int .i64 q.le, .int .i64 q.zo])] w fun e w' => e = .returned (.bool (nrP p q)) ∧ Below w.heap.size w w' := by
  have HN : Hid (nrP p q = (nrA p q && nrB p q)) := by show nrP p q = _; unfold nrP; rw [hp, hq]; rfl
  have HP : Hid (∀ w : World, Calls Try.prog 7 #[(.agg #[.int .i64 p.kd, .int .i64 p.wh, .int .i64 p.sr, .int .i64 p.tr, .int .i64 p.pi, .int .i64 p.le, .int .i64 p.zo])] w fun e w' => e = .returned (.bool true) ∧ Below w.heap.size w w') := fun w => by have := specPatOk_any p w; rw [hp] at this; exact this
  have HQ : Hid (∀ w : World, Calls Try.prog 7 #[(.agg #[.int .i64 q.kd, .int .i64 q.wh, .int .i64 q.sr, .int .i64 q.tr, .int .i64 q.pi, .int .i64 q.le, .int .i64 q.zo])] w fun e w' => e = .returned (.bool true) ∧ Below w.heap.size w w') := fun w => by have := specPatOk_any q w; rw [hq] at this; exact this
  clear hp hq
  have HA : Hid (nrP p q = false) := by show nrP p q = false; rw [HN.out]; unfold nrA; rw [hl]; simp
  have hk' : (p.kd != q.kd) = false := by simpa using hk
  have ht' : (bits .and .i64 p.tr q.tr != q.tr) = false := by simpa using ht
  have hl' : decide (p.le < q.le) = true := by simp at hl ⊢; omega
  have HB := ((Below.refl _ w).alloc (Nat.le_refl _) (.cells #[.int .i64 p.kd, .int .i64 p.wh, .int .i64 p.sr, .int .i64 p.tr, .int .i64 p.pi, .int .i64 p.le, .int .i64 p.zo] 25)).alloc (by simp) (.cells #[.int .i64 q.kd, .int .i64 q.wh, .int .i64 q.sr, .int .i64 q.tr, .int .i64 q.pi, .int .i64 q.le, .int .i64 q.zo] 25)
  have bp := (boxPt_new w 25 p).alloc (.cells #[.int .i64 q.kd, .int .i64 q.wh, .int .i64 q.sr, .int .i64 q.tr, .int .i64 q.pi, .int .i64 q.le, .int .i64 q.zo] 25)
  have bq : BoxPt ((w.alloc (.cells #[.int .i64 p.kd, .int .i64 p.wh, .int .i64 p.sr, .int .i64 p.tr, .int .i64 p.pi, .int .i64 p.le, .int .i64 p.zo] 25)).alloc (.cells #[.int .i64 q.kd, .int .i64 q.wh, .int .i64 q.sr, .int .i64 q.tr, .int .i64 q.pi, .int .i64 q.le, .int .i64 q.zo] 25)) (w.heap.size + 1) 25 q := heap_alloc2_new _ _ _
  generalize hW : (w.alloc (.cells #[.int .i64 p.kd, .int .i64 p.wh, .int .i64 p.sr, .int .i64 p.tr, .int .i64 p.pi, .int .i64 p.le, .int .i64 p.zo] 25)).alloc (.cells #[.int .i64 q.kd, .int .i64 q.wh, .int .i64 q.sr, .int .i64 q.tr, .int .i64 q.pi, .int .i64 q.le, .int .i64 q.zo] 25) = W at HB bp bq
  obtain ⟨a0, a1, a2, a3, a4, a5, a6⟩ : CellsPt _ _ _ := bp.cells
  obtain ⟨b0, b1, b2, b3, b4, b5, b6⟩ : CellsPt _ _ _ := bq.cells
  go_enter Try.func18, Try.ntmps18
  go_wp2_with fail
  refine (HP.out _).mono ?_
  rintro e u1 ⟨rfl, hb⟩
  clear hW
  replace bp := bp.grew hb
  replace bq := bq.grew hb
  replace HB := below_app HB hb HB.size
  clear hb a0 a1 a2 a3 a4 a5 a6 b0 b1 b2 b3 b4 b5 b6
  obtain ⟨a0, a1, a2, a3, a4, a5, a6⟩ : CellsPt _ _ _ := bp.cells
  obtain ⟨b0, b1, b2, b3, b4, b5, b6⟩ : CellsPt _ _ _ := bq.cells
  go_wp2_with fail
  refine (HQ.out _).mono ?_
  rintro e u2 ⟨rfl, hb⟩
  replace bp := bp.grew hb
  replace bq := bq.grew hb
  replace HB := below_app HB hb HB.size
  clear hb a0 a1 a2 a3 a4 a5 a6 b0 b1 b2 b3 b4 b5 b6
  obtain ⟨a0, a1, a2, a3, a4, a5, a6⟩ : CellsPt _ _ _ := bp.cells
  obtain ⟨b0, b1, b2, b3, b4, b5, b6⟩ : CellsPt _ _ _ := bq.cells
  go_wp2
  all_goals go_ret
  all_goals exact ⟨ret_bool' HA.out.symm, HB⟩
set_option maxHeartbeats 8000000 in
theorem nar_all (p q : Pt) (w : World) (hp : okPt p = true) (hq : okPt q = true) (hk : decide (p.kd = q.kd) = true) (ht : decide (bits .and .i64 p.tr q.tr = q.tr) = true) (hl : decide (q.le ≤ p.le) = true) : Calls Try.prog 18 #[(.agg #[.int .i64 p.kd, .int .i64 p.wh, .int .i64 p.sr, .int .i64 p.tr, .int .i64 p.pi, .int .i64 p.le, .int .i64 p.zo]), (.agg #[.int .i64 q.kd, .int .i64 q.wh, .int .i64 q.sr, .int .i64 q.tr, .int .i64 q.pi, .int .i64 q.le, .int .i64 q.zo])] w fun e w' => e = .returned (.bool (nrP p q)) ∧ Below w.heap.size w w' := by
  have HN : Hid (nrP p q = (nrA p q && nrB p q)) := by show nrP p q = _; unfold nrP; rw [hp, hq]; rfl
  have HP : Hid (∀ w : World, Calls Try.prog 7 #[(.agg #[.int .i64 p.kd, .int .i64 p.wh, .int .i64 p.sr, .int .i64 p.tr, .int .i64 p.pi, .int .i64 p.le, .int .i64 p.zo])] w fun e w' => e = .returned (.bool true) ∧ Below w.heap.size w w') := fun w => by have := specPatOk_any p w; rw [hp] at this; exact this
  have HQ : Hid (∀ w : World, Calls Try.prog 7 #[(.agg #[.int .i64 q.kd, .int .i64 q.wh, .int .i64 q.sr, .int .i64 q.tr, .int .i64 q.pi, .int .i64 q.le, .int .i64 q.zo])] w fun e w' => e = .returned (.bool true) ∧ Below w.heap.size w w') := fun w => by have := specPatOk_any q w; rw [hq] at this; exact this
  clear hp hq
  have HA : Hid (nrP p q = nrB p q) := by show nrP p q = _; rw [HN.out]; unfold nrA; rw [hk, ht, hl]; rfl
  have hk' : (p.kd != q.kd) = false := by simpa using hk
  have ht' : (bits .and .i64 p.tr q.tr != q.tr) = false := by simpa using ht
  have hl' : decide (p.le < q.le) = false := by simp at hl ⊢; omega
  have HK : Hid (decide (p.kd = q.kd) = true) := hk
  clear hk ht hl
  have HB := ((Below.refl _ w).alloc (Nat.le_refl _) (.cells #[.int .i64 p.kd, .int .i64 p.wh, .int .i64 p.sr, .int .i64 p.tr, .int .i64 p.pi, .int .i64 p.le, .int .i64 p.zo] 25)).alloc (by simp) (.cells #[.int .i64 q.kd, .int .i64 q.wh, .int .i64 q.sr, .int .i64 q.tr, .int .i64 q.pi, .int .i64 q.le, .int .i64 q.zo] 25)
  have bp := (boxPt_new w 25 p).alloc (.cells #[.int .i64 q.kd, .int .i64 q.wh, .int .i64 q.sr, .int .i64 q.tr, .int .i64 q.pi, .int .i64 q.le, .int .i64 q.zo] 25)
  have bq : BoxPt ((w.alloc (.cells #[.int .i64 p.kd, .int .i64 p.wh, .int .i64 p.sr, .int .i64 p.tr, .int .i64 p.pi, .int .i64 p.le, .int .i64 p.zo] 25)).alloc (.cells #[.int .i64 q.kd, .int .i64 q.wh, .int .i64 q.sr, .int .i64 q.tr, .int .i64 q.pi, .int .i64 q.le, .int .i64 q.zo] 25)) (w.heap.size + 1) 25 q := heap_alloc2_new _ _ _
  generalize hW : (w.alloc (.cells #[.int .i64 p.kd, .int .i64 p.wh, .int .i64 p.sr, .int .i64 p.tr, .int .i64 p.pi, .int .i64 p.le, .int .i64 p.zo] 25)).alloc (.cells #[.int .i64 q.kd, .int .i64 q.wh, .int .i64 q.sr, .int .i64 q.tr, .int .i64 q.pi, .int .i64 q.le, .int .i64 q.zo] 25) = W at HB bp bq
  obtain ⟨a0, a1, a2, a3, a4, a5, a6⟩ : CellsPt _ _ _ := bp.cells
  obtain ⟨b0, b1, b2, b3, b4, b5, b6⟩ : CellsPt _ _ _ := bq.cells
  go_enter Try.func18, Try.ntmps18
  go_wp2_with fail
  refine (HP.out _).mono ?_
  rintro e u1 ⟨rfl, hb⟩
  clear hW
  replace bp := bp.grew hb
  replace bq := bq.grew hb
  replace HB := below_app HB hb HB.size
  clear hb a0 a1 a2 a3 a4 a5 a6 b0 b1 b2 b3 b4 b5 b6
  obtain ⟨a0, a1, a2, a3, a4, a5, a6⟩ : CellsPt _ _ _ := bp.cells
  obtain ⟨b0, b1, b2, b3, b4, b5, b6⟩ : CellsPt _ _ _ := bq.cells
  go_wp2_with fail
  refine (HQ.out _).mono ?_
  rintro e u2 ⟨rfl, hb⟩
  replace bp := bp.grew hb
  replace bq := bq.grew hb
  replace HB := below_app HB hb HB.size
  clear hb a0 a1 a2 a3 a4 a5 a6 b0 b1 b2 b3 b4 b5 b6
  obtain ⟨a0, a1, a2, a3, a4, a5, a6⟩ : CellsPt _ _ _ := bp.cells
  obtain ⟨b0, b1, b2, b3, b4, b5, b6⟩ : CellsPt _ _ _ := bq.cells
  go_wp2
  all_goals go_ret
  all_goals refine ⟨ret_bool' ?_, HB⟩
  all_goals (rw [HA.out]; unfold nrB orS; clear HA HB HN HP HQ HK hk' ht' hl' bp bq a0 a1 a2 a3 a4 a5 a6 b0 b1 b2 b3 b4 b5 b6; simp_all <;> (rw [Bool.eq_iff_iff]; simp_all))
theorem specNarrower_any (p q : Pt) (w : World) : Calls Try.prog 18 #[(.agg #[.int .i64 p.kd, .int .i64 p.wh, .int .i64 p.sr, .int .i64 p.tr, .int .i64 p.pi, .int .i64 p.le, .int .i64 p.zo]), (.agg #[.int .i64 q.kd, .int .i64 q.wh, .int .i64 q.sr, .int .i64 q.tr, .int .i64 q.pi, .int .i64 q.le, .int .i64 q.zo])] w fun e w' => e = .returned (.bool (nrP p q)) ∧ Below w.heap.size w w' := by
  cases hp : okPt p
  · exact nar_p p q w hp
  cases hq : okPt q
  · exact nar_q p q w hp hq
  cases hk : decide (p.kd = q.kd)
  · exact nar_kd p q w hp hq hk
  cases ht : decide (bits .and .i64 p.tr q.tr = q.tr)
  · exact nar_tr p q w hp hq hk ht
  cases hl : decide (q.le ≤ p.le)
  · exact nar_le p q w hp hq hk ht hl
  exact nar_all p q w hp hq hk ht hl
end Go.Proofs.Ytpfddfkjmbnpaaq
