/-
  Chapter 7, the program: Narrower (nrP). Written by tools/pai.gen.py. Own work.
-/
import Derived.Test.YtpfddfkjmbnpaaqPaI
namespace Go.Proofs.Ytpfddfkjmbnpaaq
open Go.ChangeShapes Go.WideShapes Go.ChangeAt Go.RowKit
set_option maxRecDepth 100000
set_option linter.unusedVariables false
set_option linter.unusedSimpArgs false

/-- the same tests, in the program's order -/
theorem nrP_is {p q : Pt} (hp : okPt p = true) (hq : okPt q = true) : nrP p q = (decide (p.kd = q.kd) && (orS q.wh p.wh && (orS q.sr p.sr && (orS q.pi p.pi && (orS q.zo p.zo && (amI q.tr p.tr && decide (q.le ≤ p.le))))))) := by
  have ht : 0 ≤ q.tr ∧ q.tr ≤ 63 := by
    unfold okPt okT7 ib at hq; simp at hq; omega
  unfold nrP nrA nrB
  rw [hp, hq, amI_63 p.tr ht]
  generalize decide (p.kd = q.kd) = a; generalize orS q.wh p.wh = b; generalize orS q.sr p.sr = c; generalize orS q.pi p.pi = d; generalize orS q.zo p.zo = e; generalize decide (bits .and .i64 p.tr q.tr = q.tr) = f; generalize decide (q.le ≤ p.le) = g
  cases a <;> cases b <;> cases c <;> cases d <;> cases e <;> cases f <;> cases g <;> rfl
set_option maxHeartbeats 4000000 in
theorem nai_p (p q : Pt) (w : World) (hp : okPt p = false) : Calls Try.prog 19 #[(.agg #[.int .i64 p.kd, .int .i64 p.wh, .int .i64 p.sr, .int .i64 p.tr, .int .i64 p.pi, .int .i64 p.le, .int .i64 p.zo]), (.agg #[.int .i64 q.kd, .int .i64 q.wh, .int .i64 q.sr, .int .i64 q.tr, .int .i64 q.pi, .int .i64 q.le, .int .i64 q.zo])] w fun e w' => e = .returned (.bool (nrP p q)) ∧ Below w.heap.size w w' := by
  have HN : Hid (nrP p q = false) := by show nrP p q = false; unfold nrP; rw [hp]; rfl
  have HP : Hid (∀ w : World, Calls Try.prog 9 #[(.agg #[.int .i64 p.kd, .int .i64 p.wh, .int .i64 p.sr, .int .i64 p.tr, .int .i64 p.pi, .int .i64 p.le, .int .i64 p.zo])] w fun e w' => e = .returned (.bool false) ∧ Below w.heap.size w w') := fun w => by have := implPatOk_any p w; rw [hp] at this; exact this
  clear hp
  have HB := ((Below.refl _ w).alloc (Nat.le_refl _) (.cells #[.int .i64 p.kd, .int .i64 p.wh, .int .i64 p.sr, .int .i64 p.tr, .int .i64 p.pi, .int .i64 p.le, .int .i64 p.zo] 25)).alloc (by simp) (.cells #[.int .i64 q.kd, .int .i64 q.wh, .int .i64 q.sr, .int .i64 q.tr, .int .i64 q.pi, .int .i64 q.le, .int .i64 q.zo] 25)
  have bp := (boxPt_new w 25 p).alloc (.cells #[.int .i64 q.kd, .int .i64 q.wh, .int .i64 q.sr, .int .i64 q.tr, .int .i64 q.pi, .int .i64 q.le, .int .i64 q.zo] 25)
  have bq : BoxPt ((w.alloc (.cells #[.int .i64 p.kd, .int .i64 p.wh, .int .i64 p.sr, .int .i64 p.tr, .int .i64 p.pi, .int .i64 p.le, .int .i64 p.zo] 25)).alloc (.cells #[.int .i64 q.kd, .int .i64 q.wh, .int .i64 q.sr, .int .i64 q.tr, .int .i64 q.pi, .int .i64 q.le, .int .i64 q.zo] 25)) (w.heap.size + 1) 25 q := heap_alloc2_new _ _ _
  generalize hW : (w.alloc (.cells #[.int .i64 p.kd, .int .i64 p.wh, .int .i64 p.sr, .int .i64 p.tr, .int .i64 p.pi, .int .i64 p.le, .int .i64 p.zo] 25)).alloc (.cells #[.int .i64 q.kd, .int .i64 q.wh, .int .i64 q.sr, .int .i64 q.tr, .int .i64 q.pi, .int .i64 q.le, .int .i64 q.zo] 25) = W at HB bp bq
  obtain ⟨a0, a1, a2, a3, a4, a5, a6⟩ : CellsPt _ _ _ := bp.cells
  obtain ⟨b0, b1, b2, b3, b4, b5, b6⟩ : CellsPt _ _ _ := bq.cells
  go_enter Try.func19, Try.ntmps19
  try simp only [List.append_eq, List.cons_append, List.nil_append]
  go_wp2_with fail
  refine (HP.out _).mono ?_
  rintro e u1 ⟨rfl, hb⟩
  replace HB := below_app HB hb HB.size
  go_wp2
  go_ret
  exact ⟨ret_bool' HN.out.symm, HB⟩
set_option maxHeartbeats 4000000 in
theorem nai_q (p q : Pt) (w : World) (hp : okPt p = true) (hq : okPt q = false) : Calls Try.prog 19 #[(.agg #[.int .i64 p.kd, .int .i64 p.wh, .int .i64 p.sr, .int .i64 p.tr, .int .i64 p.pi, .int .i64 p.le, .int .i64 p.zo]), (.agg #[.int .i64 q.kd, .int .i64 q.wh, .int .i64 q.sr, .int .i64 q.tr, .int .i64 q.pi, .int .i64 q.le, .int .i64 q.zo])] w fun e w' => e = .returned (.bool (nrP p q)) ∧ Below w.heap.size w w' := by
  have HN : Hid (nrP p q = false) := by show nrP p q = false; unfold nrP; rw [hp, hq]; rfl
  have HP : Hid (∀ w : World, Calls Try.prog 9 #[(.agg #[.int .i64 p.kd, .int .i64 p.wh, .int .i64 p.sr, .int .i64 p.tr, .int .i64 p.pi, .int .i64 p.le, .int .i64 p.zo])] w fun e w' => e = .returned (.bool true) ∧ Below w.heap.size w w') := fun w => by have := implPatOk_any p w; rw [hp] at this; exact this
  have HQ : Hid (∀ w : World, Calls Try.prog 9 #[(.agg #[.int .i64 q.kd, .int .i64 q.wh, .int .i64 q.sr, .int .i64 q.tr, .int .i64 q.pi, .int .i64 q.le, .int .i64 q.zo])] w fun e w' => e = .returned (.bool false) ∧ Below w.heap.size w w') := fun w => by have := implPatOk_any q w; rw [hq] at this; exact this
  clear hp hq
  have HB := ((Below.refl _ w).alloc (Nat.le_refl _) (.cells #[.int .i64 p.kd, .int .i64 p.wh, .int .i64 p.sr, .int .i64 p.tr, .int .i64 p.pi, .int .i64 p.le, .int .i64 p.zo] 25)).alloc (by simp) (.cells #[.int .i64 q.kd, .int .i64 q.wh, .int .i64 q.sr, .int .i64 q.tr, .int .i64 q.pi, .int .i64 q.le, .int .i64 q.zo] 25)
  have bp := (boxPt_new w 25 p).alloc (.cells #[.int .i64 q.kd, .int .i64 q.wh, .int .i64 q.sr, .int .i64 q.tr, .int .i64 q.pi, .int .i64 q.le, .int .i64 q.zo] 25)
  have bq : BoxPt ((w.alloc (.cells #[.int .i64 p.kd, .int .i64 p.wh, .int .i64 p.sr, .int .i64 p.tr, .int .i64 p.pi, .int .i64 p.le, .int .i64 p.zo] 25)).alloc (.cells #[.int .i64 q.kd, .int .i64 q.wh, .int .i64 q.sr, .int .i64 q.tr, .int .i64 q.pi, .int .i64 q.le, .int .i64 q.zo] 25)) (w.heap.size + 1) 25 q := heap_alloc2_new _ _ _
  generalize hW : (w.alloc (.cells #[.int .i64 p.kd, .int .i64 p.wh, .int .i64 p.sr, .int .i64 p.tr, .int .i64 p.pi, .int .i64 p.le, .int .i64 p.zo] 25)).alloc (.cells #[.int .i64 q.kd, .int .i64 q.wh, .int .i64 q.sr, .int .i64 q.tr, .int .i64 q.pi, .int .i64 q.le, .int .i64 q.zo] 25) = W at HB bp bq
  obtain ⟨a0, a1, a2, a3, a4, a5, a6⟩ : CellsPt _ _ _ := bp.cells
  obtain ⟨b0, b1, b2, b3, b4, b5, b6⟩ : CellsPt _ _ _ := bq.cells
  go_enter Try.func19, Try.ntmps19
  try simp only [List.append_eq, List.cons_append, List.nil_append]
  go_wp2_with fail
  refine (HP.out _).mono ?_
  rintro e u1 ⟨rfl, hb⟩
  clear hW
  replace bp := bp.grew hb
  replace bq := bq.grew hb
  replace HB := below_app HB hb HB.size
  clear hb a0 a1 a2 a3 a4 a5 a6 b0 b1 b2 b3 b4 b5 b6
  obtain ⟨a0, a1, a2, a3, a4, a5, a6⟩ : CellsPt _ _ _ := bp.cells
  obtain ⟨b0, b1, b2, b3, b4, b5, b6⟩ : CellsPt _ _ _ := bq.cells
  go_wp2_with fail
  refine (HQ.out _).mono ?_
  rintro e u2 ⟨rfl, hb⟩
  replace HB := below_app HB hb HB.size
  go_wp2
  go_ret
  exact ⟨ret_bool' HN.out.symm, HB⟩
set_option maxHeartbeats 8000000 in
theorem nai_0 (p q : Pt) (w : World) (hp : okPt p = true) (hq : okPt q = true)  (h0 : decide (p.kd = q.kd) = false) : Calls Try.prog 19 #[(.agg #[.int .i64 p.kd, .int .i64 p.wh, .int .i64 p.sr, .int .i64 p.tr, .int .i64 p.pi, .int .i64 p.le, .int .i64 p.zo]), (.agg #[.int .i64 q.kd, .int .i64 q.wh, .int .i64 q.sr, .int .i64 q.tr, .int .i64 q.pi, .int .i64 q.le, .int .i64 q.zo])] w fun e w' => e = .returned (.bool (nrP p q)) ∧ Below w.heap.size w w' := by
  have HN : Hid (nrP p q = false) := by show nrP p q = false; rw [nrP_is hp hq, h0]; rfl
  have HP : Hid (∀ w : World, Calls Try.prog 9 #[(.agg #[.int .i64 p.kd, .int .i64 p.wh, .int .i64 p.sr, .int .i64 p.tr, .int .i64 p.pi, .int .i64 p.le, .int .i64 p.zo])] w fun e w' => e = .returned (.bool true) ∧ Below w.heap.size w w') := fun w => by have := implPatOk_any p w; rw [hp] at this; exact this
  have HQ : Hid (∀ w : World, Calls Try.prog 9 #[(.agg #[.int .i64 q.kd, .int .i64 q.wh, .int .i64 q.sr, .int .i64 q.tr, .int .i64 q.pi, .int .i64 q.le, .int .i64 q.zo])] w fun e w' => e = .returned (.bool true) ∧ Below w.heap.size w w') := fun w => by have := implPatOk_any q w; rw [hq] at this; exact this
  clear hp hq
  have hk' : (p.kd == q.kd) = false := by simpa using h0
  have HB := ((Below.refl _ w).alloc (Nat.le_refl _) (.cells #[.int .i64 p.kd, .int .i64 p.wh, .int .i64 p.sr, .int .i64 p.tr, .int .i64 p.pi, .int .i64 p.le, .int .i64 p.zo] 25)).alloc (by simp) (.cells #[.int .i64 q.kd, .int .i64 q.wh, .int .i64 q.sr, .int .i64 q.tr, .int .i64 q.pi, .int .i64 q.le, .int .i64 q.zo] 25)
  have bp := (boxPt_new w 25 p).alloc (.cells #[.int .i64 q.kd, .int .i64 q.wh, .int .i64 q.sr, .int .i64 q.tr, .int .i64 q.pi, .int .i64 q.le, .int .i64 q.zo] 25)
  have bq : BoxPt ((w.alloc (.cells #[.int .i64 p.kd, .int .i64 p.wh, .int .i64 p.sr, .int .i64 p.tr, .int .i64 p.pi, .int .i64 p.le, .int .i64 p.zo] 25)).alloc (.cells #[.int .i64 q.kd, .int .i64 q.wh, .int .i64 q.sr, .int .i64 q.tr, .int .i64 q.pi, .int .i64 q.le, .int .i64 q.zo] 25)) (w.heap.size + 1) 25 q := heap_alloc2_new _ _ _
  generalize hW : (w.alloc (.cells #[.int .i64 p.kd, .int .i64 p.wh, .int .i64 p.sr, .int .i64 p.tr, .int .i64 p.pi, .int .i64 p.le, .int .i64 p.zo] 25)).alloc (.cells #[.int .i64 q.kd, .int .i64 q.wh, .int .i64 q.sr, .int .i64 q.tr, .int .i64 q.pi, .int .i64 q.le, .int .i64 q.zo] 25) = W at HB bp bq
  obtain ⟨a0, a1, a2, a3, a4, a5, a6⟩ : CellsPt _ _ _ := bp.cells
  obtain ⟨b0, b1, b2, b3, b4, b5, b6⟩ : CellsPt _ _ _ := bq.cells
  go_enter Try.func19, Try.ntmps19
  try simp only [List.append_eq, List.cons_append, List.nil_append]
  go_wp2_with fail
  refine (HP.out _).mono ?_
  rintro e u1 ⟨rfl, hb⟩
  clear hW
  replace bp := bp.grew hb
  replace bq := bq.grew hb
  replace HB := below_app HB hb HB.size
  clear hb a0 a1 a2 a3 a4 a5 a6 b0 b1 b2 b3 b4 b5 b6
  obtain ⟨a0, a1, a2, a3, a4, a5, a6⟩ : CellsPt _ _ _ := bp.cells
  obtain ⟨b0, b1, b2, b3, b4, b5, b6⟩ : CellsPt _ _ _ := bq.cells
  go_wp2_with fail
  refine (HQ.out _).mono ?_
  rintro e u2 ⟨rfl, hb⟩
  replace bp := bp.grew hb
  replace bq := bq.grew hb
  replace HB := below_app HB hb HB.size
  clear hb a0 a1 a2 a3 a4 a5 a6 b0 b1 b2 b3 b4 b5 b6
  obtain ⟨a0, a1, a2, a3, a4, a5, a6⟩ : CellsPt _ _ _ := bp.cells
  obtain ⟨b0, b1, b2, b3, b4, b5, b6⟩ : CellsPt _ _ _ := bq.cells
  go_wp2_with (first | (go_at_call 37; refine (openOr_any _ _ _).mono ?_; rintro e w' ⟨rfl, rfl⟩) | (go_at_call 38; refine (among_any _ _ _).mono ?_; rintro e w' ⟨rfl, rfl⟩))
  go_ret
  exact ⟨ret_bool' HN.out.symm, HB⟩
set_option maxHeartbeats 8000000 in
theorem nai_1 (p q : Pt) (w : World) (hp : okPt p = true) (hq : okPt q = true) (h0 : decide (p.kd = q.kd) = true) (h1 : orS q.wh p.wh = false) : Calls Try.prog 19 #[(.agg #[.int .i64 p.kd, .int .i64 p.wh, .int .i64 p.sr, .int .i64 p.tr, .int .i64 p.pi, .int .i64 p.le, .int .i64 p.zo]), (.agg #[.int .i64 q.kd, .int .i64 q.wh, .int .i64 q.sr, .int .i64 q.tr, .int .i64 q.pi, .int .i64 q.le, .int .i64 q.zo])] w fun e w' => e = .returned (.bool (nrP p q)) ∧ Below w.heap.size w w' := by
  have HN : Hid (nrP p q = false) := by show nrP p q = false; rw [nrP_is hp hq, h0, h1]; rfl
  have HP : Hid (∀ w : World, Calls Try.prog 9 #[(.agg #[.int .i64 p.kd, .int .i64 p.wh, .int .i64 p.sr, .int .i64 p.tr, .int .i64 p.pi, .int .i64 p.le, .int .i64 p.zo])] w fun e w' => e = .returned (.bool true) ∧ Below w.heap.size w w') := fun w => by have := implPatOk_any p w; rw [hp] at this; exact this
  have HQ : Hid (∀ w : World, Calls Try.prog 9 #[(.agg #[.int .i64 q.kd, .int .i64 q.wh, .int .i64 q.sr, .int .i64 q.tr, .int .i64 q.pi, .int .i64 q.le, .int .i64 q.zo])] w fun e w' => e = .returned (.bool true) ∧ Below w.heap.size w w') := fun w => by have := implPatOk_any q w; rw [hq] at this; exact this
  clear hp hq
  have hk' : (p.kd == q.kd) = true := by simpa using h0
  have HB := ((Below.refl _ w).alloc (Nat.le_refl _) (.cells #[.int .i64 p.kd, .int .i64 p.wh, .int .i64 p.sr, .int .i64 p.tr, .int .i64 p.pi, .int .i64 p.le, .int .i64 p.zo] 25)).alloc (by simp) (.cells #[.int .i64 q.kd, .int .i64 q.wh, .int .i64 q.sr, .int .i64 q.tr, .int .i64 q.pi, .int .i64 q.le, .int .i64 q.zo] 25)
  have bp := (boxPt_new w 25 p).alloc (.cells #[.int .i64 q.kd, .int .i64 q.wh, .int .i64 q.sr, .int .i64 q.tr, .int .i64 q.pi, .int .i64 q.le, .int .i64 q.zo] 25)
  have bq : BoxPt ((w.alloc (.cells #[.int .i64 p.kd, .int .i64 p.wh, .int .i64 p.sr, .int .i64 p.tr, .int .i64 p.pi, .int .i64 p.le, .int .i64 p.zo] 25)).alloc (.cells #[.int .i64 q.kd, .int .i64 q.wh, .int .i64 q.sr, .int .i64 q.tr, .int .i64 q.pi, .int .i64 q.le, .int .i64 q.zo] 25)) (w.heap.size + 1) 25 q := heap_alloc2_new _ _ _
  generalize hW : (w.alloc (.cells #[.int .i64 p.kd, .int .i64 p.wh, .int .i64 p.sr, .int .i64 p.tr, .int .i64 p.pi, .int .i64 p.le, .int .i64 p.zo] 25)).alloc (.cells #[.int .i64 q.kd, .int .i64 q.wh, .int .i64 q.sr, .int .i64 q.tr, .int .i64 q.pi, .int .i64 q.le, .int .i64 q.zo] 25) = W at HB bp bq
  obtain ⟨a0, a1, a2, a3, a4, a5, a6⟩ : CellsPt _ _ _ := bp.cells
  obtain ⟨b0, b1, b2, b3, b4, b5, b6⟩ : CellsPt _ _ _ := bq.cells
  go_enter Try.func19, Try.ntmps19
  try simp only [List.append_eq, List.cons_append, List.nil_append]
  go_wp2_with fail
  refine (HP.out _).mono ?_
  rintro e u1 ⟨rfl, hb⟩
  clear hW
  replace bp := bp.grew hb
  replace bq := bq.grew hb
  replace HB := below_app HB hb HB.size
  clear hb a0 a1 a2 a3 a4 a5 a6 b0 b1 b2 b3 b4 b5 b6
  obtain ⟨a0, a1, a2, a3, a4, a5, a6⟩ : CellsPt _ _ _ := bp.cells
  obtain ⟨b0, b1, b2, b3, b4, b5, b6⟩ : CellsPt _ _ _ := bq.cells
  go_wp2_with fail
  refine (HQ.out _).mono ?_
  rintro e u2 ⟨rfl, hb⟩
  replace bp := bp.grew hb
  replace bq := bq.grew hb
  replace HB := below_app HB hb HB.size
  clear hb a0 a1 a2 a3 a4 a5 a6 b0 b1 b2 b3 b4 b5 b6
  obtain ⟨a0, a1, a2, a3, a4, a5, a6⟩ : CellsPt _ _ _ := bp.cells
  obtain ⟨b0, b1, b2, b3, b4, b5, b6⟩ : CellsPt _ _ _ := bq.cells
  go_wp2_with (first | (go_at_call 37; refine (openOr_any _ _ _).mono ?_; rintro e w' ⟨rfl, rfl⟩) | (go_at_call 38; refine (among_any _ _ _).mono ?_; rintro e w' ⟨rfl, rfl⟩))
  go_ret
  exact ⟨ret_bool' HN.out.symm, HB⟩
set_option maxHeartbeats 8000000 in
theorem nai_2 (p q : Pt) (w : World) (hp : okPt p = true) (hq : okPt q = true) (h0 : decide (p.kd = q.kd) = true) (h1 : orS q.wh p.wh = true) (h2 : orS q.sr p.sr = false) : Calls Try.prog 19 #[(.agg #[.int .i64 p.kd, .int .i64 p.wh, .int .i64 p.sr, .int .i64 p.tr, .int .i64 p.pi, .int .i64 p.le, .int .i64 p.zo]), (.agg #[.int .i64 q.kd, .int .i64 q.wh, .int .i64 q.sr, .int .i64 q.tr, .int .i64 q.pi, .int .i64 q.le, .int .i64 q.zo])] w fun e w' => e = .returned (.bool (nrP p q)) ∧ Below w.heap.size w w' := by
  have HN : Hid (nrP p q = false) := by show nrP p q = false; rw [nrP_is hp hq, h0, h1, h2]; rfl
  have HP : Hid (∀ w : World, Calls Try.prog 9 #[(.agg #[.int .i64 p.kd, .int .i64 p.wh, .int .i64 p.sr, .int .i64 p.tr, .int .i64 p.pi, .int .i64 p.le, .int .i64 p.zo])] w fun e w' => e = .returned (.bool true) ∧ Below w.heap.size w w') := fun w => by have := implPatOk_any p w; rw [hp] at this; exact this
  have HQ : Hid (∀ w : World, Calls Try.prog 9 #[(.agg #[.int .i64 q.kd, .int .i64 q.wh, .int .i64 q.sr, .int .i64 q.tr, .int .i64 q.pi, .int .i64 q.le, .int .i64 q.zo])] w fun e w' => e = .returned (.bool true) ∧ Below w.heap.size w w') := fun w => by have := implPatOk_any q w; rw [hq] at this; exact this
  clear hp hq
  have hk' : (p.kd == q.kd) = true := by simpa using h0
  have HB := ((Below.refl _ w).alloc (Nat.le_refl _) (.cells #[.int .i64 p.kd, .int .i64 p.wh, .int .i64 p.sr, .int .i64 p.tr, .int .i64 p.pi, .int .i64 p.le, .int .i64 p.zo] 25)).alloc (by simp) (.cells #[.int .i64 q.kd, .int .i64 q.wh, .int .i64 q.sr, .int .i64 q.tr, .int .i64 q.pi, .int .i64 q.le, .int .i64 q.zo] 25)
  have bp := (boxPt_new w 25 p).alloc (.cells #[.int .i64 q.kd, .int .i64 q.wh, .int .i64 q.sr, .int .i64 q.tr, .int .i64 q.pi, .int .i64 q.le, .int .i64 q.zo] 25)
  have bq : BoxPt ((w.alloc (.cells #[.int .i64 p.kd, .int .i64 p.wh, .int .i64 p.sr, .int .i64 p.tr, .int .i64 p.pi, .int .i64 p.le, .int .i64 p.zo] 25)).alloc (.cells #[.int .i64 q.kd, .int .i64 q.wh, .int .i64 q.sr, .int .i64 q.tr, .int .i64 q.pi, .int .i64 q.le, .int .i64 q.zo] 25)) (w.heap.size + 1) 25 q := heap_alloc2_new _ _ _
  generalize hW : (w.alloc (.cells #[.int .i64 p.kd, .int .i64 p.wh, .int .i64 p.sr, .int .i64 p.tr, .int .i64 p.pi, .int .i64 p.le, .int .i64 p.zo] 25)).alloc (.cells #[.int .i64 q.kd, .int .i64 q.wh, .int .i64 q.sr, .int .i64 q.tr, .int .i64 q.pi, .int .i64 q.le, .int .i64 q.zo] 25) = W at HB bp bq
  obtain ⟨a0, a1, a2, a3, a4, a5, a6⟩ : CellsPt _ _ _ := bp.cells
  obtain ⟨b0, b1, b2, b3, b4, b5, b6⟩ : CellsPt _ _ _ := bq.cells
  go_enter Try.func19, Try.ntmps19
  try simp only [List.append_eq, List.cons_append, List.nil_append]
  go_wp2_with fail
  refine (HP.out _).mono ?_
  rintro e u1 ⟨rfl, hb⟩
  clear hW
  replace bp := bp.grew hb
  replace bq := bq.grew hb
  replace HB := below_app HB hb HB.size
  clear hb a0 a1 a2 a3 a4 a5 a6 b0 b1 b2 b3 b4 b5 b6
  obtain ⟨a0, a1, a2, a3, a4, a5, a6⟩ : CellsPt _ _ _ := bp.cells
  obtain ⟨b0, b1, b2, b3, b4, b5, b6⟩ : CellsPt _ _ _ := bq.cells
  go_wp2_with fail
  refine (HQ.out _).mono ?_
  rintro e u2 ⟨rfl, hb⟩
  replace bp := bp.grew hb
  replace bq := bq.grew hb
  replace HB := below_app HB hb HB.size
  clear hb a0 a1 a2 a3 a4 a5 a6 b0 b1 b2 b3 b4 b5 b6
  obtain ⟨a0, a1, a2, a3, a4, a5, a6⟩ : CellsPt _ _ _ := bp.cells
  obtain ⟨b0, b1, b2, b3, b4, b5, b6⟩ : CellsPt _ _ _ := bq.cells
  go_wp2_with (first | (go_at_call 37; refine (openOr_any _ _ _).mono ?_; rintro e w' ⟨rfl, rfl⟩) | (go_at_call 38; refine (among_any _ _ _).mono ?_; rintro e w' ⟨rfl, rfl⟩))
  go_ret
  exact ⟨ret_bool' HN.out.symm, HB⟩
set_option maxHeartbeats 8000000 in
theorem nai_3 (p q : Pt) (w : World) (hp : okPt p = true) (hq : okPt q = true) (h0 : decide (p.kd = q.kd) = true) (h1 : orS q.wh p.wh = true) (h2 : orS q.sr p.sr = true) (h3 : orS q.pi p.pi = false) : Calls Try.prog 19 #[(.agg #[.int .i64 p.kd, .int .i64 p.wh, .int .i64 p.sr, .int .i64 p.tr, .int .i64 p.pi, .int .i64 p.le, .int .i64 p.zo]), (.agg #[.int .i64 q.kd, .int .i64 q.wh, .int .i64 q.sr, .int .i64 q.tr, .int .i64 q.pi, .int .i64 q.le, .int .i64 q.zo])] w fun e w' => e = .returned (.bool (nrP p q)) ∧ Below w.heap.size w w' := by
  have HN : Hid (nrP p q = false) := by show nrP p q = false; rw [nrP_is hp hq, h0, h1, h2, h3]; rfl
  have HP : Hid (∀ w : World, Calls Try.prog 9 #[(.agg #[.int .i64 p.kd, .int .i64 p.wh, .int .i64 p.sr, .int .i64 p.tr, .int .i64 p.pi, .int .i64 p.le, .int .i64 p.zo])] w fun e w' => e = .returned (.bool true) ∧ Below w.heap.size w w') := fun w => by have := implPatOk_any p w; rw [hp] at this; exact this
  have HQ : Hid (∀ w : World, Calls Try.prog 9 #[(.agg #[.int .i64 q.kd, .int .i64 q.wh, .int .i64 q.sr, .int .i64 q.tr, .int .i64 q.pi, .int .i64 q.le, .int .i64 q.zo])] w fun e w' => e = .returned (.bool true) ∧ Below w.heap.size w w') := fun w => by have := implPatOk_any q w; rw [hq] at this; exact this
  clear hp hq
  have hk' : (p.kd == q.kd) = true := by simpa using h0
  have HB := ((Below.refl _ w).alloc (Nat.le_refl _) (.cells #[.int .i64 p.kd, .int .i64 p.wh, .int .i64 p.sr, .int .i64 p.tr, .int .i64 p.pi, .int .i64 p.le, .int .i64 p.zo] 25)).alloc (by simp) (.cells #[.int .i64 q.kd, .int .i64 q.wh, .int .i64 q.sr, .int .i64 q.tr, .int .i64 q.pi, .int .i64 q.le, .int .i64 q.zo] 25)
  have bp := (boxPt_new w 25 p).alloc (.cells #[.int .i64 q.kd, .int .i64 q.wh, .int .i64 q.sr, .int .i64 q.tr, .int .i64 q.pi, .int .i64 q.le, .int .i64 q.zo] 25)
  have bq : BoxPt ((w.alloc (.cells #[.int .i64 p.kd, .int .i64 p.wh, .int .i64 p.sr, .int .i64 p.tr, .int .i64 p.pi, .int .i64 p.le, .int .i64 p.zo] 25)).alloc (.cells #[.int .i64 q.kd, .int .i64 q.wh, .int .i64 q.sr, .int .i64 q.tr, .int .i64 q.pi, .int .i64 q.le, .int .i64 q.zo] 25)) (w.heap.size + 1) 25 q := heap_alloc2_new _ _ _
  generalize hW : (w.alloc (.cells #[.int .i64 p.kd, .int .i64 p.wh, .int .i64 p.sr, .int .i64 p.tr, .int .i64 p.pi, .int .i64 p.le, .int .i64 p.zo] 25)).alloc (.cells #[.int .i64 q.kd, .int .i64 q.wh, .int .i64 q.sr, .int .i64 q.tr, .int .i64 q.pi, .int .i64 q.le, .int .i64 q.zo] 25) = W at HB bp bq
  obtain ⟨a0, a1, a2, a3, a4, a5, a6⟩ : CellsPt _ _ _ := bp.cells
  obtain ⟨b0, b1, b2, b3, b4, b5, b6⟩ : CellsPt _ _ _ := bq.cells
  go_enter Try.func19, Try.ntmps19
  try simp only [List.append_eq, List.cons_append, List.nil_append]
  go_wp2_with fail
  refine (HP.out _).mono ?_
  rintro e u1 ⟨rfl, hb⟩
  clear hW
  replace bp := bp.grew hb
  replace bq := bq.grew hb
  replace HB := below_app HB hb HB.size
  clear hb a0 a1 a2 a3 a4 a5 a6 b0 b1 b2 b3 b4 b5 b6
  obtain ⟨a0, a1, a2, a3, a4, a5, a6⟩ : CellsPt _ _ _ := bp.cells
  obtain ⟨b0, b1, b2, b3, b4, b5, b6⟩ : CellsPt _ _ _ := bq.cells
  go_wp2_with fail
  refine (HQ.out _).mono ?_
  rintro e u2 ⟨rfl, hb⟩
  replace bp := bp.grew hb
  replace bq := bq.grew hb
  replace HB := below_app HB hb HB.size
  clear hb a0 a1 a2 a3 a4 a5 a6 b0 b1 b2 b3 b4 b5 b6
  obtain ⟨a0, a1, a2, a3, a4, a5, a6⟩ : CellsPt _ _ _ := bp.cells
  obtain ⟨b0, b1, b2, b3, b4, b5, b6⟩ : CellsPt _ _ _ := bq.cells
  go_wp2_with (first | (go_at_call 37; refine (openOr_any _ _ _).mono ?_; rintro e w' ⟨rfl, rfl⟩) | (go_at_call 38; refine (among_any _ _ _).mono ?_; rintro e w' ⟨rfl, rfl⟩))
  go_ret
  exact ⟨ret_bool' HN.out.symm, HB⟩
set_option maxHeartbeats 8000000 in
theorem nai_4 (p q : Pt) (w : World) (hp : okPt p = true) (hq : okPt q = true) (h0 : decide (p.kd = q.kd) = true) (h1 : orS q.wh p.wh = true) (h2 : orS q.sr p.sr = true) (h3 : orS q.pi p.pi = true) (h4 : orS q.zo p.zo = false) : Calls Try.prog 19 #[(.agg #[.int .i64 p.kd, .int .i64 p.wh, .int .i64 p.sr, .int .i64 p.tr, .int .i64 p.pi, .int .i64 p.le, .int .i64 p.zo]), (.agg #[.int .i64 q.kd, .int .i64 q.wh, .int .i64 q.sr, .int .i64 q.tr, .int .i64 q.pi, .int .i64 q.le, .int .i64 q.zo])] w fun e w' => e = .returned (.bool (nrP p q)) ∧ Below w.heap.size w w' := by
  have HN : Hid (nrP p q = false) := by show nrP p q = false; rw [nrP_is hp hq, h0, h1, h2, h3, h4]; rfl
  have HP : Hid (∀ w : World, Calls Try.prog 9 #[(.agg #[.int .i64 p.kd, .int .i64 p.wh, .int .i64 p.sr, .int .i64 p.tr, .int .i64 p.pi, .int .i64 p.le, .int .i64 p.zo])] w fun e w' => e = .returned (.bool true) ∧ Below w.heap.size w w') := fun w => by have := implPatOk_any p w; rw [hp] at this; exact this
  have HQ : Hid (∀ w : World, Calls Try.prog 9 #[(.agg #[.int .i64 q.kd, .int .i64 q.wh, .int .i64 q.sr, .int .i64 q.tr, .int .i64 q.pi, .int .i64 q.le, .int .i64 q.zo])] w fun e w' => e = .returned (.bool true) ∧ Below w.heap.size w w') := fun w => by have := implPatOk_any q w; rw [hq] at this; exact this
  clear hp hq
  have hk' : (p.kd == q.kd) = true := by simpa using h0
  have HB := ((Below.refl _ w).alloc (Nat.le_refl _) (.cells #[.int .i64 p.kd, .int .i64 p.wh, .int .i64 p.sr, .int .i64 p.tr, .int .i64 p.pi, .int .i64 p.le, .int .i64 p.zo] 25)).alloc (by simp) (.cells #[.int .i64 q.kd, .int .i64 q.wh, .int .i64 q.sr, .int .i64 q.tr, .int .i64 q.pi, .int .i64 q.le, .int .i64 q.zo] 25)
  have bp := (boxPt_new w 25 p).alloc (.cells #[.int .i64 q.kd, .int .i64 q.wh, .int .i64 q.sr, .int .i64 q.tr, .int .i64 q.pi, .int .i64 q.le, .int .i64 q.zo] 25)
  have bq : BoxPt ((w.alloc (.cells #[.int .i64 p.kd, .int .i64 p.wh, .int .i64 p.sr, .int .i64 p.tr, .int .i64 p.pi, .int .i64 p.le, .int .i64 p.zo] 25)).alloc (.cells #[.int .i64 q.kd, .int .i64 q.wh, .int .i64 q.sr, .int .i64 q.tr, .int .i64 q.pi, .int .i64 q.le, .int .i64 q.zo] 25)) (w.heap.size + 1) 25 q := heap_alloc2_new _ _ _
  generalize hW : (w.alloc (.cells #[.int .i64 p.kd, .int .i64 p.wh, .int .i64 p.sr, .int .i64 p.tr, .int .i64 p.pi, .int .i64 p.le, .int .i64 p.zo] 25)).alloc (.cells #[.int .i64 q.kd, .int .i64 q.wh, .int .i64 q.sr, .int .i64 q.tr, .int .i64 q.pi, .int .i64 q.le, .int .i64 q.zo] 25) = W at HB bp bq
  obtain ⟨a0, a1, a2, a3, a4, a5, a6⟩ : CellsPt _ _ _ := bp.cells
  obtain ⟨b0, b1, b2, b3, b4, b5, b6⟩ : CellsPt _ _ _ := bq.cells
  go_enter Try.func19, Try.ntmps19
  try simp only [List.append_eq, List.cons_append, List.nil_append]
  go_wp2_with fail
  refine (HP.out _).mono ?_
  rintro e u1 ⟨rfl, hb⟩
  clear hW
  replace bp := bp.grew hb
  replace bq := bq.grew hb
  replace HB := below_app HB hb HB.size
  clear hb a0 a1 a2 a3 a4 a5 a6 b0 b1 b2 b3 b4 b5 b6
  obtain ⟨a0, a1, a2, a3, a4, a5, a6⟩ : CellsPt _ _ _ := bp.cells
  obtain ⟨b0, b1, b2, b3, b4, b5, b6⟩ : CellsPt _ _ _ := bq.cells
  go_wp2_with fail
  refine (HQ.out _).mono ?_
  rintro e u2 ⟨rfl, hb⟩
  replace bp := bp.grew hb
  replace bq := bq.grew hb
  replace HB := below_app HB hb HB.size
  clear hb a0 a1 a2 a3 a4 a5 a6 b0 b1 b2 b3 b4 b5 b6
  obtain ⟨a0, a1, a2, a3, a4, a5, a6⟩ : CellsPt _ _ _ := bp.cells
  obtain ⟨b0, b1, b2, b3, b4, b5, b6⟩ : CellsPt _ _ _ := bq.cells
  go_wp2_with (first | (go_at_call 37; refine (openOr_any _ _ _).mono ?_; rintro e w' ⟨rfl, rfl⟩) | (go_at_call 38; refine (among_any _ _ _).mono ?_; rintro e w' ⟨rfl, rfl⟩))
  go_ret
  exact ⟨ret_bool' HN.out.symm, HB⟩
set_option maxHeartbeats 8000000 in
theorem nai_5 (p q : Pt) (w : World) (hp : okPt p = true) (hq : okPt q = true) (h0 : decide (p.kd = q.kd) = true) (h1 : orS q.wh p.wh = true) (h2 : orS q.sr p.sr = true) (h3 : orS q.pi p.pi = true) (h4 : orS q.zo p.zo = true) (h5 : amI q.tr p.tr = false) : Calls Try.prog 19 #[(.agg #[.int .i64 p.kd, .int .i64 p.wh, .int .i64 p.sr, .int .i64 p.tr, .int .i64 p.pi, .int .i64 p.le, .int .i64 p.zo]), (.agg #[.int .i64 q.kd, .int .i64 q.wh, .int .i64 q.sr, .int .i64 q.tr, .int .i64 q.pi, .int .i64 q.le, .int .i64 q.zo])] w fun e w' => e = .returned (.bool (nrP p q)) ∧ Below w.heap.size w w' := by
  have HN : Hid (nrP p q = false) := by show nrP p q = false; rw [nrP_is hp hq, h0, h1, h2, h3, h4, h5]; rfl
  have HP : Hid (∀ w : World, Calls Try.prog 9 #[(.agg #[.int .i64 p.kd, .int .i64 p.wh, .int .i64 p.sr, .int .i64 p.tr, .int .i64 p.pi, .int .i64 p.le, .int .i64 p.zo])] w fun e w' => e = .returned (.bool true) ∧ Below w.heap.size w w') := fun w => by have := implPatOk_any p w; rw [hp] at this; exact this
  have HQ : Hid (∀ w : World, Calls Try.prog 9 #[(.agg #[.int .i64 q.kd, .int .i64 q.wh, .int .i64 q.sr, .int .i64 q.tr, .int .i64 q.pi, .int .i64 q.le, .int .i64 q.zo])] w fun e w' => e = .returned (.bool true) ∧ Below w.heap.size w w') := fun w => by have := implPatOk_any q w; rw [hq] at this; exact this
  clear hp hq
  have hk' : (p.kd == q.kd) = true := by simpa using h0
  have HB := ((Below.refl _ w).alloc (Nat.le_refl _) (.cells #[.int .i64 p.kd, .int .i64 p.wh, .int .i64 p.sr, .int .i64 p.tr, .int .i64 p.pi, .int .i64 p.le, .int .i64 p.zo] 25)).alloc (by simp) (.cells #[.int .i64 q.kd, .int .i64 q.wh, .int .i64 q.sr, .int .i64 q.tr, .int .i64 q.pi, .int .i64 q.le, .int .i64 q.zo] 25)
  have bp := (boxPt_new w 25 p).alloc (.cells #[.int .i64 q.kd, .int .i64 q.wh, .int .i64 q.sr, .int .i64 q.tr, .int .i64 q.pi, .int .i64 q.le, .int .i64 q.zo] 25)
  have bq : BoxPt ((w.alloc (.cells #[.int .i64 p.kd, .int .i64 p.wh, .int .i64 p.sr, .int .i64 p.tr, .int .i64 p.pi, .int .i64 p.le, .int .i64 p.zo] 25)).alloc (.cells #[.int .i64 q.kd, .int .i64 q.wh, .int .i64 q.sr, .int .i64 q.tr, .int .i64 q.pi, .int .i64 q.le, .int .i64 q.zo] 25)) (w.heap.size + 1) 25 q := heap_alloc2_new _ _ _
  generalize hW : (w.alloc (.cells #[.int .i64 p.kd, .int .i64 p.wh, .int .i64 p.sr, .int .i64 p.tr, .int .i64 p.pi, .int .i64 p.le, .int .i64 p.zo] 25)).alloc (.cells #[.int .i64 q.kd, .int .i64 q.wh, .int .i64 q.sr, .int .i64 q.tr, .int .i64 q.pi, .int .i64 q.le, .int .i64 q.zo] 25) = W at HB bp bq
  obtain ⟨a0, a1, a2, a3, a4, a5, a6⟩ : CellsPt _ _ _ := bp.cells
  obtain ⟨b0, b1, b2, b3, b4, b5, b6⟩ : CellsPt _ _ _ := bq.cells
  go_enter Try.func19, Try.ntmps19
  try simp only [List.append_eq, List.cons_append, List.nil_append]
  go_wp2_with fail
  refine (HP.out _).mono ?_
  rintro e u1 ⟨rfl, hb⟩
  clear hW
  replace bp := bp.grew hb
  replace bq := bq.grew hb
  replace HB := below_app HB hb HB.size
  clear hb a0 a1 a2 a3 a4 a5 a6 b0 b1 b2 b3 b4 b5 b6
  obtain ⟨a0, a1, a2, a3, a4, a5, a6⟩ : CellsPt _ _ _ := bp.cells
  obtain ⟨b0, b1, b2, b3, b4, b5, b6⟩ : CellsPt _ _ _ := bq.cells
  go_wp2_with fail
  refine (HQ.out _).mono ?_
  rintro e u2 ⟨rfl, hb⟩
  replace bp := bp.grew hb
  replace bq := bq.grew hb
  replace HB := below_app HB hb HB.size
  clear hb a0 a1 a2 a3 a4 a5 a6 b0 b1 b2 b3 b4 b5 b6
  obtain ⟨a0, a1, a2, a3, a4, a5, a6⟩ : CellsPt _ _ _ := bp.cells
  obtain ⟨b0, b1, b2, b3, b4, b5, b6⟩ : CellsPt _ _ _ := bq.cells
  go_wp2_with (first | (go_at_call 37; refine (openOr_any _ _ _).mono ?_; rintro e w' ⟨rfl, rfl⟩) | (go_at_call 38; refine (among_any _ _ _).mono ?_; rintro e w' ⟨rfl, rfl⟩))
  go_ret
  exact ⟨ret_bool' HN.out.symm, HB⟩
set_option maxHeartbeats 8000000 in
theorem nai_6 (p q : Pt) (w : World) (hp : okPt p = true) (hq : okPt q = true) (h0 : decide (p.kd = q.kd) = true) (h1 : orS q.wh p.wh = true) (h2 : orS q.sr p.sr = true) (h3 : orS q.pi p.pi = true) (h4 : orS q.zo p.zo = true) (h5 : amI q.tr p.tr = true) (h6 : decide (q.le ≤ p.le) = false) : Calls Try.prog 19 #[(.agg #[.int .i64 p.kd, .int .i64 p.wh, .int .i64 p.sr, .int .i64 p.tr, .int .i64 p.pi, .int .i64 p.le, .int .i64 p.zo]), (.agg #[.int .i64 q.kd, .int .i64 q.wh, .int .i64 q.sr, .int .i64 q.tr, .int .i64 q.pi, .int .i64 q.le, .int .i64 q.zo])] w fun e w' => e = .returned (.bool (nrP p q)) ∧ Below w.heap.size w w' := by
  have HN : Hid (nrP p q = false) := by show nrP p q = false; rw [nrP_is hp hq, h0, h1, h2, h3, h4, h5, h6]; rfl
  have HP : Hid (∀ w : World, Calls Try.prog 9 #[(.agg #[.int .i64 p.kd, .int .i64 p.wh, .int .i64 p.sr, .int .i64 p.tr, .int .i64 p.pi, .int .i64 p.le, .int .i64 p.zo])] w fun e w' => e = .returned (.bool true) ∧ Below w.heap.size w w') := fun w => by have := implPatOk_any p w; rw [hp] at this; exact this
  have HQ : Hid (∀ w : World, Calls Try.prog 9 #[(.agg #[.int .i64 q.kd, .int .i64 q.wh, .int .i64 q.sr, .int .i64 q.tr, .int .i64 q.pi, .int .i64 q.le, .int .i64 q.zo])] w fun e w' => e = .returned (.bool true) ∧ Below w.heap.size w w') := fun w => by have := implPatOk_any q w; rw [hq] at this; exact this
  clear hp hq
  have hk' : (p.kd == q.kd) = true := by simpa using h0
  have HB := ((Below.refl _ w).alloc (Nat.le_refl _) (.cells #[.int .i64 p.kd, .int .i64 p.wh, .int .i64 p.sr, .int .i64 p.tr, .int .i64 p.pi, .int .i64 p.le, .int .i64 p.zo] 25)).alloc (by simp) (.cells #[.int .i64 q.kd, .int .i64 q.wh, .int .i64 q.sr, .int .i64 q.tr, .int .i64 q.pi, .int .i64 q.le, .int .i64 q.zo] 25)
  have bp := (boxPt_new w 25 p).alloc (.cells #[.int .i64 q.kd, .int .i64 q.wh, .int .i64 q.sr, .int .i64 q.tr, .int .i64 q.pi, .int .i64 q.le, .int .i64 q.zo] 25)
  have bq : BoxPt ((w.alloc (.cells #[.int .i64 p.kd, .int .i64 p.wh, .int .i64 p.sr, .int .i64 p.tr, .int .i64 p.pi, .int .i64 p.le, .int .i64 p.zo] 25)).alloc (.cells #[.int .i64 q.kd, .int .i64 q.wh, .int .i64 q.sr, .int .i64 q.tr, .int .i64 q.pi, .int .i64 q.le, .int .i64 q.zo] 25)) (w.heap.size + 1) 25 q := heap_alloc2_new _ _ _
  generalize hW : (w.alloc (.cells #[.int .i64 p.kd, .int .i64 p.wh, .int .i64 p.sr, .int .i64 p.tr, .int .i64 p.pi, .int .i64 p.le, .int .i64 p.zo] 25)).alloc (.cells #[.int .i64 q.kd, .int .i64 q.wh, .int .i64 q.sr, .int .i64 q.tr, .int .i64 q.pi, .int .i64 q.le, .int .i64 q.zo] 25) = W at HB bp bq
  obtain ⟨a0, a1, a2, a3, a4, a5, a6⟩ : CellsPt _ _ _ := bp.cells
  obtain ⟨b0, b1, b2, b3, b4, b5, b6⟩ : CellsPt _ _ _ := bq.cells
  go_enter Try.func19, Try.ntmps19
  try simp only [List.append_eq, List.cons_append, List.nil_append]
  go_wp2_with fail
  refine (HP.out _).mono ?_
  rintro e u1 ⟨rfl, hb⟩
  clear hW
  replace bp := bp.grew hb
  replace bq := bq.grew hb
  replace HB := below_app HB hb HB.size
  clear hb a0 a1 a2 a3 a4 a5 a6 b0 b1 b2 b3 b4 b5 b6
  obtain ⟨a0, a1, a2, a3, a4, a5, a6⟩ : CellsPt _ _ _ := bp.cells
  obtain ⟨b0, b1, b2, b3, b4, b5, b6⟩ : CellsPt _ _ _ := bq.cells
  go_wp2_with fail
  refine (HQ.out _).mono ?_
  rintro e u2 ⟨rfl, hb⟩
  replace bp := bp.grew hb
  replace bq := bq.grew hb
  replace HB := below_app HB hb HB.size
  clear hb a0 a1 a2 a3 a4 a5 a6 b0 b1 b2 b3 b4 b5 b6
  obtain ⟨a0, a1, a2, a3, a4, a5, a6⟩ : CellsPt _ _ _ := bp.cells
  obtain ⟨b0, b1, b2, b3, b4, b5, b6⟩ : CellsPt _ _ _ := bq.cells
  go_wp2_with (first | (go_at_call 37; refine (openOr_any _ _ _).mono ?_; rintro e w' ⟨rfl, rfl⟩) | (go_at_call 38; refine (among_any _ _ _).mono ?_; rintro e w' ⟨rfl, rfl⟩))
  go_ret
  exact ⟨ret_bool' HN.out.symm, HB⟩
set_option maxHeartbeats 8000000 in
theorem nai_7 (p q : Pt) (w : World) (hp : okPt p = true) (hq : okPt q = true) (h0 : decide (p.kd = q.kd) = true) (h1 : orS q.wh p.wh = true) (h2 : orS q.sr p.sr = true) (h3 : orS q.pi p.pi = true) (h4 : orS q.zo p.zo = true) (h5 : amI q.tr p.tr = true) (h6 : decide (q.le ≤ p.le) = true) : Calls Try.prog 19 #[(.agg #[.int .i64 p.kd, .int .i64 p.wh, .int .i64 p.sr, .int .i64 p.tr, .int .i64 p.pi, .int .i64 p.le, .int .i64 p.zo]), (.agg #[.int .i64 q.kd, .int .i64 q.wh, .int .i64 q.sr, .int .i64 q.tr, .int .i64 q.pi, .int .i64 q.le, .int .i64 q.zo])] w fun e w' => e = .returned (.bool (nrP p q)) ∧ Below w.heap.size w w' := by
  have HN : Hid (nrP p q = true) := by show nrP p q = true; rw [nrP_is hp hq, h0, h1, h2, h3, h4, h5, h6]; rfl
  have HP : Hid (∀ w : World, Calls Try.prog 9 #[(.agg #[.int .i64 p.kd, .int .i64 p.wh, .int .i64 p.sr, .int .i64 p.tr, .int .i64 p.pi, .int .i64 p.le, .int .i64 p.zo])] w fun e w' => e = .returned (.bool true) ∧ Below w.heap.size w w') := fun w => by have := implPatOk_any p w; rw [hp] at this; exact this
  have HQ : Hid (∀ w : World, Calls Try.prog 9 #[(.agg #[.int .i64 q.kd, .int .i64 q.wh, .int .i64 q.sr, .int .i64 q.tr, .int .i64 q.pi, .int .i64 q.le, .int .i64 q.zo])] w fun e w' => e = .returned (.bool true) ∧ Below w.heap.size w w') := fun w => by have := implPatOk_any q w; rw [hq] at this; exact this
  clear hp hq
  have hk' : (p.kd == q.kd) = true := by simpa using h0
  have HB := ((Below.refl _ w).alloc (Nat.le_refl _) (.cells #[.int .i64 p.kd, .int .i64 p.wh, .int .i64 p.sr, .int .i64 p.tr, .int .i64 p.pi, .int .i64 p.le, .int .i64 p.zo] 25)).alloc (by simp) (.cells #[.int .i64 q.kd, .int .i64 q.wh, .int .i64 q.sr, .int .i64 q.tr, .int .i64 q.pi, .int .i64 q.le, .int .i64 q.zo] 25)
  have bp := (boxPt_new w 25 p).alloc (.cells #[.int .i64 q.kd, .int .i64 q.wh, .int .i64 q.sr, .int .i64 q.tr, .int .i64 q.pi, .int .i64 q.le, .int .i64 q.zo] 25)
  have bq : BoxPt ((w.alloc (.cells #[.int .i64 p.kd, .int .i64 p.wh, .int .i64 p.sr, .int .i64 p.tr, .int .i64 p.pi, .int .i64 p.le, .int .i64 p.zo] 25)).alloc (.cells #[.int .i64 q.kd, .int .i64 q.wh, .int .i64 q.sr, .int .i64 q.tr, .int .i64 q.pi, .int .i64 q.le, .int .i64 q.zo] 25)) (w.heap.size + 1) 25 q := heap_alloc2_new _ _ _
  generalize hW : (w.alloc (.cells #[.int .i64 p.kd, .int .i64 p.wh, .int .i64 p.sr, .int .i64 p.tr, .int .i64 p.pi, .int .i64 p.le, .int .i64 p.zo] 25)).alloc (.cells #[.int .i64 q.kd, .int .i64 q.wh, .int .i64 q.sr, .int .i64 q.tr, .int .i64 q.pi, .int .i64 q.le, .int .i64 q.zo] 25) = W at HB bp bq
  obtain ⟨a0, a1, a2, a3, a4, a5, a6⟩ : CellsPt _ _ _ := bp.cells
  obtain ⟨b0, b1, b2, b3, b4, b5, b6⟩ : CellsPt _ _ _ := bq.cells
  go_enter Try.func19, Try.ntmps19
  try simp only [List.append_eq, List.cons_append, List.nil_append]
  go_wp2_with fail
  refine (HP.out _).mono ?_
  rintro e u1 ⟨rfl, hb⟩
  clear hW
  replace bp := bp.grew hb
  replace bq := bq.grew hb
  replace HB := below_app HB hb HB.size
  clear hb a0 a1 a2 a3 a4 a5 a6 b0 b1 b2 b3 b4 b5 b6
  obtain ⟨a0, a1, a2, a3, a4, a5, a6⟩ : CellsPt _ _ _ := bp.cells
  obtain ⟨b0, b1, b2, b3, b4, b5, b6⟩ : CellsPt _ _ _ := bq.cells
  go_wp2_with fail
  refine (HQ.out _).mono ?_
  rintro e u2 ⟨rfl, hb⟩
  replace bp := bp.grew hb
  replace bq := bq.grew hb
  replace HB := below_app HB hb HB.size
  clear hb a0 a1 a2 a3 a4 a5 a6 b0 b1 b2 b3 b4 b5 b6
  obtain ⟨a0, a1, a2, a3, a4, a5, a6⟩ : CellsPt _ _ _ := bp.cells
  obtain ⟨b0, b1, b2, b3, b4, b5, b6⟩ : CellsPt _ _ _ := bq.cells
  go_wp2_with (first | (go_at_call 37; refine (openOr_any _ _ _).mono ?_; rintro e w' ⟨rfl, rfl⟩) | (go_at_call 38; refine (among_any _ _ _).mono ?_; rintro e w' ⟨rfl, rfl⟩))
  go_ret
  exact ⟨ret_bool' HN.out.symm, HB⟩
theorem implNarrower_any (p q : Pt) (w : World) : Calls Try.prog 19 #[(.agg #[.int .i64 p.kd, .int .i64 p.wh, .int .i64 p.sr, .int .i64 p.tr, .int .i64 p.pi, .int .i64 p.le, .int .i64 p.zo]), (.agg #[.int .i64 q.kd, .int .i64 q.wh, .int .i64 q.sr, .int .i64 q.tr, .int .i64 q.pi, .int .i64 q.le, .int .i64 q.zo])] w fun e w' => e = .returned (.bool (nrP p q)) ∧ Below w.heap.size w w' := by
  cases hp : okPt p
  · exact nai_p p q w hp
  cases hq : okPt q
  · exact nai_q p q w hp hq
  cases h0 : decide (p.kd = q.kd)
  · exact nai_0 p q w hp hq h0
  cases h1 : orS q.wh p.wh
  · exact nai_1 p q w hp hq h0 h1
  cases h2 : orS q.sr p.sr
  · exact nai_2 p q w hp hq h0 h1 h2
  cases h3 : orS q.pi p.pi
  · exact nai_3 p q w hp hq h0 h1 h2 h3
  cases h4 : orS q.zo p.zo
  · exact nai_4 p q w hp hq h0 h1 h2 h3 h4
  cases h5 : amI q.tr p.tr
  · exact nai_5 p q w hp hq h0 h1 h2 h3 h4 h5
  cases h6 : decide (q.le ≤ p.le)
  · exact nai_6 p q w hp hq h0 h1 h2 h3 h4 h5 h6
  exact nai_7 p q w hp hq h0 h1 h2 h3 h4 h5 h6
end Go.Proofs.Ytpfddfkjmbnpaaq
