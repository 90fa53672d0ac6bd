/-
  Chapter 7, the program: openOr, among, ofItsKind (oiK), PatOk (okPt). Written by tools/pai.gen.py. Own work.
-/
import Derived.Test.YtodfdfncdoliiadGreatGTbC5
import Derived.Test.YtodfdfncdoliiadGreatGSeg5
namespace Go.Proofs.YtodfdfncdoliiadGreat
open Go.ChangeShapes Go.WideShapes Go.ChangeAt Go.RowKit
set_option maxRecDepth 100000
set_option linter.unusedVariables false
set_option linter.unusedSimpArgs false

theorem wrap_nat (x : BitVec 64) : IntKind.i64.wrap (x.toNat : Int) = x.toInt := by
  rw [IntKind.wrap_i64, BitVec.toInt_eq_toNat_cond]
  have := x.isLt
  split <;> omega
theorem bv_among (t o : BitVec 64) : t &&& ~~~o = 0#64 ↔ o &&& t = t := by
  constructor
  · intro h
    apply BitVec.eq_of_getLsbD_eq
    intro i hi
    have := congrArg (fun z => z.getLsbD i) h
    simp [hi] at this ⊢
    exact this
  · intro h
    apply BitVec.eq_of_getLsbD_eq
    intro i hi
    have := congrArg (fun z => z.getLsbD i) h
    simp [hi] at this ⊢
    exact this
/-- whether all of these traits are among the others -/
def amI (t o : Int) : Bool := decide (bits .andNot .i64 t o = 0)
theorem amI_and {t : Int} (o : Int) (ht : -9223372036854775808 ≤ t ∧ t ≤ 9223372036854775807) : amI t o = decide (bits .and .i64 o t = t) := by
  have e1 : bits .andNot .i64 t o = (BitVec.ofInt 64 t &&& ~~~ BitVec.ofInt 64 o).toInt := wrap_nat _
  have e2 : bits .and .i64 o t = (BitVec.ofInt 64 o &&& BitVec.ofInt 64 t).toInt := wrap_nat _
  have e3 : (BitVec.ofInt 64 t).toInt = t := by
    rw [BitVec.toInt_ofInt]
    simp [Int.bmod]
    omega
  unfold amI
  rw [e1, e2]
  congr 1
  apply propext
  rw [show (0 : Int) = (0#64).toInt from rfl, BitVec.toInt_inj, bv_among, ← BitVec.toInt_inj, e3]
theorem amI_63 {t : Int} (o : Int) (h : 0 ≤ t ∧ t ≤ 63) : amI t o = decide (bits .and .i64 o t = t) := amI_and o (by omega)
theorem among_any (x y : Int) (w : World) : Calls Tryz.prog 152 #[.int .i64 x, .int .i64 y] w fun e w' => e = .returned (.bool (amI x y)) ∧ w' = w := by
  go_enter Tryz.func152, Tryz.ntmps152
  go_wp2
  all_goals go_ret
  all_goals refine ⟨ret_bool' ?_, rfl⟩
  all_goals (unfold amI; first | rfl | (rw [Bool.eq_iff_iff]; simp))
/-- what is asked for, without what does not belong to the kind -/
def oiK (p : Pt) : Pt := ⟨p.kd, p.wh, bif decide (p.kd = 1) then p.sr else 0, bif decide (p.kd = 1) then p.tr else 0, bif decide (p.kd = 3) || decide (p.kd = 4) then 0 else p.pi, p.le, bif decide (p.kd = 2) then p.zo else 0⟩
set_option maxHeartbeats 4000000 in
theorem ofItsKind_any (p : Pt) (w : World) : Calls Tryz.prog 118 #[(.agg #[.int .i64 p.kd, .int .i64 p.wh, .int .i64 p.sr, .int .i64 p.tr, .int .i64 p.pi, .int .i64 p.le, .int .i64 p.zo])] w fun e w' => e = .returned (.agg #[.int .i64 (oiK p).kd, .int .i64 (oiK p).wh, .int .i64 (oiK p).sr, .int .i64 (oiK p).tr, .int .i64 (oiK p).pi, .int .i64 (oiK p).le, .int .i64 (oiK p).zo]) ∧ Below w.heap.size w w' := by
  obtain ⟨kd, wh, sr, tr, pi, le, zo⟩ := p
  by_cases h1 : kd = 1
  case pos => subst h1; (
    go_enter Tryz.func118, Tryz.ntmps118
    go_wp2
    (try simp only [Exit.inBlock, Exit.then]); refine bodyPost_ret (results_cell_row rfl _ _ (w.heap.size + 1) _ _ _ _ rfl (heap_alloc2_new _ _ _) Tryz.underlying25 rfl (by kernel_rfl)) rfl ?_
    refine ⟨?_, ((Below.refl _ w).alloc (Nat.le_refl _) _).alloc (by simp) _⟩
    simp [oiK, *])
  by_cases h2 : kd = 2
  case pos => subst h2; (
    go_enter Tryz.func118, Tryz.ntmps118
    go_wp2
    (try simp only [Exit.inBlock, Exit.then]); refine bodyPost_ret (results_cell_row rfl _ _ (w.heap.size + 1) _ _ _ _ rfl (heap_alloc2_new _ _ _) Tryz.underlying25 rfl (by kernel_rfl)) rfl ?_
    refine ⟨?_, ((Below.refl _ w).alloc (Nat.le_refl _) _).alloc (by simp) _⟩
    simp [oiK, *])
  by_cases h3 : kd = 3
  case pos => subst h3; (
    go_enter Tryz.func118, Tryz.ntmps118
    go_wp2
    (try simp only [Exit.inBlock, Exit.then]); refine bodyPost_ret (results_cell_row rfl _ _ (w.heap.size + 1) _ _ _ _ rfl (heap_alloc2_new _ _ _) Tryz.underlying25 rfl (by kernel_rfl)) rfl ?_
    refine ⟨?_, ((Below.refl _ w).alloc (Nat.le_refl _) _).alloc (by simp) _⟩
    simp [oiK, *])
  by_cases h4 : kd = 4
  case pos => subst h4; (
    go_enter Tryz.func118, Tryz.ntmps118
    go_wp2
    (try simp only [Exit.inBlock, Exit.then]); refine bodyPost_ret (results_cell_row rfl _ _ (w.heap.size + 1) _ _ _ _ rfl (heap_alloc2_new _ _ _) Tryz.underlying25 rfl (by kernel_rfl)) rfl ?_
    refine ⟨?_, ((Below.refl _ w).alloc (Nat.le_refl _) _).alloc (by simp) _⟩
    simp [oiK, *])
  have b1 : (kd != 1) = true := by simpa using h1
  have b2 : (kd != 2) = true := by simpa using h2
  have b3 : (kd == 3) = false := by simpa using h3
  have b4 : (kd == 4) = false := by simpa using h4
  (
    go_enter Tryz.func118, Tryz.ntmps118
    go_wp2
    (try simp only [Exit.inBlock, Exit.then]); refine bodyPost_ret (results_cell_row rfl _ _ (w.heap.size + 1) _ _ _ _ rfl (heap_alloc2_new _ _ _) Tryz.underlying25 rfl (by kernel_rfl)) rfl ?_
    refine ⟨?_, ((Below.refl _ w).alloc (Nat.le_refl _) _).alloc (by simp) _⟩
    simp [oiK, *])
theorem okPt_is (p : Pt) : okPt p = (smPt p (oiK p) && okT7 p) := by
  unfold okPt smPt oiK
  cases okT7 p
  · simp
  · by_cases h1 : p.kd = 1
    · simp [h1]
    by_cases h2 : p.kd = 2
    · simp [h2]
    by_cases h3 : p.kd = 3
    · simp [h3]; generalize decide (p.zo = 0) = a; generalize decide (p.pi = 0) = b; cases a <;> cases b <;> simp
    by_cases h4 : p.kd = 4
    · simp [h4]; generalize decide (p.zo = 0) = a; generalize decide (p.pi = 0) = b; cases a <;> cases b <;> simp
    simp [h1, h2, h3, h4]
set_option maxHeartbeats 4000000 in
theorem pti_s (p : Pt) (w : World) (hs : smPt p (oiK p) = false) : Calls Tryz.prog 71 #[(.agg #[.int .i64 p.kd, .int .i64 p.wh, .int .i64 p.sr, .int .i64 p.tr, .int .i64 p.pi, .int .i64 p.le, .int .i64 p.zo])] w fun e w' => e = .returned (.bool (okPt p)) ∧ Below w.heap.size w w' := by
  have HP : Hid (okPt p = false) := by
    show okPt p = false
    rw [okPt_is]; rw [hs]; rfl
  have EQ := fun v : World => run_eq_pat p (oiK p) v
  have HK : Hid (∀ v : World, Calls Tryz.prog 118 #[(.agg #[.int .i64 p.kd, .int .i64 p.wh, .int .i64 p.sr, .int .i64 p.tr, .int .i64 p.pi, .int .i64 p.le, .int .i64 p.zo])] v fun e w' => e = .returned (.agg #[.int .i64 (oiK p).kd, .int .i64 (oiK p).wh, .int .i64 (oiK p).sr, .int .i64 (oiK p).tr, .int .i64 (oiK p).pi, .int .i64 (oiK p).le, .int .i64 (oiK p).zo]) ∧ Below v.heap.size v w') := ofItsKind_any p
  generalize oiK p = q at *
  have hb0 := (Below.refl _ w).alloc (Nat.le_refl _) (.cells #[.int .i64 p.kd, .int .i64 p.wh, .int .i64 p.sr, .int .i64 p.tr, .int .i64 p.pi, .int .i64 p.le, .int .i64 p.zo] 25)
  have bx := boxPt_new w 25 p
  generalize hW : w.alloc (.cells #[.int .i64 p.kd, .int .i64 p.wh, .int .i64 p.sr, .int .i64 p.tr, .int .i64 p.pi, .int .i64 p.le, .int .i64 p.zo] 25) = W at hb0 bx
  have hne := bw_ne W
  obtain ⟨k0, k1, k2, k3, k4, k5, k6⟩ : CellsPt _ _ _ := bx.cells
  have c0 := fun x : BW W => x.cell k0
  have c1 := fun x : BW W => x.cell k1
  have c2 := fun x : BW W => x.cell k2
  have c3 := fun x : BW W => x.cell k3
  have c4 := fun x : BW W => x.cell k4
  have c5 := fun x : BW W => x.cell k5
  have c6 := fun x : BW W => x.cell k6
  clear k0 k1 k2 k3 k4 k5 k6
  go_enter Tryz.func71, Tryz.ntmps71
  try simp only [List.append_eq, List.cons_append, List.nil_append]
  go_wp2_with fail
  refine wp_region_below_lit (W := W) 40 (by kernel_rfl) (by kernel_rfl) (by decide) (Below.refl _ _) (by intro c d v a w h; cases d <;> exact h) ?_
  simp only [List.take_succ_cons, List.take_zero, List.drop_succ_cons, List.drop_zero]
  repeat (go_big_quiet_step (first | (go_at_call 75; refine quiet_below_same (between_any _ _ _ _)) | (go_at_call 119; refine quiet_below_same (isAmount_any _ _)) | (go_at_call 118; refine quiet_below (HK.out _))))
  refine wpQuiet_nil ?_
  rintro _ ⟨x, rfl⟩
  go_wp2
  go_ret
  exact ⟨ret_bool' HP.out.symm, below_app hb0 x.h hb0.size⟩
set_option maxHeartbeats 4000000 in
theorem pti_0 (p : Pt) (w : World) (hs : smPt p (oiK p) = true)  (h0 : ib p.kd 1 6 = false) : Calls Tryz.prog 71 #[(.agg #[.int .i64 p.kd, .int .i64 p.wh, .int .i64 p.sr, .int .i64 p.tr, .int .i64 p.pi, .int .i64 p.le, .int .i64 p.zo])] w fun e w' => e = .returned (.bool (okPt p)) ∧ Below w.heap.size w w' := by
  have HP : Hid (okPt p = false) := by
    show okPt p = false
    rw [okPt_is]; unfold okT7; rw [h0]; simp
  have EQ := fun v : World => run_eq_pat p (oiK p) v
  have HK : Hid (∀ v : World, Calls Tryz.prog 118 #[(.agg #[.int .i64 p.kd, .int .i64 p.wh, .int .i64 p.sr, .int .i64 p.tr, .int .i64 p.pi, .int .i64 p.le, .int .i64 p.zo])] v fun e w' => e = .returned (.agg #[.int .i64 (oiK p).kd, .int .i64 (oiK p).wh, .int .i64 (oiK p).sr, .int .i64 (oiK p).tr, .int .i64 (oiK p).pi, .int .i64 (oiK p).le, .int .i64 (oiK p).zo]) ∧ Below v.heap.size v w') := ofItsKind_any p
  generalize oiK p = q at *
  have hb0 := (Below.refl _ w).alloc (Nat.le_refl _) (.cells #[.int .i64 p.kd, .int .i64 p.wh, .int .i64 p.sr, .int .i64 p.tr, .int .i64 p.pi, .int .i64 p.le, .int .i64 p.zo] 25)
  have bx := boxPt_new w 25 p
  generalize hW : w.alloc (.cells #[.int .i64 p.kd, .int .i64 p.wh, .int .i64 p.sr, .int .i64 p.tr, .int .i64 p.pi, .int .i64 p.le, .int .i64 p.zo] 25) = W at hb0 bx
  have hne := bw_ne W
  obtain ⟨k0, k1, k2, k3, k4, k5, k6⟩ : CellsPt _ _ _ := bx.cells
  have c0 := fun x : BW W => x.cell k0
  have c1 := fun x : BW W => x.cell k1
  have c2 := fun x : BW W => x.cell k2
  have c3 := fun x : BW W => x.cell k3
  have c4 := fun x : BW W => x.cell k4
  have c5 := fun x : BW W => x.cell k5
  have c6 := fun x : BW W => x.cell k6
  clear k0 k1 k2 k3 k4 k5 k6
  go_enter Tryz.func71, Tryz.ntmps71
  try simp only [List.append_eq, List.cons_append, List.nil_append]
  go_wp2_with fail
  refine wp_region_below_lit (W := W) 40 (by kernel_rfl) (by kernel_rfl) (by decide) (Below.refl _ _) (by intro c d v a w h; cases d <;> exact h) ?_
  simp only [List.take_succ_cons, List.take_zero, List.drop_succ_cons, List.drop_zero]
  repeat (go_big_quiet_step (first | (go_at_call 75; refine quiet_below_same (between_any _ _ _ _)) | (go_at_call 119; refine quiet_below_same (isAmount_any _ _)) | (go_at_call 118; refine quiet_below (HK.out _))))
  refine wpQuiet_nil ?_
  rintro _ ⟨x, rfl⟩
  go_wp2
  go_ret
  exact ⟨ret_bool' HP.out.symm, below_app hb0 x.h hb0.size⟩
set_option maxHeartbeats 4000000 in
theorem pti_1 (p : Pt) (w : World) (hs : smPt p (oiK p) = true) (h0 : ib p.kd 1 6 = true) (h1 : ib p.wh 0 2 = false) : Calls Tryz.prog 71 #[(.agg #[.int .i64 p.kd, .int .i64 p.wh, .int .i64 p.sr, .int .i64 p.tr, .int .i64 p.pi, .int .i64 p.le, .int .i64 p.zo])] w fun e w' => e = .returned (.bool (okPt p)) ∧ Below w.heap.size w w' := by
  have HP : Hid (okPt p = false) := by
    show okPt p = false
    rw [okPt_is]; unfold okT7; rw [h1]; simp
  have EQ := fun v : World => run_eq_pat p (oiK p) v
  have HK : Hid (∀ v : World, Calls Tryz.prog 118 #[(.agg #[.int .i64 p.kd, .int .i64 p.wh, .int .i64 p.sr, .int .i64 p.tr, .int .i64 p.pi, .int .i64 p.le, .int .i64 p.zo])] v fun e w' => e = .returned (.agg #[.int .i64 (oiK p).kd, .int .i64 (oiK p).wh, .int .i64 (oiK p).sr, .int .i64 (oiK p).tr, .int .i64 (oiK p).pi, .int .i64 (oiK p).le, .int .i64 (oiK p).zo]) ∧ Below v.heap.size v w') := ofItsKind_any p
  generalize oiK p = q at *
  have hb0 := (Below.refl _ w).alloc (Nat.le_refl _) (.cells #[.int .i64 p.kd, .int .i64 p.wh, .int .i64 p.sr, .int .i64 p.tr, .int .i64 p.pi, .int .i64 p.le, .int .i64 p.zo] 25)
  have bx := boxPt_new w 25 p
  generalize hW : w.alloc (.cells #[.int .i64 p.kd, .int .i64 p.wh, .int .i64 p.sr, .int .i64 p.tr, .int .i64 p.pi, .int .i64 p.le, .int .i64 p.zo] 25) = W at hb0 bx
  have hne := bw_ne W
  obtain ⟨k0, k1, k2, k3, k4, k5, k6⟩ : CellsPt _ _ _ := bx.cells
  have c0 := fun x : BW W => x.cell k0
  have c1 := fun x : BW W => x.cell k1
  have c2 := fun x : BW W => x.cell k2
  have c3 := fun x : BW W => x.cell k3
  have c4 := fun x : BW W => x.cell k4
  have c5 := fun x : BW W => x.cell k5
  have c6 := fun x : BW W => x.cell k6
  clear k0 k1 k2 k3 k4 k5 k6
  go_enter Tryz.func71, Tryz.ntmps71
  try simp only [List.append_eq, List.cons_append, List.nil_append]
  go_wp2_with fail
  refine wp_region_below_lit (W := W) 40 (by kernel_rfl) (by kernel_rfl) (by decide) (Below.refl _ _) (by intro c d v a w h; cases d <;> exact h) ?_
  simp only [List.take_succ_cons, List.take_zero, List.drop_succ_cons, List.drop_zero]
  repeat (go_big_quiet_step (first | (go_at_call 75; refine quiet_below_same (between_any _ _ _ _)) | (go_at_call 119; refine quiet_below_same (isAmount_any _ _)) | (go_at_call 118; refine quiet_below (HK.out _))))
  refine wpQuiet_nil ?_
  rintro _ ⟨x, rfl⟩
  go_wp2
  go_ret
  exact ⟨ret_bool' HP.out.symm, below_app hb0 x.h hb0.size⟩
set_option maxHeartbeats 4000000 in
theorem pti_2 (p : Pt) (w : World) (hs : smPt p (oiK p) = true) (h0 : ib p.kd 1 6 = true) (h1 : ib p.wh 0 2 = true) (h2 : ib p.sr 0 99 = false) : Calls Tryz.prog 71 #[(.agg #[.int .i64 p.kd, .int .i64 p.wh, .int .i64 p.sr, .int .i64 p.tr, .int .i64 p.pi, .int .i64 p.le, .int .i64 p.zo])] w fun e w' => e = .returned (.bool (okPt p)) ∧ Below w.heap.size w w' := by
  have HP : Hid (okPt p = false) := by
    show okPt p = false
    rw [okPt_is]; unfold okT7; rw [h2]; simp
  have EQ := fun v : World => run_eq_pat p (oiK p) v
  have HK : Hid (∀ v : World, Calls Tryz.prog 118 #[(.agg #[.int .i64 p.kd, .int .i64 p.wh, .int .i64 p.sr, .int .i64 p.tr, .int .i64 p.pi, .int .i64 p.le, .int .i64 p.zo])] v fun e w' => e = .returned (.agg #[.int .i64 (oiK p).kd, .int .i64 (oiK p).wh, .int .i64 (oiK p).sr, .int .i64 (oiK p).tr, .int .i64 (oiK p).pi, .int .i64 (oiK p).le, .int .i64 (oiK p).zo]) ∧ Below v.heap.size v w') := ofItsKind_any p
  generalize oiK p = q at *
  have hb0 := (Below.refl _ w).alloc (Nat.le_refl _) (.cells #[.int .i64 p.kd, .int .i64 p.wh, .int .i64 p.sr, .int .i64 p.tr, .int .i64 p.pi, .int .i64 p.le, .int .i64 p.zo] 25)
  have bx := boxPt_new w 25 p
  generalize hW : w.alloc (.cells #[.int .i64 p.kd, .int .i64 p.wh, .int .i64 p.sr, .int .i64 p.tr, .int .i64 p.pi, .int .i64 p.le, .int .i64 p.zo] 25) = W at hb0 bx
  have hne := bw_ne W
  obtain ⟨k0, k1, k2, k3, k4, k5, k6⟩ : CellsPt _ _ _ := bx.cells
  have c0 := fun x : BW W => x.cell k0
  have c1 := fun x : BW W => x.cell k1
  have c2 := fun x : BW W => x.cell k2
  have c3 := fun x : BW W => x.cell k3
  have c4 := fun x : BW W => x.cell k4
  have c5 := fun x : BW W => x.cell k5
  have c6 := fun x : BW W => x.cell k6
  clear k0 k1 k2 k3 k4 k5 k6
  go_enter Tryz.func71, Tryz.ntmps71
  try simp only [List.append_eq, List.cons_append, List.nil_append]
  go_wp2_with fail
  refine wp_region_below_lit (W := W) 40 (by kernel_rfl) (by kernel_rfl) (by decide) (Below.refl _ _) (by intro c d v a w h; cases d <;> exact h) ?_
  simp only [List.take_succ_cons, List.take_zero, List.drop_succ_cons, List.drop_zero]
  repeat (go_big_quiet_step (first | (go_at_call 75; refine quiet_below_same (between_any _ _ _ _)) | (go_at_call 119; refine quiet_below_same (isAmount_any _ _)) | (go_at_call 118; refine quiet_below (HK.out _))))
  refine wpQuiet_nil ?_
  rintro _ ⟨x, rfl⟩
  go_wp2
  go_ret
  exact ⟨ret_bool' HP.out.symm, below_app hb0 x.h hb0.size⟩
set_option maxHeartbeats 4000000 in
theorem pti_3 (p : Pt) (w : World) (hs : smPt p (oiK p) = true) (h0 : ib p.kd 1 6 = true) (h1 : ib p.wh 0 2 = true) (h2 : ib p.sr 0 99 = true) (h3 : ib p.tr 0 63 = false) : Calls Tryz.prog 71 #[(.agg #[.int .i64 p.kd, .int .i64 p.wh, .int .i64 p.sr, .int .i64 p.tr, .int .i64 p.pi, .int .i64 p.le, .int .i64 p.zo])] w fun e w' => e = .returned (.bool (okPt p)) ∧ Below w.heap.size w w' := by
  have HP : Hid (okPt p = false) := by
    show okPt p = false
    rw [okPt_is]; unfold okT7; rw [h3]; simp
  have EQ := fun v : World => run_eq_pat p (oiK p) v
  have HK : Hid (∀ v : World, Calls Tryz.prog 118 #[(.agg #[.int .i64 p.kd, .int .i64 p.wh, .int .i64 p.sr, .int .i64 p.tr, .int .i64 p.pi, .int .i64 p.le, .int .i64 p.zo])] v fun e w' => e = .returned (.agg #[.int .i64 (oiK p).kd, .int .i64 (oiK p).wh, .int .i64 (oiK p).sr, .int .i64 (oiK p).tr, .int .i64 (oiK p).pi, .int .i64 (oiK p).le, .int .i64 (oiK p).zo]) ∧ Below v.heap.size v w') := ofItsKind_any p
  generalize oiK p = q at *
  have hb0 := (Below.refl _ w).alloc (Nat.le_refl _) (.cells #[.int .i64 p.kd, .int .i64 p.wh, .int .i64 p.sr, .int .i64 p.tr, .int .i64 p.pi, .int .i64 p.le, .int .i64 p.zo] 25)
  have bx := boxPt_new w 25 p
  generalize hW : w.alloc (.cells #[.int .i64 p.kd, .int .i64 p.wh, .int .i64 p.sr, .int .i64 p.tr, .int .i64 p.pi, .int .i64 p.le, .int .i64 p.zo] 25) = W at hb0 bx
  have hne := bw_ne W
  obtain ⟨k0, k1, k2, k3, k4, k5, k6⟩ : CellsPt _ _ _ := bx.cells
  have c0 := fun x : BW W => x.cell k0
  have c1 := fun x : BW W => x.cell k1
  have c2 := fun x : BW W => x.cell k2
  have c3 := fun x : BW W => x.cell k3
  have c4 := fun x : BW W => x.cell k4
  have c5 := fun x : BW W => x.cell k5
  have c6 := fun x : BW W => x.cell k6
  clear k0 k1 k2 k3 k4 k5 k6
  go_enter Tryz.func71, Tryz.ntmps71
  try simp only [List.append_eq, List.cons_append, List.nil_append]
  go_wp2_with fail
  refine wp_region_below_lit (W := W) 40 (by kernel_rfl) (by kernel_rfl) (by decide) (Below.refl _ _) (by intro c d v a w h; cases d <;> exact h) ?_
  simp only [List.take_succ_cons, List.take_zero, List.drop_succ_cons, List.drop_zero]
  repeat (go_big_quiet_step (first | (go_at_call 75; refine quiet_below_same (between_any _ _ _ _)) | (go_at_call 119; refine quiet_below_same (isAmount_any _ _)) | (go_at_call 118; refine quiet_below (HK.out _))))
  refine wpQuiet_nil ?_
  rintro _ ⟨x, rfl⟩
  go_wp2
  go_ret
  exact ⟨ret_bool' HP.out.symm, below_app hb0 x.h hb0.size⟩
set_option maxHeartbeats 4000000 in
theorem pti_4 (p : Pt) (w : World) (hs : smPt p (oiK p) = true) (h0 : ib p.kd 1 6 = true) (h1 : ib p.wh 0 2 = true) (h2 : ib p.sr 0 99 = true) (h3 : ib p.tr 0 63 = true) (h4 : ib p.pi 0 99 = false) : Calls Tryz.prog 71 #[(.agg #[.int .i64 p.kd, .int .i64 p.wh, .int .i64 p.sr, .int .i64 p.tr, .int .i64 p.pi, .int .i64 p.le, .int .i64 p.zo])] w fun e w' => e = .returned (.bool (okPt p)) ∧ Below w.heap.size w w' := by
  have HP : Hid (okPt p = false) := by
    show okPt p = false
    rw [okPt_is]; unfold okT7; rw [h4]; simp
  have EQ := fun v : World => run_eq_pat p (oiK p) v
  have HK : Hid (∀ v : World, Calls Tryz.prog 118 #[(.agg #[.int .i64 p.kd, .int .i64 p.wh, .int .i64 p.sr, .int .i64 p.tr, .int .i64 p.pi, .int .i64 p.le, .int .i64 p.zo])] v fun e w' => e = .returned (.agg #[.int .i64 (oiK p).kd, .int .i64 (oiK p).wh, .int .i64 (oiK p).sr, .int .i64 (oiK p).tr, .int .i64 (oiK p).pi, .int .i64 (oiK p).le, .int .i64 (oiK p).zo]) ∧ Below v.heap.size v w') := ofItsKind_any p
  generalize oiK p = q at *
  have hb0 := (Below.refl _ w).alloc (Nat.le_refl _) (.cells #[.int .i64 p.kd, .int .i64 p.wh, .int .i64 p.sr, .int .i64 p.tr, .int .i64 p.pi, .int .i64 p.le, .int .i64 p.zo] 25)
  have bx := boxPt_new w 25 p
  generalize hW : w.alloc (.cells #[.int .i64 p.kd, .int .i64 p.wh, .int .i64 p.sr, .int .i64 p.tr, .int .i64 p.pi, .int .i64 p.le, .int .i64 p.zo] 25) = W at hb0 bx
  have hne := bw_ne W
  obtain ⟨k0, k1, k2, k3, k4, k5, k6⟩ : CellsPt _ _ _ := bx.cells
  have c0 := fun x : BW W => x.cell k0
  have c1 := fun x : BW W => x.cell k1
  have c2 := fun x : BW W => x.cell k2
  have c3 := fun x : BW W => x.cell k3
  have c4 := fun x : BW W => x.cell k4
  have c5 := fun x : BW W => x.cell k5
  have c6 := fun x : BW W => x.cell k6
  clear k0 k1 k2 k3 k4 k5 k6
  go_enter Tryz.func71, Tryz.ntmps71
  try simp only [List.append_eq, List.cons_append, List.nil_append]
  go_wp2_with fail
  refine wp_region_below_lit (W := W) 40 (by kernel_rfl) (by kernel_rfl) (by decide) (Below.refl _ _) (by intro c d v a w h; cases d <;> exact h) ?_
  simp only [List.take_succ_cons, List.take_zero, List.drop_succ_cons, List.drop_zero]
  repeat (go_big_quiet_step (first | (go_at_call 75; refine quiet_below_same (between_any _ _ _ _)) | (go_at_call 119; refine quiet_below_same (isAmount_any _ _)) | (go_at_call 118; refine quiet_below (HK.out _))))
  refine wpQuiet_nil ?_
  rintro _ ⟨x, rfl⟩
  go_wp2
  go_ret
  exact ⟨ret_bool' HP.out.symm, below_app hb0 x.h hb0.size⟩
set_option maxHeartbeats 4000000 in
theorem pti_5 (p : Pt) (w : World) (hs : smPt p (oiK p) = true) (h0 : ib p.kd 1 6 = true) (h1 : ib p.wh 0 2 = true) (h2 : ib p.sr 0 99 = true) (h3 : ib p.tr 0 63 = true) (h4 : ib p.pi 0 99 = true) (h5 : ib p.le 0 2147483647 = false) : Calls Tryz.prog 71 #[(.agg #[.int .i64 p.kd, .int .i64 p.wh, .int .i64 p.sr, .int .i64 p.tr, .int .i64 p.pi, .int .i64 p.le, .int .i64 p.zo])] w fun e w' => e = .returned (.bool (okPt p)) ∧ Below w.heap.size w w' := by
  have HP : Hid (okPt p = false) := by
    show okPt p = false
    rw [okPt_is]; unfold okT7; rw [h5]; simp
  have EQ := fun v : World => run_eq_pat p (oiK p) v
  have HK : Hid (∀ v : World, Calls Tryz.prog 118 #[(.agg #[.int .i64 p.kd, .int .i64 p.wh, .int .i64 p.sr, .int .i64 p.tr, .int .i64 p.pi, .int .i64 p.le, .int .i64 p.zo])] v fun e w' => e = .returned (.agg #[.int .i64 (oiK p).kd, .int .i64 (oiK p).wh, .int .i64 (oiK p).sr, .int .i64 (oiK p).tr, .int .i64 (oiK p).pi, .int .i64 (oiK p).le, .int .i64 (oiK p).zo]) ∧ Below v.heap.size v w') := ofItsKind_any p
  generalize oiK p = q at *
  have hb0 := (Below.refl _ w).alloc (Nat.le_refl _) (.cells #[.int .i64 p.kd, .int .i64 p.wh, .int .i64 p.sr, .int .i64 p.tr, .int .i64 p.pi, .int .i64 p.le, .int .i64 p.zo] 25)
  have bx := boxPt_new w 25 p
  generalize hW : w.alloc (.cells #[.int .i64 p.kd, .int .i64 p.wh, .int .i64 p.sr, .int .i64 p.tr, .int .i64 p.pi, .int .i64 p.le, .int .i64 p.zo] 25) = W at hb0 bx
  have hne := bw_ne W
  obtain ⟨k0, k1, k2, k3, k4, k5, k6⟩ : CellsPt _ _ _ := bx.cells
  have c0 := fun x : BW W => x.cell k0
  have c1 := fun x : BW W => x.cell k1
  have c2 := fun x : BW W => x.cell k2
  have c3 := fun x : BW W => x.cell k3
  have c4 := fun x : BW W => x.cell k4
  have c5 := fun x : BW W => x.cell k5
  have c6 := fun x : BW W => x.cell k6
  clear k0 k1 k2 k3 k4 k5 k6
  go_enter Tryz.func71, Tryz.ntmps71
  try simp only [List.append_eq, List.cons_append, List.nil_append]
  go_wp2_with fail
  refine wp_region_below_lit (W := W) 40 (by kernel_rfl) (by kernel_rfl) (by decide) (Below.refl _ _) (by intro c d v a w h; cases d <;> exact h) ?_
  simp only [List.take_succ_cons, List.take_zero, List.drop_succ_cons, List.drop_zero]
  repeat (go_big_quiet_step (first | (go_at_call 75; refine quiet_below_same (between_any _ _ _ _)) | (go_at_call 119; refine quiet_below_same (isAmount_any _ _)) | (go_at_call 118; refine quiet_below (HK.out _))))
  refine wpQuiet_nil ?_
  rintro _ ⟨x, rfl⟩
  go_wp2
  go_ret
  exact ⟨ret_bool' HP.out.symm, below_app hb0 x.h hb0.size⟩
set_option maxHeartbeats 4000000 in
theorem pti_6 (p : Pt) (w : World) (hs : smPt p (oiK p) = true) (h0 : ib p.kd 1 6 = true) (h1 : ib p.wh 0 2 = true) (h2 : ib p.sr 0 99 = true) (h3 : ib p.tr 0 63 = true) (h4 : ib p.pi 0 99 = true) (h5 : ib p.le 0 2147483647 = true) (h6 : ib p.zo 0 4 = false) : Calls Tryz.prog 71 #[(.agg #[.int .i64 p.kd, .int .i64 p.wh, .int .i64 p.sr, .int .i64 p.tr, .int .i64 p.pi, .int .i64 p.le, .int .i64 p.zo])] w fun e w' => e = .returned (.bool (okPt p)) ∧ Below w.heap.size w w' := by
  have HP : Hid (okPt p = false) := by
    show okPt p = false
    rw [okPt_is]; unfold okT7; rw [h6]; simp
  have EQ := fun v : World => run_eq_pat p (oiK p) v
  have HK : Hid (∀ v : World, Calls Tryz.prog 118 #[(.agg #[.int .i64 p.kd, .int .i64 p.wh, .int .i64 p.sr, .int .i64 p.tr, .int .i64 p.pi, .int .i64 p.le, .int .i64 p.zo])] v fun e w' => e = .returned (.agg #[.int .i64 (oiK p).kd, .int .i64 (oiK p).wh, .int .i64 (oiK p).sr, .int .i64 (oiK p).tr, .int .i64 (oiK p).pi, .int .i64 (oiK p).le, .int .i64 (oiK p).zo]) ∧ Below v.heap.size v w') := ofItsKind_any p
  generalize oiK p = q at *
  have hb0 := (Below.refl _ w).alloc (Nat.le_refl _) (.cells #[.int .i64 p.kd, .int .i64 p.wh, .int .i64 p.sr, .int .i64 p.tr, .int .i64 p.pi, .int .i64 p.le, .int .i64 p.zo] 25)
  have bx := boxPt_new w 25 p
  generalize hW : w.alloc (.cells #[.int .i64 p.kd, .int .i64 p.wh, .int .i64 p.sr, .int .i64 p.tr, .int .i64 p.pi, .int .i64 p.le, .int .i64 p.zo] 25) = W at hb0 bx
  have hne := bw_ne W
  obtain ⟨k0, k1, k2, k3, k4, k5, k6⟩ : CellsPt _ _ _ := bx.cells
  have c0 := fun x : BW W => x.cell k0
  have c1 := fun x : BW W => x.cell k1
  have c2 := fun x : BW W => x.cell k2
  have c3 := fun x : BW W => x.cell k3
  have c4 := fun x : BW W => x.cell k4
  have c5 := fun x : BW W => x.cell k5
  have c6 := fun x : BW W => x.cell k6
  clear k0 k1 k2 k3 k4 k5 k6
  go_enter Tryz.func71, Tryz.ntmps71
  try simp only [List.append_eq, List.cons_append, List.nil_append]
  go_wp2_with fail
  refine wp_region_below_lit (W := W) 40 (by kernel_rfl) (by kernel_rfl) (by decide) (Below.refl _ _) (by intro c d v a w h; cases d <;> exact h) ?_
  simp only [List.take_succ_cons, List.take_zero, List.drop_succ_cons, List.drop_zero]
  repeat (go_big_quiet_step (first | (go_at_call 75; refine quiet_below_same (between_any _ _ _ _)) | (go_at_call 119; refine quiet_below_same (isAmount_any _ _)) | (go_at_call 118; refine quiet_below (HK.out _))))
  refine wpQuiet_nil ?_
  rintro _ ⟨x, rfl⟩
  go_wp2
  go_ret
  exact ⟨ret_bool' HP.out.symm, below_app hb0 x.h hb0.size⟩
set_option maxHeartbeats 4000000 in
theorem pti_all (p : Pt) (w : World) (hs : smPt p (oiK p) = true) (h0 : ib p.kd 1 6 = true) (h1 : ib p.wh 0 2 = true) (h2 : ib p.sr 0 99 = true) (h3 : ib p.tr 0 63 = true) (h4 : ib p.pi 0 99 = true) (h5 : ib p.le 0 2147483647 = true) (h6 : ib p.zo 0 4 = true) : Calls Tryz.prog 71 #[(.agg #[.int .i64 p.kd, .int .i64 p.wh, .int .i64 p.sr, .int .i64 p.tr, .int .i64 p.pi, .int .i64 p.le, .int .i64 p.zo])] w fun e w' => e = .returned (.bool (okPt p)) ∧ Below w.heap.size w w' := by
  have HP : Hid (okPt p = true) := by
    show okPt p = true
    rw [okPt_is]; unfold okT7; rw [hs, h0, h1, h2, h3, h4, h5, h6]; rfl
  have EQ := fun v : World => run_eq_pat p (oiK p) v
  have HK : Hid (∀ v : World, Calls Tryz.prog 118 #[(.agg #[.int .i64 p.kd, .int .i64 p.wh, .int .i64 p.sr, .int .i64 p.tr, .int .i64 p.pi, .int .i64 p.le, .int .i64 p.zo])] v fun e w' => e = .returned (.agg #[.int .i64 (oiK p).kd, .int .i64 (oiK p).wh, .int .i64 (oiK p).sr, .int .i64 (oiK p).tr, .int .i64 (oiK p).pi, .int .i64 (oiK p).le, .int .i64 (oiK p).zo]) ∧ Below v.heap.size v w') := ofItsKind_any p
  generalize oiK p = q at *
  have hb0 := (Below.refl _ w).alloc (Nat.le_refl _) (.cells #[.int .i64 p.kd, .int .i64 p.wh, .int .i64 p.sr, .int .i64 p.tr, .int .i64 p.pi, .int .i64 p.le, .int .i64 p.zo] 25)
  have bx := boxPt_new w 25 p
  generalize hW : w.alloc (.cells #[.int .i64 p.kd, .int .i64 p.wh, .int .i64 p.sr, .int .i64 p.tr, .int .i64 p.pi, .int .i64 p.le, .int .i64 p.zo] 25) = W at hb0 bx
  have hne := bw_ne W
  obtain ⟨k0, k1, k2, k3, k4, k5, k6⟩ : CellsPt _ _ _ := bx.cells
  have c0 := fun x : BW W => x.cell k0
  have c1 := fun x : BW W => x.cell k1
  have c2 := fun x : BW W => x.cell k2
  have c3 := fun x : BW W => x.cell k3
  have c4 := fun x : BW W => x.cell k4
  have c5 := fun x : BW W => x.cell k5
  have c6 := fun x : BW W => x.cell k6
  clear k0 k1 k2 k3 k4 k5 k6
  go_enter Tryz.func71, Tryz.ntmps71
  try simp only [List.append_eq, List.cons_append, List.nil_append]
  go_wp2_with fail
  refine wp_region_below_lit (W := W) 40 (by kernel_rfl) (by kernel_rfl) (by decide) (Below.refl _ _) (by intro c d v a w h; cases d <;> exact h) ?_
  simp only [List.take_succ_cons, List.take_zero, List.drop_succ_cons, List.drop_zero]
  repeat (go_big_quiet_step (first | (go_at_call 75; refine quiet_below_same (between_any _ _ _ _)) | (go_at_call 119; refine quiet_below_same (isAmount_any _ _)) | (go_at_call 118; refine quiet_below (HK.out _))))
  refine wpQuiet_nil ?_
  rintro _ ⟨x, rfl⟩
  go_wp2
  go_ret
  exact ⟨ret_bool' HP.out.symm, below_app hb0 x.h hb0.size⟩
theorem implPatOk_any (p : Pt) (w : World) : Calls Tryz.prog 71 #[(.agg #[.int .i64 p.kd, .int .i64 p.wh, .int .i64 p.sr, .int .i64 p.tr, .int .i64 p.pi, .int .i64 p.le, .int .i64 p.zo])] w fun e w' => e = .returned (.bool (okPt p)) ∧ Below w.heap.size w w' := by
  cases hs : smPt p (oiK p)
  · exact pti_s p w hs
  cases h0 : ib p.kd 1 6
  · exact pti_0 p w hs h0
  cases h1 : ib p.wh 0 2
  · exact pti_1 p w hs h0 h1
  cases h2 : ib p.sr 0 99
  · exact pti_2 p w hs h0 h1 h2
  cases h3 : ib p.tr 0 63
  · exact pti_3 p w hs h0 h1 h2 h3
  cases h4 : ib p.pi 0 99
  · exact pti_4 p w hs h0 h1 h2 h3 h4
  cases h5 : ib p.le 0 2147483647
  · exact pti_5 p w hs h0 h1 h2 h3 h4 h5
  cases h6 : ib p.zo 0 4
  · exact pti_6 p w hs h0 h1 h2 h3 h4 h5 h6
  exact pti_all p w hs h0 h1 h2 h3 h4 h5 h6
end Go.Proofs.YtodfdfncdoliiadGreat
