/-
  Chapter 7: the specification's PatOk (okPt): one walk for each test that may be the first to fail. Written by tools/pa.gen.py. Chapter 8: the specification's GuardOk (okGd), Stronger (srG). Written by tools/gu.gen.py. Own work.
-/
import Derived.Test.YtodfdfncdoliiauGreatGPaA3
namespace Go.Proofs.YtodfdfncdoliiauGreat
open Go.ChangeShapes Go.WideShapes Go.ChangeAt Go.RowKit
set_option maxRecDepth 100000
set_option linter.unusedVariables false
set_option linter.unusedSimpArgs false

def okT7 (p : Pt) : Bool := ib p.kd 1 6 && ib p.wh 0 2 && ib p.pi 0 99 && ib p.le 0 2147483647 && ib p.sr 0 99 && ib p.tr 0 63 && ib p.zo 0 4
/-- whether what is asked for may be asked for -/
def okPt (p : Pt) : Bool := okT7 p && (decide (p.kd = 1) || (decide (p.sr = 0) && decide (p.tr = 0))) && (decide (p.kd = 2) || decide (p.zo = 0)) && ((!decide (p.kd = 3) && !decide (p.kd = 4)) || decide (p.pi = 0))
set_option maxHeartbeats 4000000 in
theorem spt_0 (p : Pt) (w : World)  (h0 : ib p.kd 1 6 = false) : Calls Tryz.prog 56 #[(.agg #[.int .i64 p.kd, .int .i64 p.wh, .int .i64 p.sr, .int .i64 p.tr, .int .i64 p.pi, .int .i64 p.le, .int .i64 p.zo])] w fun e w' => e = .returned (.bool (okPt p)) ∧ Below w.heap.size w w' := by
  have HP : Hid (okPt p = false) := by
    show okPt p = false
    unfold okPt okT7; rw [h0]; simp
  go_enter Tryz.func56, Tryz.ntmps56
  try simp only [List.append_eq, List.cons_append, List.nil_append]
  go_wp2_with (go_at_call 55; refine (l1In_any _ _ _ _).mono ?_; rintro e w' ⟨rfl, rfl⟩)
  go_ret
  first
    | exact ⟨ret_bool' HP.out.symm, (Below.refl _ w).alloc (Nat.le_refl _) _⟩
    | (refine ⟨ret_bool' ?_, (Below.refl _ w).alloc (Nat.le_refl _) _⟩; rw [HP.out]; simp [*])
set_option maxHeartbeats 4000000 in
theorem spt_1 (p : Pt) (w : World) (h0 : ib p.kd 1 6 = true) (h1 : ib p.wh 0 2 = false) : Calls Tryz.prog 56 #[(.agg #[.int .i64 p.kd, .int .i64 p.wh, .int .i64 p.sr, .int .i64 p.tr, .int .i64 p.pi, .int .i64 p.le, .int .i64 p.zo])] w fun e w' => e = .returned (.bool (okPt p)) ∧ Below w.heap.size w w' := by
  have HP : Hid (okPt p = false) := by
    show okPt p = false
    unfold okPt okT7; rw [h1]; simp
  go_enter Tryz.func56, Tryz.ntmps56
  try simp only [List.append_eq, List.cons_append, List.nil_append]
  go_wp2_with (go_at_call 55; refine (l1In_any _ _ _ _).mono ?_; rintro e w' ⟨rfl, rfl⟩)
  go_ret
  first
    | exact ⟨ret_bool' HP.out.symm, (Below.refl _ w).alloc (Nat.le_refl _) _⟩
    | (refine ⟨ret_bool' ?_, (Below.refl _ w).alloc (Nat.le_refl _) _⟩; rw [HP.out]; simp [*])
set_option maxHeartbeats 4000000 in
theorem spt_2 (p : Pt) (w : World) (h0 : ib p.kd 1 6 = true) (h1 : ib p.wh 0 2 = true) (h2 : ib p.pi 0 99 = false) : Calls Tryz.prog 56 #[(.agg #[.int .i64 p.kd, .int .i64 p.wh, .int .i64 p.sr, .int .i64 p.tr, .int .i64 p.pi, .int .i64 p.le, .int .i64 p.zo])] w fun e w' => e = .returned (.bool (okPt p)) ∧ Below w.heap.size w w' := by
  have HP : Hid (okPt p = false) := by
    show okPt p = false
    unfold okPt okT7; rw [h2]; simp
  go_enter Tryz.func56, Tryz.ntmps56
  try simp only [List.append_eq, List.cons_append, List.nil_append]
  go_wp2_with (go_at_call 55; refine (l1In_any _ _ _ _).mono ?_; rintro e w' ⟨rfl, rfl⟩)
  go_ret
  first
    | exact ⟨ret_bool' HP.out.symm, (Below.refl _ w).alloc (Nat.le_refl _) _⟩
    | (refine ⟨ret_bool' ?_, (Below.refl _ w).alloc (Nat.le_refl _) _⟩; rw [HP.out]; simp [*])
set_option maxHeartbeats 4000000 in
theorem spt_3 (p : Pt) (w : World) (h0 : ib p.kd 1 6 = true) (h1 : ib p.wh 0 2 = true) (h2 : ib p.pi 0 99 = true) (h3 : ib p.le 0 2147483647 = false) : Calls Tryz.prog 56 #[(.agg #[.int .i64 p.kd, .int .i64 p.wh, .int .i64 p.sr, .int .i64 p.tr, .int .i64 p.pi, .int .i64 p.le, .int .i64 p.zo])] w fun e w' => e = .returned (.bool (okPt p)) ∧ Below w.heap.size w w' := by
  have HP : Hid (okPt p = false) := by
    show okPt p = false
    unfold okPt okT7; rw [h3]; simp
  go_enter Tryz.func56, Tryz.ntmps56
  try simp only [List.append_eq, List.cons_append, List.nil_append]
  go_wp2_with (go_at_call 55; refine (l1In_any _ _ _ _).mono ?_; rintro e w' ⟨rfl, rfl⟩)
  go_ret
  first
    | exact ⟨ret_bool' HP.out.symm, (Below.refl _ w).alloc (Nat.le_refl _) _⟩
    | (refine ⟨ret_bool' ?_, (Below.refl _ w).alloc (Nat.le_refl _) _⟩; rw [HP.out]; simp [*])
set_option maxHeartbeats 4000000 in
theorem spt_4 (p : Pt) (w : World) (h0 : ib p.kd 1 6 = true) (h1 : ib p.wh 0 2 = true) (h2 : ib p.pi 0 99 = true) (h3 : ib p.le 0 2147483647 = true) (h4 : ib p.sr 0 99 = false) : Calls Tryz.prog 56 #[(.agg #[.int .i64 p.kd, .int .i64 p.wh, .int .i64 p.sr, .int .i64 p.tr, .int .i64 p.pi, .int .i64 p.le, .int .i64 p.zo])] w fun e w' => e = .returned (.bool (okPt p)) ∧ Below w.heap.size w w' := by
  have HP : Hid (okPt p = false) := by
    show okPt p = false
    unfold okPt okT7; rw [h4]; simp
  go_enter Tryz.func56, Tryz.ntmps56
  try simp only [List.append_eq, List.cons_append, List.nil_append]
  go_wp2_with (go_at_call 55; refine (l1In_any _ _ _ _).mono ?_; rintro e w' ⟨rfl, rfl⟩)
  go_ret
  first
    | exact ⟨ret_bool' HP.out.symm, (Below.refl _ w).alloc (Nat.le_refl _) _⟩
    | (refine ⟨ret_bool' ?_, (Below.refl _ w).alloc (Nat.le_refl _) _⟩; rw [HP.out]; simp [*])
set_option maxHeartbeats 4000000 in
theorem spt_5 (p : Pt) (w : World) (h0 : ib p.kd 1 6 = true) (h1 : ib p.wh 0 2 = true) (h2 : ib p.pi 0 99 = true) (h3 : ib p.le 0 2147483647 = true) (h4 : ib p.sr 0 99 = true) (h5 : ib p.tr 0 63 = false) : Calls Tryz.prog 56 #[(.agg #[.int .i64 p.kd, .int .i64 p.wh, .int .i64 p.sr, .int .i64 p.tr, .int .i64 p.pi, .int .i64 p.le, .int .i64 p.zo])] w fun e w' => e = .returned (.bool (okPt p)) ∧ Below w.heap.size w w' := by
  have HP : Hid (okPt p = false) := by
    show okPt p = false
    unfold okPt okT7; rw [h5]; simp
  go_enter Tryz.func56, Tryz.ntmps56
  try simp only [List.append_eq, List.cons_append, List.nil_append]
  go_wp2_with (go_at_call 55; refine (l1In_any _ _ _ _).mono ?_; rintro e w' ⟨rfl, rfl⟩)
  go_ret
  first
    | exact ⟨ret_bool' HP.out.symm, (Below.refl _ w).alloc (Nat.le_refl _) _⟩
    | (refine ⟨ret_bool' ?_, (Below.refl _ w).alloc (Nat.le_refl _) _⟩; rw [HP.out]; simp [*])
set_option maxHeartbeats 4000000 in
theorem spt_6 (p : Pt) (w : World) (h0 : ib p.kd 1 6 = true) (h1 : ib p.wh 0 2 = true) (h2 : ib p.pi 0 99 = true) (h3 : ib p.le 0 2147483647 = true) (h4 : ib p.sr 0 99 = true) (h5 : ib p.tr 0 63 = true) (h6 : ib p.zo 0 4 = false) : Calls Tryz.prog 56 #[(.agg #[.int .i64 p.kd, .int .i64 p.wh, .int .i64 p.sr, .int .i64 p.tr, .int .i64 p.pi, .int .i64 p.le, .int .i64 p.zo])] w fun e w' => e = .returned (.bool (okPt p)) ∧ Below w.heap.size w w' := by
  have HP : Hid (okPt p = false) := by
    show okPt p = false
    unfold okPt okT7; rw [h6]; simp
  go_enter Tryz.func56, Tryz.ntmps56
  try simp only [List.append_eq, List.cons_append, List.nil_append]
  go_wp2_with (go_at_call 55; refine (l1In_any _ _ _ _).mono ?_; rintro e w' ⟨rfl, rfl⟩)
  go_ret
  first
    | exact ⟨ret_bool' HP.out.symm, (Below.refl _ w).alloc (Nat.le_refl _) _⟩
    | (refine ⟨ret_bool' ?_, (Below.refl _ w).alloc (Nat.le_refl _) _⟩; rw [HP.out]; simp [*])
set_option maxHeartbeats 4000000 in
theorem spt_all (p : Pt) (w : World) (h0 : ib p.kd 1 6 = true) (h1 : ib p.wh 0 2 = true) (h2 : ib p.pi 0 99 = true) (h3 : ib p.le 0 2147483647 = true) (h4 : ib p.sr 0 99 = true) (h5 : ib p.tr 0 63 = true) (h6 : ib p.zo 0 4 = true) : Calls Tryz.prog 56 #[(.agg #[.int .i64 p.kd, .int .i64 p.wh, .int .i64 p.sr, .int .i64 p.tr, .int .i64 p.pi, .int .i64 p.le, .int .i64 p.zo])] w fun e w' => e = .returned (.bool (okPt p)) ∧ Below w.heap.size w w' := by
  have HP : Hid (okT7 p = true) := by
    show okT7 p = true
    unfold okT7; rw [h0, h1, h2, h3, h4, h5, h6]; rfl
  go_enter Tryz.func56, Tryz.ntmps56
  try simp only [List.append_eq, List.cons_append, List.nil_append]
  go_wp2_with (go_at_call 55; refine (l1In_any _ _ _ _).mono ?_; rintro e w' ⟨rfl, rfl⟩)
  all_goals go_ret
  all_goals refine ⟨ret_bool' ?_, (Below.refl _ w).alloc (Nat.le_refl _) _⟩
  all_goals (clear h0 h1 h2 h3 h4 h5 h6; unfold okPt; rw [HP.out]; clear HP; simp_all <;> (rw [Bool.eq_iff_iff]; simp))
theorem specPatOk_any (p : Pt) (w : World) : Calls Tryz.prog 56 #[(.agg #[.int .i64 p.kd, .int .i64 p.wh, .int .i64 p.sr, .int .i64 p.tr, .int .i64 p.pi, .int .i64 p.le, .int .i64 p.zo])] w fun e w' => e = .returned (.bool (okPt p)) ∧ Below w.heap.size w w' := by
  cases h0 : ib p.kd 1 6
  · exact spt_0 p w h0
  cases h1 : ib p.wh 0 2
  · exact spt_1 p w h0 h1
  cases h2 : ib p.pi 0 99
  · exact spt_2 p w h0 h1 h2
  cases h3 : ib p.le 0 2147483647
  · exact spt_3 p w h0 h1 h2 h3
  cases h4 : ib p.sr 0 99
  · exact spt_4 p w h0 h1 h2 h3 h4
  cases h5 : ib p.tr 0 63
  · exact spt_5 p w h0 h1 h2 h3 h4 h5
  cases h6 : ib p.zo 0 4
  · exact spt_6 p w h0 h1 h2 h3 h4 h5 h6
  exact spt_all p w h0 h1 h2 h3 h4 h5 h6
end Go.Proofs.YtodfdfncdoliiauGreat
namespace Go.Proofs.YtodfdfncdoliiauGreat
open Go.ChangeShapes Go.WideShapes Go.ChangeAt Go.RowKit
set_option maxRecDepth 100000
set_option linter.unusedVariables false
set_option linter.unusedSimpArgs false

/-- whether a guard may be asked -/
def okGd (g : Gd) : Bool := bif decide (g.kd = 0) || decide (g.kd = 3) then decide (g.nn = 0) else bif decide (g.kd = 1) then ib g.nn (-2147483647) 2147483647 else (decide (g.kd = 2) || decide (g.kd = 4)) && ib g.nn 0 8
/-- whether the one holds wherever the other does -/
def srG (g h : Gd) : Bool := okGd g && okGd h && (decide (h.kd = 0) || (decide (g.kd = h.kd) && (bif decide (g.kd = 1) then decide (g.nn ≤ h.nn) else decide (h.nn ≤ g.nn))))
set_option maxHeartbeats 2000000 in
theorem sgk_0 (nn : Int) (w : World) : Calls Tryz.prog 57 #[(.agg #[.int .i64 0, .int .i64 nn])] w fun e w' => e = .returned (.bool (okGd (⟨0, nn⟩ : Gd))) ∧ Below w.heap.size w w' := by
  go_enter Tryz.func57, Tryz.ntmps57
  go_wp2_with (go_at_call 55; refine (l1In_any _ _ _ _).mono ?_; rintro e w' ⟨rfl, rfl⟩)
  all_goals go_ret
  all_goals exact ⟨ret_bool' (by unfold okGd; first | (simp_all; done) | (simp_all <;> (rw [Bool.eq_iff_iff]; simp))), (Below.refl _ w).alloc (Nat.le_refl _) _⟩

set_option maxHeartbeats 2000000 in
theorem sgk_1 (nn : Int) (w : World) : Calls Tryz.prog 57 #[(.agg #[.int .i64 1, .int .i64 nn])] w fun e w' => e = .returned (.bool (okGd (⟨1, nn⟩ : Gd))) ∧ Below w.heap.size w w' := by
  go_enter Tryz.func57, Tryz.ntmps57
  go_wp2_with (go_at_call 55; refine (l1In_any _ _ _ _).mono ?_; rintro e w' ⟨rfl, rfl⟩)
  all_goals go_ret
  all_goals exact ⟨ret_bool' (by unfold okGd; first | (simp_all; done) | (simp_all <;> (rw [Bool.eq_iff_iff]; simp))), (Below.refl _ w).alloc (Nat.le_refl _) _⟩

set_option maxHeartbeats 2000000 in
theorem sgk_2 (nn : Int) (w : World) : Calls Tryz.prog 57 #[(.agg #[.int .i64 2, .int .i64 nn])] w fun e w' => e = .returned (.bool (okGd (⟨2, nn⟩ : Gd))) ∧ Below w.heap.size w w' := by
  go_enter Tryz.func57, Tryz.ntmps57
  go_wp2_with (go_at_call 55; refine (l1In_any _ _ _ _).mono ?_; rintro e w' ⟨rfl, rfl⟩)
  all_goals go_ret
  all_goals exact ⟨ret_bool' (by unfold okGd; first | (simp_all; done) | (simp_all <;> (rw [Bool.eq_iff_iff]; simp))), (Below.refl _ w).alloc (Nat.le_refl _) _⟩

set_option maxHeartbeats 2000000 in
theorem sgk_3 (nn : Int) (w : World) : Calls Tryz.prog 57 #[(.agg #[.int .i64 3, .int .i64 nn])] w fun e w' => e = .returned (.bool (okGd (⟨3, nn⟩ : Gd))) ∧ Below w.heap.size w w' := by
  go_enter Tryz.func57, Tryz.ntmps57
  go_wp2_with (go_at_call 55; refine (l1In_any _ _ _ _).mono ?_; rintro e w' ⟨rfl, rfl⟩)
  all_goals go_ret
  all_goals exact ⟨ret_bool' (by unfold okGd; first | (simp_all; done) | (simp_all <;> (rw [Bool.eq_iff_iff]; simp))), (Below.refl _ w).alloc (Nat.le_refl _) _⟩

set_option maxHeartbeats 2000000 in
theorem sgk_4 (nn : Int) (w : World) : Calls Tryz.prog 57 #[(.agg #[.int .i64 4, .int .i64 nn])] w fun e w' => e = .returned (.bool (okGd (⟨4, nn⟩ : Gd))) ∧ Below w.heap.size w w' := by
  go_enter Tryz.func57, Tryz.ntmps57
  go_wp2_with (go_at_call 55; refine (l1In_any _ _ _ _).mono ?_; rintro e w' ⟨rfl, rfl⟩)
  all_goals go_ret
  all_goals exact ⟨ret_bool' (by unfold okGd; first | (simp_all; done) | (simp_all <;> (rw [Bool.eq_iff_iff]; simp))), (Below.refl _ w).alloc (Nat.le_refl _) _⟩

set_option maxHeartbeats 2000000 in
theorem sgk_x (g : Gd) (w : World) (h0 : (g.kd == 0) = false) (h1 : (g.kd == 1) = false) (h2 : (g.kd == 2) = false) (h3 : (g.kd == 3) = false) (h4 : (g.kd == 4) = false) : Calls Tryz.prog 57 #[(.agg #[.int .i64 g.kd, .int .i64 g.nn])] w fun e w' => e = .returned (.bool (okGd g)) ∧ Below w.heap.size w w' := by
  go_enter Tryz.func57, Tryz.ntmps57
  go_wp2_with (go_at_call 55; refine (l1In_any _ _ _ _).mono ?_; rintro e w' ⟨rfl, rfl⟩)
  all_goals go_ret
  all_goals exact ⟨ret_bool' (by unfold okGd; first | (simp_all; done) | (simp_all <;> (rw [Bool.eq_iff_iff]; simp))), (Below.refl _ w).alloc (Nat.le_refl _) _⟩

theorem specGuardOk_any (g : Gd) (w : World) : Calls Tryz.prog 57 #[(.agg #[.int .i64 g.kd, .int .i64 g.nn])] w fun e w' => e = .returned (.bool (okGd g)) ∧ Below w.heap.size w w' := by
  cases h0 : (g.kd == 0)
  case true =>
    obtain ⟨kd, nn⟩ := g
    have e : kd = 0 := by simpa using h0
    subst e
    exact sgk_0 nn w
  cases h1 : (g.kd == 1)
  case true =>
    obtain ⟨kd, nn⟩ := g
    have e : kd = 1 := by simpa using h1
    subst e
    exact sgk_1 nn w
  cases h2 : (g.kd == 2)
  case true =>
    obtain ⟨kd, nn⟩ := g
    have e : kd = 2 := by simpa using h2
    subst e
    exact sgk_2 nn w
  cases h3 : (g.kd == 3)
  case true =>
    obtain ⟨kd, nn⟩ := g
    have e : kd = 3 := by simpa using h3
    subst e
    exact sgk_3 nn w
  cases h4 : (g.kd == 4)
  case true =>
    obtain ⟨kd, nn⟩ := g
    have e : kd = 4 := by simpa using h4
    subst e
    exact sgk_4 nn w
  exact sgk_x g w h0 h1 h2 h3 h4
end Go.Proofs.YtodfdfncdoliiauGreat
