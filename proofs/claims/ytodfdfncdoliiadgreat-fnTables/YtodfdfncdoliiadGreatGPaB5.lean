/-
  Chapter 7: the specification's PatOk (okPt): one walk for each test that may be the first to fail. Written by tools/pa.gen.py. Chapter 8: the specification's GuardOk (okGd), Stronger (srG). Written by tools/gu.gen.py. Chapter 10: the specification's EffectOk (okEf), Lives (lvE), Near (nrE). Written by tools/ef.gen.py. Contracts of chapter 2's amounts in bytes (numBytes, joined, cut, PutNum, GetNum and the specification's). The specification's PieceAt, OnField. Own work.
-/
import Derived.Test.YtodfdfncdoliiadGreatGPaA4
import Derived.Test.YtodfdfncdoliiadGreatGEfC3
import Derived.Test.YtodfdfncdoliiadGreatAcD
import Derived.Deep.DeepCutAuto
import Derived.Deep.CutBlock
import Derived.Test.YtodfdfncdoliiadGreatGCur5
import Derived.Test.YtodfdfncdoliiadGreatGEvA3
import Derived.Test.YtodfdfncdoliiadGreatGState52
namespace Go.Proofs.YtodfdfncdoliiadGreat
open Go.ChangeShapes Go.WideShapes Go.ChangeAt Go.RowKit
set_option maxRecDepth 100000
set_option linter.unusedVariables false
set_option linter.unusedSimpArgs false

def okT7 (p : Pt) : Bool := ib p.kd 1 6 && ib p.wh 0 2 && ib p.pi 0 99 && ib p.le 0 2147483647 && ib p.sr 0 99 && ib p.tr 0 63 && ib p.zo 0 4
/-- whether what is asked for may be asked for -/
def okPt (p : Pt) : Bool := okT7 p && (decide (p.kd = 1) || (decide (p.sr = 0) && decide (p.tr = 0))) && (decide (p.kd = 2) || decide (p.zo = 0)) && ((!decide (p.kd = 3) && !decide (p.kd = 4)) || decide (p.pi = 0))
set_option maxHeartbeats 4000000 in
theorem spt_0 (p : Pt) (w : World)  (h0 : ib p.kd 1 6 = false) : Calls Tryz.prog 64 #[(.agg #[.int .i64 p.kd, .int .i64 p.wh, .int .i64 p.sr, .int .i64 p.tr, .int .i64 p.pi, .int .i64 p.le, .int .i64 p.zo])] w fun e w' => e = .returned (.bool (okPt p)) ∧ Below w.heap.size w w' := by
  have HP : Hid (okPt p = false) := by
    show okPt p = false
    unfold okPt okT7; rw [h0]; simp
  go_enter Tryz.func64, Tryz.ntmps64
  try simp only [List.append_eq, List.cons_append, List.nil_append]
  go_wp2_with (go_at_call 63; refine (l1In_any _ _ _ _).mono ?_; rintro e w' ⟨rfl, rfl⟩)
  go_ret
  first
    | exact ⟨ret_bool' HP.out.symm, (Below.refl _ w).alloc (Nat.le_refl _) _⟩
    | (refine ⟨ret_bool' ?_, (Below.refl _ w).alloc (Nat.le_refl _) _⟩; rw [HP.out]; simp [*])
set_option maxHeartbeats 4000000 in
theorem spt_1 (p : Pt) (w : World) (h0 : ib p.kd 1 6 = true) (h1 : ib p.wh 0 2 = false) : Calls Tryz.prog 64 #[(.agg #[.int .i64 p.kd, .int .i64 p.wh, .int .i64 p.sr, .int .i64 p.tr, .int .i64 p.pi, .int .i64 p.le, .int .i64 p.zo])] w fun e w' => e = .returned (.bool (okPt p)) ∧ Below w.heap.size w w' := by
  have HP : Hid (okPt p = false) := by
    show okPt p = false
    unfold okPt okT7; rw [h1]; simp
  go_enter Tryz.func64, Tryz.ntmps64
  try simp only [List.append_eq, List.cons_append, List.nil_append]
  go_wp2_with (go_at_call 63; refine (l1In_any _ _ _ _).mono ?_; rintro e w' ⟨rfl, rfl⟩)
  go_ret
  first
    | exact ⟨ret_bool' HP.out.symm, (Below.refl _ w).alloc (Nat.le_refl _) _⟩
    | (refine ⟨ret_bool' ?_, (Below.refl _ w).alloc (Nat.le_refl _) _⟩; rw [HP.out]; simp [*])
set_option maxHeartbeats 4000000 in
theorem spt_2 (p : Pt) (w : World) (h0 : ib p.kd 1 6 = true) (h1 : ib p.wh 0 2 = true) (h2 : ib p.pi 0 99 = false) : Calls Tryz.prog 64 #[(.agg #[.int .i64 p.kd, .int .i64 p.wh, .int .i64 p.sr, .int .i64 p.tr, .int .i64 p.pi, .int .i64 p.le, .int .i64 p.zo])] w fun e w' => e = .returned (.bool (okPt p)) ∧ Below w.heap.size w w' := by
  have HP : Hid (okPt p = false) := by
    show okPt p = false
    unfold okPt okT7; rw [h2]; simp
  go_enter Tryz.func64, Tryz.ntmps64
  try simp only [List.append_eq, List.cons_append, List.nil_append]
  go_wp2_with (go_at_call 63; refine (l1In_any _ _ _ _).mono ?_; rintro e w' ⟨rfl, rfl⟩)
  go_ret
  first
    | exact ⟨ret_bool' HP.out.symm, (Below.refl _ w).alloc (Nat.le_refl _) _⟩
    | (refine ⟨ret_bool' ?_, (Below.refl _ w).alloc (Nat.le_refl _) _⟩; rw [HP.out]; simp [*])
set_option maxHeartbeats 4000000 in
theorem spt_3 (p : Pt) (w : World) (h0 : ib p.kd 1 6 = true) (h1 : ib p.wh 0 2 = true) (h2 : ib p.pi 0 99 = true) (h3 : ib p.le 0 2147483647 = false) : Calls Tryz.prog 64 #[(.agg #[.int .i64 p.kd, .int .i64 p.wh, .int .i64 p.sr, .int .i64 p.tr, .int .i64 p.pi, .int .i64 p.le, .int .i64 p.zo])] w fun e w' => e = .returned (.bool (okPt p)) ∧ Below w.heap.size w w' := by
  have HP : Hid (okPt p = false) := by
    show okPt p = false
    unfold okPt okT7; rw [h3]; simp
  go_enter Tryz.func64, Tryz.ntmps64
  try simp only [List.append_eq, List.cons_append, List.nil_append]
  go_wp2_with (go_at_call 63; refine (l1In_any _ _ _ _).mono ?_; rintro e w' ⟨rfl, rfl⟩)
  go_ret
  first
    | exact ⟨ret_bool' HP.out.symm, (Below.refl _ w).alloc (Nat.le_refl _) _⟩
    | (refine ⟨ret_bool' ?_, (Below.refl _ w).alloc (Nat.le_refl _) _⟩; rw [HP.out]; simp [*])
set_option maxHeartbeats 4000000 in
theorem spt_4 (p : Pt) (w : World) (h0 : ib p.kd 1 6 = true) (h1 : ib p.wh 0 2 = true) (h2 : ib p.pi 0 99 = true) (h3 : ib p.le 0 2147483647 = true) (h4 : ib p.sr 0 99 = false) : Calls Tryz.prog 64 #[(.agg #[.int .i64 p.kd, .int .i64 p.wh, .int .i64 p.sr, .int .i64 p.tr, .int .i64 p.pi, .int .i64 p.le, .int .i64 p.zo])] w fun e w' => e = .returned (.bool (okPt p)) ∧ Below w.heap.size w w' := by
  have HP : Hid (okPt p = false) := by
    show okPt p = false
    unfold okPt okT7; rw [h4]; simp
  go_enter Tryz.func64, Tryz.ntmps64
  try simp only [List.append_eq, List.cons_append, List.nil_append]
  go_wp2_with (go_at_call 63; refine (l1In_any _ _ _ _).mono ?_; rintro e w' ⟨rfl, rfl⟩)
  go_ret
  first
    | exact ⟨ret_bool' HP.out.symm, (Below.refl _ w).alloc (Nat.le_refl _) _⟩
    | (refine ⟨ret_bool' ?_, (Below.refl _ w).alloc (Nat.le_refl _) _⟩; rw [HP.out]; simp [*])
set_option maxHeartbeats 4000000 in
theorem spt_5 (p : Pt) (w : World) (h0 : ib p.kd 1 6 = true) (h1 : ib p.wh 0 2 = true) (h2 : ib p.pi 0 99 = true) (h3 : ib p.le 0 2147483647 = true) (h4 : ib p.sr 0 99 = true) (h5 : ib p.tr 0 63 = false) : Calls Tryz.prog 64 #[(.agg #[.int .i64 p.kd, .int .i64 p.wh, .int .i64 p.sr, .int .i64 p.tr, .int .i64 p.pi, .int .i64 p.le, .int .i64 p.zo])] w fun e w' => e = .returned (.bool (okPt p)) ∧ Below w.heap.size w w' := by
  have HP : Hid (okPt p = false) := by
    show okPt p = false
    unfold okPt okT7; rw [h5]; simp
  go_enter Tryz.func64, Tryz.ntmps64
  try simp only [List.append_eq, List.cons_append, List.nil_append]
  go_wp2_with (go_at_call 63; refine (l1In_any _ _ _ _).mono ?_; rintro e w' ⟨rfl, rfl⟩)
  go_ret
  first
    | exact ⟨ret_bool' HP.out.symm, (Below.refl _ w).alloc (Nat.le_refl _) _⟩
    | (refine ⟨ret_bool' ?_, (Below.refl _ w).alloc (Nat.le_refl _) _⟩; rw [HP.out]; simp [*])
set_option maxHeartbeats 4000000 in
theorem spt_6 (p : Pt) (w : World) (h0 : ib p.kd 1 6 = true) (h1 : ib p.wh 0 2 = true) (h2 : ib p.pi 0 99 = true) (h3 : ib p.le 0 2147483647 = true) (h4 : ib p.sr 0 99 = true) (h5 : ib p.tr 0 63 = true) (h6 : ib p.zo 0 4 = false) : Calls Tryz.prog 64 #[(.agg #[.int .i64 p.kd, .int .i64 p.wh, .int .i64 p.sr, .int .i64 p.tr, .int .i64 p.pi, .int .i64 p.le, .int .i64 p.zo])] w fun e w' => e = .returned (.bool (okPt p)) ∧ Below w.heap.size w w' := by
  have HP : Hid (okPt p = false) := by
    show okPt p = false
    unfold okPt okT7; rw [h6]; simp
  go_enter Tryz.func64, Tryz.ntmps64
  try simp only [List.append_eq, List.cons_append, List.nil_append]
  go_wp2_with (go_at_call 63; refine (l1In_any _ _ _ _).mono ?_; rintro e w' ⟨rfl, rfl⟩)
  go_ret
  first
    | exact ⟨ret_bool' HP.out.symm, (Below.refl _ w).alloc (Nat.le_refl _) _⟩
    | (refine ⟨ret_bool' ?_, (Below.refl _ w).alloc (Nat.le_refl _) _⟩; rw [HP.out]; simp [*])
set_option maxHeartbeats 4000000 in
theorem spt_all (p : Pt) (w : World) (h0 : ib p.kd 1 6 = true) (h1 : ib p.wh 0 2 = true) (h2 : ib p.pi 0 99 = true) (h3 : ib p.le 0 2147483647 = true) (h4 : ib p.sr 0 99 = true) (h5 : ib p.tr 0 63 = true) (h6 : ib p.zo 0 4 = true) : Calls Tryz.prog 64 #[(.agg #[.int .i64 p.kd, .int .i64 p.wh, .int .i64 p.sr, .int .i64 p.tr, .int .i64 p.pi, .int .i64 p.le, .int .i64 p.zo])] w fun e w' => e = .returned (.bool (okPt p)) ∧ Below w.heap.size w w' := by
  have HP : Hid (okT7 p = true) := by
    show okT7 p = true
    unfold okT7; rw [h0, h1, h2, h3, h4, h5, h6]; rfl
  go_enter Tryz.func64, Tryz.ntmps64
  try simp only [List.append_eq, List.cons_append, List.nil_append]
  go_wp2_with (go_at_call 63; refine (l1In_any _ _ _ _).mono ?_; rintro e w' ⟨rfl, rfl⟩)
  all_goals go_ret
  all_goals refine ⟨ret_bool' ?_, (Below.refl _ w).alloc (Nat.le_refl _) _⟩
  all_goals (clear h0 h1 h2 h3 h4 h5 h6; unfold okPt; rw [HP.out]; clear HP; simp_all <;> (rw [Bool.eq_iff_iff]; simp))
theorem specPatOk_any (p : Pt) (w : World) : Calls Tryz.prog 64 #[(.agg #[.int .i64 p.kd, .int .i64 p.wh, .int .i64 p.sr, .int .i64 p.tr, .int .i64 p.pi, .int .i64 p.le, .int .i64 p.zo])] w fun e w' => e = .returned (.bool (okPt p)) ∧ Below w.heap.size w w' := by
  cases h0 : ib p.kd 1 6
  · exact spt_0 p w h0
  cases h1 : ib p.wh 0 2
  · exact spt_1 p w h0 h1
  cases h2 : ib p.pi 0 99
  · exact spt_2 p w h0 h1 h2
  cases h3 : ib p.le 0 2147483647
  · exact spt_3 p w h0 h1 h2 h3
  cases h4 : ib p.sr 0 99
  · exact spt_4 p w h0 h1 h2 h3 h4
  cases h5 : ib p.tr 0 63
  · exact spt_5 p w h0 h1 h2 h3 h4 h5
  cases h6 : ib p.zo 0 4
  · exact spt_6 p w h0 h1 h2 h3 h4 h5 h6
  exact spt_all p w h0 h1 h2 h3 h4 h5 h6
end Go.Proofs.YtodfdfncdoliiadGreat
namespace Go.Proofs.YtodfdfncdoliiadGreat
open Go.ChangeShapes Go.WideShapes Go.ChangeAt Go.RowKit
set_option maxRecDepth 100000
set_option linter.unusedVariables false
set_option linter.unusedSimpArgs false

/-- whether a guard may be asked -/
def okGd (g : Gd) : Bool := bif decide (g.kd = 0) || decide (g.kd = 3) then decide (g.nn = 0) else bif decide (g.kd = 1) then ib g.nn (-2147483647) 2147483647 else (decide (g.kd = 2) || decide (g.kd = 4)) && ib g.nn 0 8
/-- whether the one holds wherever the other does -/
def srG (g h : Gd) : Bool := okGd g && okGd h && (decide (h.kd = 0) || (decide (g.kd = h.kd) && (bif decide (g.kd = 1) then decide (g.nn ≤ h.nn) else decide (h.nn ≤ g.nn))))
set_option maxHeartbeats 2000000 in
theorem sgk_0 (nn : Int) (w : World) : Calls Tryz.prog 65 #[(.agg #[.int .i64 0, .int .i64 nn])] w fun e w' => e = .returned (.bool (okGd (⟨0, nn⟩ : Gd))) ∧ Below w.heap.size w w' := by
  go_enter Tryz.func65, Tryz.ntmps65
  go_wp2_with (go_at_call 63; refine (l1In_any _ _ _ _).mono ?_; rintro e w' ⟨rfl, rfl⟩)
  all_goals go_ret
  all_goals exact ⟨ret_bool' (by unfold okGd; first | (simp_all; done) | (simp_all <;> (rw [Bool.eq_iff_iff]; simp))), (Below.refl _ w).alloc (Nat.le_refl _) _⟩

set_option maxHeartbeats 2000000 in
theorem sgk_1 (nn : Int) (w : World) : Calls Tryz.prog 65 #[(.agg #[.int .i64 1, .int .i64 nn])] w fun e w' => e = .returned (.bool (okGd (⟨1, nn⟩ : Gd))) ∧ Below w.heap.size w w' := by
  go_enter Tryz.func65, Tryz.ntmps65
  go_wp2_with (go_at_call 63; refine (l1In_any _ _ _ _).mono ?_; rintro e w' ⟨rfl, rfl⟩)
  all_goals go_ret
  all_goals exact ⟨ret_bool' (by unfold okGd; first | (simp_all; done) | (simp_all <;> (rw [Bool.eq_iff_iff]; simp))), (Below.refl _ w).alloc (Nat.le_refl _) _⟩

set_option maxHeartbeats 2000000 in
theorem sgk_2 (nn : Int) (w : World) : Calls Tryz.prog 65 #[(.agg #[.int .i64 2, .int .i64 nn])] w fun e w' => e = .returned (.bool (okGd (⟨2, nn⟩ : Gd))) ∧ Below w.heap.size w w' := by
  go_enter Tryz.func65, Tryz.ntmps65
  go_wp2_with (go_at_call 63; refine (l1In_any _ _ _ _).mono ?_; rintro e w' ⟨rfl, rfl⟩)
  all_goals go_ret
  all_goals exact ⟨ret_bool' (by unfold okGd; first | (simp_all; done) | (simp_all <;> (rw [Bool.eq_iff_iff]; simp))), (Below.refl _ w).alloc (Nat.le_refl _) _⟩

set_option maxHeartbeats 2000000 in
theorem sgk_3 (nn : Int) (w : World) : Calls Tryz.prog 65 #[(.agg #[.int .i64 3, .int .i64 nn])] w fun e w' => e = .returned (.bool (okGd (⟨3, nn⟩ : Gd))) ∧ Below w.heap.size w w' := by
  go_enter Tryz.func65, Tryz.ntmps65
  go_wp2_with (go_at_call 63; refine (l1In_any _ _ _ _).mono ?_; rintro e w' ⟨rfl, rfl⟩)
  all_goals go_ret
  all_goals exact ⟨ret_bool' (by unfold okGd; first | (simp_all; done) | (simp_all <;> (rw [Bool.eq_iff_iff]; simp))), (Below.refl _ w).alloc (Nat.le_refl _) _⟩

set_option maxHeartbeats 2000000 in
theorem sgk_4 (nn : Int) (w : World) : Calls Tryz.prog 65 #[(.agg #[.int .i64 4, .int .i64 nn])] w fun e w' => e = .returned (.bool (okGd (⟨4, nn⟩ : Gd))) ∧ Below w.heap.size w w' := by
  go_enter Tryz.func65, Tryz.ntmps65
  go_wp2_with (go_at_call 63; refine (l1In_any _ _ _ _).mono ?_; rintro e w' ⟨rfl, rfl⟩)
  all_goals go_ret
  all_goals exact ⟨ret_bool' (by unfold okGd; first | (simp_all; done) | (simp_all <;> (rw [Bool.eq_iff_iff]; simp))), (Below.refl _ w).alloc (Nat.le_refl _) _⟩

set_option maxHeartbeats 2000000 in
theorem sgk_x (g : Gd) (w : World) (h0 : (g.kd == 0) = false) (h1 : (g.kd == 1) = false) (h2 : (g.kd == 2) = false) (h3 : (g.kd == 3) = false) (h4 : (g.kd == 4) = false) : Calls Tryz.prog 65 #[(.agg #[.int .i64 g.kd, .int .i64 g.nn])] w fun e w' => e = .returned (.bool (okGd g)) ∧ Below w.heap.size w w' := by
  go_enter Tryz.func65, Tryz.ntmps65
  go_wp2_with (go_at_call 63; refine (l1In_any _ _ _ _).mono ?_; rintro e w' ⟨rfl, rfl⟩)
  all_goals go_ret
  all_goals exact ⟨ret_bool' (by unfold okGd; first | (simp_all; done) | (simp_all <;> (rw [Bool.eq_iff_iff]; simp))), (Below.refl _ w).alloc (Nat.le_refl _) _⟩

theorem specGuardOk_any (g : Gd) (w : World) : Calls Tryz.prog 65 #[(.agg #[.int .i64 g.kd, .int .i64 g.nn])] w fun e w' => e = .returned (.bool (okGd g)) ∧ Below w.heap.size w w' := by
  cases h0 : (g.kd == 0)
  case true =>
    obtain ⟨kd, nn⟩ := g
    have e : kd = 0 := by simpa using h0
    subst e
    exact sgk_0 nn w
  cases h1 : (g.kd == 1)
  case true =>
    obtain ⟨kd, nn⟩ := g
    have e : kd = 1 := by simpa using h1
    subst e
    exact sgk_1 nn w
  cases h2 : (g.kd == 2)
  case true =>
    obtain ⟨kd, nn⟩ := g
    have e : kd = 2 := by simpa using h2
    subst e
    exact sgk_2 nn w
  cases h3 : (g.kd == 3)
  case true =>
    obtain ⟨kd, nn⟩ := g
    have e : kd = 3 := by simpa using h3
    subst e
    exact sgk_3 nn w
  cases h4 : (g.kd == 4)
  case true =>
    obtain ⟨kd, nn⟩ := g
    have e : kd = 4 := by simpa using h4
    subst e
    exact sgk_4 nn w
  exact sgk_x g w h0 h1 h2 h3 h4
end Go.Proofs.YtodfdfncdoliiadGreat
namespace Go.Proofs.YtodfdfncdoliiadGreat
open Go.ChangeShapes Go.WideShapes Go.ChangeAt Go.RowKit
set_option maxRecDepth 100000
set_option linter.unusedVariables false
set_option linter.unusedSimpArgs false

def hdE (a : Ef) : Bool := ib a.id 1 99 && ib a.si 0 2 && ib a.sr 0 99 && ib a.cl 0 4 && ib a.un (-1) 9999 && ib a.le (-1) 2147483647
def cdE (a : Ef) : Bool := (decide (a.cl = 0) && decide (a.sr = 0)) || (decide (a.ac.kd = 2) && decide (a.le < 0))
/-- whether an effect may be -/
def okEf (a : Ef) : Bool := hdE a && !cdE a && (okPt a.pt && okGd a.gd && okAc a.ac && fiA a.ac a.pt.kd)
/-- whether it lives -/
def lvE (a : Ef) (c : Int) : Bool := !decide (a.le = 0) && (decide (a.un = -1) || decide (c ≤ a.un))
/-- whether it is near -/
def nrE (a : Ef) (v : Ev) : Bool := !decide (a.cl = 0) || decide (a.sr = v.sr) || decide (a.sr = v.pi)
set_option maxHeartbeats 2000000 in
theorem specLives_any (a : Ef) (c : Int) (w : World) : Calls Tryz.prog 19 #[(.agg #[.int .i64 a.id, .int .i64 a.si, .int .i64 a.sr, .int .i64 a.cl, .int .i64 a.pt.kd, .int .i64 a.pt.wh, .int .i64 a.pt.sr, .int .i64 a.pt.tr, .int .i64 a.pt.pi, .int .i64 a.pt.le, .int .i64 a.pt.zo, .int .i64 a.gd.kd, .int .i64 a.gd.nn, .int .i64 a.ac.kd, .int .i64 a.ac.nn, .int .i64 a.ac.pi, .int .i64 a.ac.si, .int .i64 a.ac.zo, .bool a.ac.be, .slice a.ac.la a.ac.ln a.ac.lcap, .int .i64 a.un, .int .i64 a.le]), .int .i64 c] w fun e w' => e = .returned (.bool (lvE a c)) ∧ Below w.heap.size w w' := by
  have HB := (Below.refl _ w).alloc (Nat.le_refl _) (.cells #[.int .i64 a.id, .int .i64 a.si, .int .i64 a.sr, .int .i64 a.cl, .int .i64 a.pt.kd, .int .i64 a.pt.wh, .int .i64 a.pt.sr, .int .i64 a.pt.tr, .int .i64 a.pt.pi, .int .i64 a.pt.le, .int .i64 a.pt.zo, .int .i64 a.gd.kd, .int .i64 a.gd.nn, .int .i64 a.ac.kd, .int .i64 a.ac.nn, .int .i64 a.ac.pi, .int .i64 a.ac.si, .int .i64 a.ac.zo, .bool a.ac.be, .slice a.ac.la a.ac.ln a.ac.lcap, .int .i64 a.un, .int .i64 a.le] 32)
  have bx := boxR_new w 32 #[.int .i64 a.id, .int .i64 a.si, .int .i64 a.sr, .int .i64 a.cl, .int .i64 a.pt.kd, .int .i64 a.pt.wh, .int .i64 a.pt.sr, .int .i64 a.pt.tr, .int .i64 a.pt.pi, .int .i64 a.pt.le, .int .i64 a.pt.zo, .int .i64 a.gd.kd, .int .i64 a.gd.nn, .int .i64 a.ac.kd, .int .i64 a.ac.nn, .int .i64 a.ac.pi, .int .i64 a.ac.si, .int .i64 a.ac.zo, .bool a.ac.be, .slice a.ac.la a.ac.ln a.ac.lcap, .int .i64 a.un, .int .i64 a.le]
  generalize hW : w.alloc (.cells #[.int .i64 a.id, .int .i64 a.si, .int .i64 a.sr, .int .i64 a.cl, .int .i64 a.pt.kd, .int .i64 a.pt.wh, .int .i64 a.pt.sr, .int .i64 a.pt.tr, .int .i64 a.pt.pi, .int .i64 a.pt.le, .int .i64 a.pt.zo, .int .i64 a.gd.kd, .int .i64 a.gd.nn, .int .i64 a.ac.kd, .int .i64 a.ac.nn, .int .i64 a.ac.pi, .int .i64 a.ac.si, .int .i64 a.ac.zo, .bool a.ac.be, .slice a.ac.la a.ac.ln a.ac.lcap, .int .i64 a.un, .int .i64 a.le] 32) = W at HB bx
  obtain ⟨c0, c1, c2, c3, c4, c5, c6, c7, c8, c9, c10, c11, c12, c13, c14, c15, c16, c17, c18, c19, c20, c21⟩ := bx.cells22
  go_enter Tryz.func19, Tryz.ntmps19
  go_wp2
  all_goals go_ret
  all_goals exact ⟨ret_bool' (by unfold lvE; first | (simp_all; done) | (simp_all; omega) | (rw [Bool.eq_iff_iff]; simp_all; done) | (rw [Bool.eq_iff_iff]; simp_all; omega)), HB⟩
set_option maxHeartbeats 2000000 in
theorem specNear_any (a : Ef) (v : Ev) (w : World) : Calls Tryz.prog 21 #[(.agg #[.int .i64 a.id, .int .i64 a.si, .int .i64 a.sr, .int .i64 a.cl, .int .i64 a.pt.kd, .int .i64 a.pt.wh, .int .i64 a.pt.sr, .int .i64 a.pt.tr, .int .i64 a.pt.pi, .int .i64 a.pt.le, .int .i64 a.pt.zo, .int .i64 a.gd.kd, .int .i64 a.gd.nn, .int .i64 a.ac.kd, .int .i64 a.ac.nn, .int .i64 a.ac.pi, .int .i64 a.ac.si, .int .i64 a.ac.zo, .bool a.ac.be, .slice a.ac.la a.ac.ln a.ac.lcap, .int .i64 a.un, .int .i64 a.le]), (.agg #[.int .i64 v.kd, .int .i64 v.sr, .int .i64 v.pi, .int .i64 v.si, .int .i64 v.nn, .int .i64 v.zo, .bool v.be])] w fun e w' => e = .returned (.bool (nrE a v)) ∧ Below w.heap.size w w' := by
  have HB := ((Below.refl _ w).alloc (Nat.le_refl _) (.cells #[.int .i64 a.id, .int .i64 a.si, .int .i64 a.sr, .int .i64 a.cl, .int .i64 a.pt.kd, .int .i64 a.pt.wh, .int .i64 a.pt.sr, .int .i64 a.pt.tr, .int .i64 a.pt.pi, .int .i64 a.pt.le, .int .i64 a.pt.zo, .int .i64 a.gd.kd, .int .i64 a.gd.nn, .int .i64 a.ac.kd, .int .i64 a.ac.nn, .int .i64 a.ac.pi, .int .i64 a.ac.si, .int .i64 a.ac.zo, .bool a.ac.be, .slice a.ac.la a.ac.ln a.ac.lcap, .int .i64 a.un, .int .i64 a.le] 32)).alloc (by simp) (.cells #[.int .i64 v.kd, .int .i64 v.sr, .int .i64 v.pi, .int .i64 v.si, .int .i64 v.nn, .int .i64 v.zo, .bool v.be] 39)
  have bx := (boxR_new w 32 #[.int .i64 a.id, .int .i64 a.si, .int .i64 a.sr, .int .i64 a.cl, .int .i64 a.pt.kd, .int .i64 a.pt.wh, .int .i64 a.pt.sr, .int .i64 a.pt.tr, .int .i64 a.pt.pi, .int .i64 a.pt.le, .int .i64 a.pt.zo, .int .i64 a.gd.kd, .int .i64 a.gd.nn, .int .i64 a.ac.kd, .int .i64 a.ac.nn, .int .i64 a.ac.pi, .int .i64 a.ac.si, .int .i64 a.ac.zo, .bool a.ac.be, .slice a.ac.la a.ac.ln a.ac.lcap, .int .i64 a.un, .int .i64 a.le]).alloc (.cells #[.int .i64 v.kd, .int .i64 v.sr, .int .i64 v.pi, .int .i64 v.si, .int .i64 v.nn, .int .i64 v.zo, .bool v.be] 39)
  have by_ : BoxR ((w.alloc (.cells #[.int .i64 a.id, .int .i64 a.si, .int .i64 a.sr, .int .i64 a.cl, .int .i64 a.pt.kd, .int .i64 a.pt.wh, .int .i64 a.pt.sr, .int .i64 a.pt.tr, .int .i64 a.pt.pi, .int .i64 a.pt.le, .int .i64 a.pt.zo, .int .i64 a.gd.kd, .int .i64 a.gd.nn, .int .i64 a.ac.kd, .int .i64 a.ac.nn, .int .i64 a.ac.pi, .int .i64 a.ac.si, .int .i64 a.ac.zo, .bool a.ac.be, .slice a.ac.la a.ac.ln a.ac.lcap, .int .i64 a.un, .int .i64 a.le] 32)).alloc (.cells #[.int .i64 v.kd, .int .i64 v.sr, .int .i64 v.pi, .int .i64 v.si, .int .i64 v.nn, .int .i64 v.zo, .bool v.be] 39)) (w.heap.size + 1) 39 #[.int .i64 v.kd, .int .i64 v.sr, .int .i64 v.pi, .int .i64 v.si, .int .i64 v.nn, .int .i64 v.zo, .bool v.be] := heap_alloc2_new _ _ _
  generalize hW : (w.alloc (.cells #[.int .i64 a.id, .int .i64 a.si, .int .i64 a.sr, .int .i64 a.cl, .int .i64 a.pt.kd, .int .i64 a.pt.wh, .int .i64 a.pt.sr, .int .i64 a.pt.tr, .int .i64 a.pt.pi, .int .i64 a.pt.le, .int .i64 a.pt.zo, .int .i64 a.gd.kd, .int .i64 a.gd.nn, .int .i64 a.ac.kd, .int .i64 a.ac.nn, .int .i64 a.ac.pi, .int .i64 a.ac.si, .int .i64 a.ac.zo, .bool a.ac.be, .slice a.ac.la a.ac.ln a.ac.lcap, .int .i64 a.un, .int .i64 a.le] 32)).alloc (.cells #[.int .i64 v.kd, .int .i64 v.sr, .int .i64 v.pi, .int .i64 v.si, .int .i64 v.nn, .int .i64 v.zo, .bool v.be] 39) = W at HB bx by_
  obtain ⟨c0, c1, c2, c3, c4, c5, c6, c7, c8, c9, c10, c11, c12, c13, c14, c15, c16, c17, c18, c19, c20, c21⟩ := bx.cells22
  have e1 := by_.cell 1
  have e2 := by_.cell 2
  simp at e1 e2
  go_enter Tryz.func21, Tryz.ntmps21
  go_wp2
  all_goals go_ret
  all_goals exact ⟨ret_bool' (by unfold nrE; first | (simp_all; done) | (rw [Bool.eq_iff_iff]; simp_all; done) | (rw [Bool.eq_iff_iff]; simp_all; omega)), HB⟩
set_option maxHeartbeats 4000000 in
theorem efo_h (a : Ef) (w : World) (h : hdE a = false) : Calls Tryz.prog 14 #[(.agg #[.int .i64 a.id, .int .i64 a.si, .int .i64 a.sr, .int .i64 a.cl, .int .i64 a.pt.kd, .int .i64 a.pt.wh, .int .i64 a.pt.sr, .int .i64 a.pt.tr, .int .i64 a.pt.pi, .int .i64 a.pt.le, .int .i64 a.pt.zo, .int .i64 a.gd.kd, .int .i64 a.gd.nn, .int .i64 a.ac.kd, .int .i64 a.ac.nn, .int .i64 a.ac.pi, .int .i64 a.ac.si, .int .i64 a.ac.zo, .bool a.ac.be, .slice a.ac.la a.ac.ln a.ac.lcap, .int .i64 a.un, .int .i64 a.le])] w fun e w' => e = .returned (.bool (okEf a)) ∧ Below w.heap.size w w' := by
  have HA : Hid (okEf a = false) := by show okEf a = false; unfold okEf; rw [h]; rfl
  unfold hdE at h
  have HB := (Below.refl _ w).alloc (Nat.le_refl _) (.cells #[.int .i64 a.id, .int .i64 a.si, .int .i64 a.sr, .int .i64 a.cl, .int .i64 a.pt.kd, .int .i64 a.pt.wh, .int .i64 a.pt.sr, .int .i64 a.pt.tr, .int .i64 a.pt.pi, .int .i64 a.pt.le, .int .i64 a.pt.zo, .int .i64 a.gd.kd, .int .i64 a.gd.nn, .int .i64 a.ac.kd, .int .i64 a.ac.nn, .int .i64 a.ac.pi, .int .i64 a.ac.si, .int .i64 a.ac.zo, .bool a.ac.be, .slice a.ac.la a.ac.ln a.ac.lcap, .int .i64 a.un, .int .i64 a.le] 32)
  have bx := boxR_new w 32 #[.int .i64 a.id, .int .i64 a.si, .int .i64 a.sr, .int .i64 a.cl, .int .i64 a.pt.kd, .int .i64 a.pt.wh, .int .i64 a.pt.sr, .int .i64 a.pt.tr, .int .i64 a.pt.pi, .int .i64 a.pt.le, .int .i64 a.pt.zo, .int .i64 a.gd.kd, .int .i64 a.gd.nn, .int .i64 a.ac.kd, .int .i64 a.ac.nn, .int .i64 a.ac.pi, .int .i64 a.ac.si, .int .i64 a.ac.zo, .bool a.ac.be, .slice a.ac.la a.ac.ln a.ac.lcap, .int .i64 a.un, .int .i64 a.le]
  generalize hW : w.alloc (.cells #[.int .i64 a.id, .int .i64 a.si, .int .i64 a.sr, .int .i64 a.cl, .int .i64 a.pt.kd, .int .i64 a.pt.wh, .int .i64 a.pt.sr, .int .i64 a.pt.tr, .int .i64 a.pt.pi, .int .i64 a.pt.le, .int .i64 a.pt.zo, .int .i64 a.gd.kd, .int .i64 a.gd.nn, .int .i64 a.ac.kd, .int .i64 a.ac.nn, .int .i64 a.ac.pi, .int .i64 a.ac.si, .int .i64 a.ac.zo, .bool a.ac.be, .slice a.ac.la a.ac.ln a.ac.lcap, .int .i64 a.un, .int .i64 a.le] 32) = W at HB bx
  obtain ⟨c0, c1, c2, c3, c4, c5, c6, c7, c8, c9, c10, c11, c12, c13, c14, c15, c16, c17, c18, c19, c20, c21⟩ := bx.cells22
  go_enter Tryz.func14, Tryz.ntmps14
  go_wp2_with (go_at_call 63; refine (l1In_any _ _ _ _).mono ?_; rintro e w' ⟨rfl, rfl⟩)
  all_goals first | (exfalso; simp_all; done) | skip
  all_goals go_ret
  all_goals exact ⟨ret_bool' HA.out.symm, HB⟩
set_option maxHeartbeats 4000000 in
theorem efo_c (a : Ef) (w : World) (h : hdE a = true) (hc : cdE a = true) : Calls Tryz.prog 14 #[(.agg #[.int .i64 a.id, .int .i64 a.si, .int .i64 a.sr, .int .i64 a.cl, .int .i64 a.pt.kd, .int .i64 a.pt.wh, .int .i64 a.pt.sr, .int .i64 a.pt.tr, .int .i64 a.pt.pi, .int .i64 a.pt.le, .int .i64 a.pt.zo, .int .i64 a.gd.kd, .int .i64 a.gd.nn, .int .i64 a.ac.kd, .int .i64 a.ac.nn, .int .i64 a.ac.pi, .int .i64 a.ac.si, .int .i64 a.ac.zo, .bool a.ac.be, .slice a.ac.la a.ac.ln a.ac.lcap, .int .i64 a.un, .int .i64 a.le])] w fun e w' => e = .returned (.bool (okEf a)) ∧ Below w.heap.size w w' := by
  have HA : Hid (okEf a = false) := by show okEf a = false; unfold okEf; rw [h, hc]; rfl
  unfold hdE at h
  simp only [Bool.and_eq_true] at h
  obtain ⟨⟨⟨⟨⟨i0, i1⟩, i2⟩, i3⟩, i4⟩, i5⟩ := h
  unfold cdE at hc
  have HB := (Below.refl _ w).alloc (Nat.le_refl _) (.cells #[.int .i64 a.id, .int .i64 a.si, .int .i64 a.sr, .int .i64 a.cl, .int .i64 a.pt.kd, .int .i64 a.pt.wh, .int .i64 a.pt.sr, .int .i64 a.pt.tr, .int .i64 a.pt.pi, .int .i64 a.pt.le, .int .i64 a.pt.zo, .int .i64 a.gd.kd, .int .i64 a.gd.nn, .int .i64 a.ac.kd, .int .i64 a.ac.nn, .int .i64 a.ac.pi, .int .i64 a.ac.si, .int .i64 a.ac.zo, .bool a.ac.be, .slice a.ac.la a.ac.ln a.ac.lcap, .int .i64 a.un, .int .i64 a.le] 32)
  have bx := boxR_new w 32 #[.int .i64 a.id, .int .i64 a.si, .int .i64 a.sr, .int .i64 a.cl, .int .i64 a.pt.kd, .int .i64 a.pt.wh, .int .i64 a.pt.sr, .int .i64 a.pt.tr, .int .i64 a.pt.pi, .int .i64 a.pt.le, .int .i64 a.pt.zo, .int .i64 a.gd.kd, .int .i64 a.gd.nn, .int .i64 a.ac.kd, .int .i64 a.ac.nn, .int .i64 a.ac.pi, .int .i64 a.ac.si, .int .i64 a.ac.zo, .bool a.ac.be, .slice a.ac.la a.ac.ln a.ac.lcap, .int .i64 a.un, .int .i64 a.le]
  generalize hW : w.alloc (.cells #[.int .i64 a.id, .int .i64 a.si, .int .i64 a.sr, .int .i64 a.cl, .int .i64 a.pt.kd, .int .i64 a.pt.wh, .int .i64 a.pt.sr, .int .i64 a.pt.tr, .int .i64 a.pt.pi, .int .i64 a.pt.le, .int .i64 a.pt.zo, .int .i64 a.gd.kd, .int .i64 a.gd.nn, .int .i64 a.ac.kd, .int .i64 a.ac.nn, .int .i64 a.ac.pi, .int .i64 a.ac.si, .int .i64 a.ac.zo, .bool a.ac.be, .slice a.ac.la a.ac.ln a.ac.lcap, .int .i64 a.un, .int .i64 a.le] 32) = W at HB bx
  obtain ⟨c0, c1, c2, c3, c4, c5, c6, c7, c8, c9, c10, c11, c12, c13, c14, c15, c16, c17, c18, c19, c20, c21⟩ := bx.cells22
  go_enter Tryz.func14, Tryz.ntmps14
  go_wp2_with (go_at_call 63; refine (l1In_any _ _ _ _).mono ?_; rintro e w' ⟨rfl, rfl⟩)
  all_goals first | (exfalso; simp_all; done) | (exfalso; simp_all; omega) | skip
  all_goals go_ret
  all_goals exact ⟨ret_bool' HA.out.symm, HB⟩
set_option maxHeartbeats 8000000 in
theorem efo_t (a : Ef) (w : World) (hok : a.okW w) (hn : a.ac.ln ≤ 1048577) (h : hdE a = true) (hc : cdE a = false) : Calls Tryz.prog 14 #[(.agg #[.int .i64 a.id, .int .i64 a.si, .int .i64 a.sr, .int .i64 a.cl, .int .i64 a.pt.kd, .int .i64 a.pt.wh, .int .i64 a.pt.sr, .int .i64 a.pt.tr, .int .i64 a.pt.pi, .int .i64 a.pt.le, .int .i64 a.pt.zo, .int .i64 a.gd.kd, .int .i64 a.gd.nn, .int .i64 a.ac.kd, .int .i64 a.ac.nn, .int .i64 a.ac.pi, .int .i64 a.ac.si, .int .i64 a.ac.zo, .bool a.ac.be, .slice a.ac.la a.ac.ln a.ac.lcap, .int .i64 a.un, .int .i64 a.le])] w fun e w' => e = .returned (.bool (okEf a)) ∧ Below w.heap.size w w' := by
  have HA : Hid (okEf a = (okPt a.pt && okGd a.gd && okAc a.ac && fiA a.ac a.pt.kd)) := by show okEf a = _; unfold okEf; rw [h, hc]; rfl
  unfold hdE at h
  simp only [Bool.and_eq_true] at h
  obtain ⟨⟨⟨⟨⟨i0, i1⟩, i2⟩, i3⟩, i4⟩, i5⟩ := h
  have HQ : Hid (((a.cl == 0) = false ∨ (a.sr == 0) = false) ∧ ((a.ac.kd == 2) = false ∨ ¬ a.le < 0)) := by
    show _ ∧ _
    unfold cdE at hc
    simp at hc ⊢
    constructor
    · by_cases h1 : a.cl = 0
      · exact .inr (hc.1 h1)
      · exact .inl h1
    · by_cases h1 : a.ac.kd = 2
      · exact .inr (hc.2 h1)
      · exact .inl h1
  clear hc
  have FP : Hid (∀ u : World, Calls Tryz.prog 64 #[(.agg #[.int .i64 a.pt.kd, .int .i64 a.pt.wh, .int .i64 a.pt.sr, .int .i64 a.pt.tr, .int .i64 a.pt.pi, .int .i64 a.pt.le, .int .i64 a.pt.zo])] u fun e w' => e = .returned (.bool (okPt a.pt)) ∧ Below u.heap.size u w') := fun u => specPatOk_any a.pt u
  have FG : Hid (∀ u : World, Calls Tryz.prog 65 #[(.agg #[.int .i64 a.gd.kd, .int .i64 a.gd.nn])] u fun e w' => e = .returned (.bool (okGd a.gd)) ∧ Below u.heap.size u w') := fun u => specGuardOk_any a.gd u
  have FA : Hid (∀ u : World, Below w.heap.size w u → Calls Tryz.prog 66 #[(.agg #[.int .i64 a.ac.kd, .int .i64 a.ac.nn, .int .i64 a.ac.pi, .int .i64 a.ac.si, .int .i64 a.ac.zo, .bool a.ac.be, .slice a.ac.la a.ac.ln a.ac.lcap])] u fun e w' => e = .returned (.bool (okAc a.ac)) ∧ Below u.heap.size u w') := fun u hu => specActOk_any a.ac u (act_grew hok.1 hu) hn
  have FF : Hid (∀ u : World, Calls Tryz.prog 67 #[(.agg #[.int .i64 a.ac.kd, .int .i64 a.ac.nn, .int .i64 a.ac.pi, .int .i64 a.ac.si, .int .i64 a.ac.zo, .bool a.ac.be, .slice a.ac.la a.ac.ln a.ac.lcap]), .int .i64 a.pt.kd] u fun e w' => e = .returned (.bool (fiA a.ac a.pt.kd)) ∧ Below u.heap.size u w') := fun u => specActFits_any a.ac a.pt.kd u
  generalize okPt a.pt = b1 at HA FP
  generalize okGd a.gd = b2 at HA FG
  generalize okAc a.ac = b3 at HA FA
  generalize fiA a.ac a.pt.kd = b4 at HA FF
  clear hok hn
  have HB := (Below.refl _ w).alloc (Nat.le_refl _) (.cells #[.int .i64 a.id, .int .i64 a.si, .int .i64 a.sr, .int .i64 a.cl, .int .i64 a.pt.kd, .int .i64 a.pt.wh, .int .i64 a.pt.sr, .int .i64 a.pt.tr, .int .i64 a.pt.pi, .int .i64 a.pt.le, .int .i64 a.pt.zo, .int .i64 a.gd.kd, .int .i64 a.gd.nn, .int .i64 a.ac.kd, .int .i64 a.ac.nn, .int .i64 a.ac.pi, .int .i64 a.ac.si, .int .i64 a.ac.zo, .bool a.ac.be, .slice a.ac.la a.ac.ln a.ac.lcap, .int .i64 a.un, .int .i64 a.le] 32)
  have bx := boxR_new w 32 #[.int .i64 a.id, .int .i64 a.si, .int .i64 a.sr, .int .i64 a.cl, .int .i64 a.pt.kd, .int .i64 a.pt.wh, .int .i64 a.pt.sr, .int .i64 a.pt.tr, .int .i64 a.pt.pi, .int .i64 a.pt.le, .int .i64 a.pt.zo, .int .i64 a.gd.kd, .int .i64 a.gd.nn, .int .i64 a.ac.kd, .int .i64 a.ac.nn, .int .i64 a.ac.pi, .int .i64 a.ac.si, .int .i64 a.ac.zo, .bool a.ac.be, .slice a.ac.la a.ac.ln a.ac.lcap, .int .i64 a.un, .int .i64 a.le]
  generalize hW : w.alloc (.cells #[.int .i64 a.id, .int .i64 a.si, .int .i64 a.sr, .int .i64 a.cl, .int .i64 a.pt.kd, .int .i64 a.pt.wh, .int .i64 a.pt.sr, .int .i64 a.pt.tr, .int .i64 a.pt.pi, .int .i64 a.pt.le, .int .i64 a.pt.zo, .int .i64 a.gd.kd, .int .i64 a.gd.nn, .int .i64 a.ac.kd, .int .i64 a.ac.nn, .int .i64 a.ac.pi, .int .i64 a.ac.si, .int .i64 a.ac.zo, .bool a.ac.be, .slice a.ac.la a.ac.ln a.ac.lcap, .int .i64 a.un, .int .i64 a.le] 32) = W at HB bx
  obtain ⟨c0, c1, c2, c3, c4, c5, c6, c7, c8, c9, c10, c11, c12, c13, c14, c15, c16, c17, c18, c19, c20, c21⟩ := bx.cells22
  go_enter Tryz.func14, Tryz.ntmps14
  go_upto_region 3 with (go_at_call 63; refine (l1In_any _ _ _ _).mono ?_; rintro e w' ⟨rfl, rfl⟩)
  clear hW i0 i1 i2 i3 i4 i5
  go_cut [55] (fun sx wc => sx = .bool false ∧ BoxR wc w.heap.size 32 #[.int .i64 a.id, .int .i64 a.si, .int .i64 a.sr, .int .i64 a.cl, .int .i64 a.pt.kd, .int .i64 a.pt.wh, .int .i64 a.pt.sr, .int .i64 a.pt.tr, .int .i64 a.pt.pi, .int .i64 a.pt.le, .int .i64 a.pt.zo, .int .i64 a.gd.kd, .int .i64 a.gd.nn, .int .i64 a.ac.kd, .int .i64 a.ac.nn, .int .i64 a.ac.pi, .int .i64 a.ac.si, .int .i64 a.ac.zo, .bool a.ac.be, .slice a.ac.la a.ac.ln a.ac.lcap, .int .i64 a.un, .int .i64 a.le] ∧ Below w.heap.size w wc)
  case first =>
    obtain ⟨h1, h2⟩ := HQ.out
    cases g1 : (a.cl == 0)
    case true =>
      have g2 : (a.sr == 0) = false := by
        rcases h1 with h | h
        · rw [g1] at h; cases h
        · exact h
      cases g3 : (a.ac.kd == 2)
      case true =>
        have g4 : ¬ a.le < 0 := by
          rcases h2 with h | h
          · rw [g3] at h; cases h
          · omega
        clear h1 h2 HQ
        go_wp2_with fail
        go_meet
        exact ⟨rfl, bx, HB⟩
      case false =>
        clear h1 h2 HQ
        go_wp2_with fail
        go_meet
        exact ⟨rfl, bx, HB⟩
    case false =>
      cases g3 : (a.ac.kd == 2)
      case true =>
        have g4 : ¬ a.le < 0 := by
          rcases h2 with h | h
          · rw [g3] at h; cases h
          · omega
        clear h1 h2 HQ
        go_wp2_with fail
        go_meet
        exact ⟨rfl, bx, HB⟩
      case false =>
        clear h1 h2 HQ
        go_wp2_with fail
        go_meet
        exact ⟨rfl, bx, HB⟩
  case rest =>
    clear HQ bx HB c0 c1 c2 c3 c4 c5 c6 c7 c8 c9 c10 c11 c12 c13 c14 c15 c16 c17 c18 c19 c20 c21
    obtain ⟨rfl, bx, HB⟩ := hcut
    obtain ⟨c0, c1, c2, c3, c4, c5, c6, c7, c8, c9, c10, c11, c12, c13, c14, c15, c16, c17, c18, c19, c20, c21⟩ := bx.cells22
    as_aux_lemma =>
      go_wp2_with fail
      refine (FP.out _).mono ?_
      rintro e w1 ⟨rfl, hb⟩
      replace bx := bx.grew hb
      replace HB := below_app HB hb HB.size
      clear hb c0 c1 c2 c3 c4 c5 c6 c7 c8 c9 c10 c11 c12 c13 c14 c15 c16 c17 c18 c19 c20 c21
      cases b1
      case false =>
        go_wp2
        go_ret
        exact ⟨ret_bool' (by rw [HA.out]; rfl), HB⟩
      case true =>
        obtain ⟨c0, c1, c2, c3, c4, c5, c6, c7, c8, c9, c10, c11, c12, c13, c14, c15, c16, c17, c18, c19, c20, c21⟩ := bx.cells22
        go_wp2_with fail
        refine (FG.out _).mono ?_
        rintro e w2 ⟨rfl, hb⟩
        replace bx := bx.grew hb
        replace HB := below_app HB hb HB.size
        clear hb c0 c1 c2 c3 c4 c5 c6 c7 c8 c9 c10 c11 c12 c13 c14 c15 c16 c17 c18 c19 c20 c21
        cases b2
        case false =>
          go_wp2
          go_ret
          exact ⟨ret_bool' (by rw [HA.out]; rfl), HB⟩
        case true =>
          obtain ⟨c0, c1, c2, c3, c4, c5, c6, c7, c8, c9, c10, c11, c12, c13, c14, c15, c16, c17, c18, c19, c20, c21⟩ := bx.cells22
          go_wp2_with fail
          refine (FA.out _ HB).mono ?_
          rintro e w3 ⟨rfl, hb⟩
          replace bx := bx.grew hb
          replace HB := below_app HB hb HB.size
          clear hb c0 c1 c2 c3 c4 c5 c6 c7 c8 c9 c10 c11 c12 c13 c14 c15 c16 c17 c18 c19 c20 c21
          cases b3
          case false =>
            go_wp2
            go_ret
            exact ⟨ret_bool' (by rw [HA.out]; rfl), HB⟩
          case true =>
            obtain ⟨c0, c1, c2, c3, c4, c5, c6, c7, c8, c9, c10, c11, c12, c13, c14, c15, c16, c17, c18, c19, c20, c21⟩ := bx.cells22
            go_wp2_with fail
            refine (FF.out _).mono ?_
            rintro e w4 ⟨rfl, hb⟩
            replace bx := bx.grew hb
            replace HB := below_app HB hb HB.size
            clear hb c0 c1 c2 c3 c4 c5 c6 c7 c8 c9 c10 c11 c12 c13 c14 c15 c16 c17 c18 c19 c20 c21
            go_wp2
            go_ret
            exact ⟨ret_bool' (by rw [HA.out]; simp), HB⟩
theorem specEffectOk_any (a : Ef) (w : World) (hok : a.okW w) (hn : a.ac.ln ≤ 1048577) : Calls Tryz.prog 14 #[(.agg #[.int .i64 a.id, .int .i64 a.si, .int .i64 a.sr, .int .i64 a.cl, .int .i64 a.pt.kd, .int .i64 a.pt.wh, .int .i64 a.pt.sr, .int .i64 a.pt.tr, .int .i64 a.pt.pi, .int .i64 a.pt.le, .int .i64 a.pt.zo, .int .i64 a.gd.kd, .int .i64 a.gd.nn, .int .i64 a.ac.kd, .int .i64 a.ac.nn, .int .i64 a.ac.pi, .int .i64 a.ac.si, .int .i64 a.ac.zo, .bool a.ac.be, .slice a.ac.la a.ac.ln a.ac.lcap, .int .i64 a.un, .int .i64 a.le])] w fun e w' => e = .returned (.bool (okEf a)) ∧ Below w.heap.size w w' := by
  cases h : hdE a with
  | false => exact efo_h a w h
  | true =>
    cases hc : cdE a with
    | true => exact efo_c a w h hc
    | false => exact efo_t a w hok hn h hc
end Go.Proofs.YtodfdfncdoliiadGreat
namespace Go.Proofs.YtodfdfncdoliiadGreat
open Go.ChangeShapes Go.WideShapes Go.ChangeAt Go.RowKit
set_option maxRecDepth 100000

def enc (n : Int) : Nat → Int := fun j => if j = 0 then (bnd n + 2147483648) / 16777216 else if j = 1 then (bnd n + 2147483648) / 65536 % 256 else if j = 2 then (bnd n + 2147483648) / 256 % 256 else (bnd n + 2147483648) % 256

theorem and255_eq (x : Int) (h0 : 0 ≤ x) (h1 : x ≤ 9223372036854775807) : bits .and .i64 x 255 % 256 = x % 256 := by
  obtain ⟨m, rfl⟩ := Int.eq_ofNat_of_zero_le h0
  have h2 : (BitVec.ofInt 64 (255 : Int)).toNat = 255 := by decide
  have e : bits .and .i64 (m : Int) 255 = IntKind.i64.wrap ((BitVec.ofInt 64 (m : Int) &&& BitVec.ofInt 64 (255 : Int)).toNat : Int) := rfl
  have h3 : (BitVec.ofInt 64 (m : Int) &&& BitVec.ofInt 64 (255 : Int)).toNat = m % 256 := by
    rw [BitVec.toNat_and, h2, BitVec.ofInt_natCast, BitVec.toNat_ofNat, Nat.mod_eq_of_lt (by omega)]
    exact Nat.and_two_pow_sub_one_eq_mod m 8
  rw [e, h3, IntWalk.i64_in _ (by omega)]
  omega
theorem vals4 (k : IntKind) (f : Nat → Int) : vals k 4 f = [.int k (f 0), .int k (f 1), .int k (f 2), .int k (f 3)] := rfl
theorem Rd.news {k : IntKind} {w : World} {b : Nat} {ad : Addr} {n : Nat} {f : Nat → Int} (h : Rd k w b (some ad) n f) : ∀ j u, (vals k n f)[j]? = some u → w.cell? (ad.add j) = some u := by
  intro j u hu
  by_cases hn : 0 < n
  · obtain ⟨x, e, hx⟩ := h.src hn
    simp only [Option.some.injEq] at e
    subst e
    exact hx j u hu
  · rw [vals_get, if_neg (by omega)] at hu; cases hu
theorem cells_new (w : World) (L : List Value) (t : TypeId) : ∀ j u, L[j]? = some u → (w.alloc (.cells L.toArray t)).cell? ((⟨w.heap.size, 0, none⟩ : Addr).add j) = some u := by
  intro j u hu
  have e : (⟨w.heap.size, 0, none⟩ : Addr).add j = ⟨w.heap.size, j, none⟩ := by unfold Addr.add; split <;> simp_all
  rw [e, cell_of_row _ w.heap.size j _ t (0, 0) (heap_alloc_new w _)]
  simpa using hu
end Go.Proofs.YtodfdfncdoliiadGreat
namespace Go.Proofs.YtodfdfncdoliiadGreat
open Go.ChangeShapes Go.WideShapes Go.ChangeAt Go.RowKit
set_option maxRecDepth 100000
set_option linter.unusedVariables false
/-- the place of the first piece of this number -/
def paI (n : Nat) (f : Nat → Pc) (id : Int) : Int := match (List.range n).find? (fun i => decide ((f i).id = id)) with | some i => (i : Int) | none => -1
theorem paI_at {n k : Nat} {f : Nat → Pc} {id : Int} (hk : k < n) (h : (f k).id = id) (h0 : ∀ j, j < k → (f j).id ≠ id) : paI n f id = (k : Int) := by
  have : (List.range n).find? (fun i => decide ((f i).id = id)) = some k := by
    rw [List.find?_range_eq_some]
    exact ⟨by simpa using h, List.mem_range.2 hk, fun j hj => by simpa using h0 j hj⟩
  unfold paI
  rw [this]
theorem paI_none {n : Nat} {f : Nat → Pc} {id : Int} (h0 : ∀ j, j < n → (f j).id ≠ id) : paI n f id = -1 := by
  have : (List.range n).find? (fun i => decide ((f i).id = id)) = none := by
    rw [List.find?_eq_none]
    exact fun j hj => by simpa using h0 j (List.mem_range.1 hj)
  unfold paI
  rw [this]
set_option maxHeartbeats 2000000 in
theorem specPieceAt_any (s : Stt) (id : Int) (w : World) (hok : s.ok w) (hn : s.pn ≤ 1048576) : Calls Tryz.prog 161 #[(.agg #[.slice s.pa s.pn s.pcap, .slice s.sa s.sn s.scap, .int .i64 s.ac, .int .i64 s.cl]), .int .i64 id] w fun e w' => e = .returned (.int .i64 (paI s.pn s.ps id)) ∧ Below w.heap.size w w' := by
  obtain ⟨_, _, r1, _⟩ := hok
  have hb0 := (Below.refl _ w).alloc (Nat.le_refl _) (.cells #[.slice s.pa s.pn s.pcap, .slice s.sa s.sn s.scap, .int .i64 s.ac, .int .i64 s.cl] 37)
  have x1 := boxR_new w 37 #[.slice s.pa s.pn s.pcap, .slice s.sa s.sn s.scap, .int .i64 s.ac, .int .i64 s.cl]
  generalize hW : w.alloc (.cells #[.slice s.pa s.pn s.pcap, .slice s.sa s.sn s.scap, .int .i64 s.ac, .int .i64 s.cl] 37) = W at hb0 x1
  have c0 := x1.cell 0
  simp at c0
  replace r1 := r1.grew pcC_ne hb0
  go_enter Tryz.func161, Tryz.ntmps161
  go_wp2
  go_loop [5] (fun i => ∃ k : Nat, k ≤ s.pn ∧ i = .int .i64 k ∧ Hid (∀ j, j < k → (s.ps j).id ≠ id)) (fun i => s.pn - (intOf i).toNat)
  case atStart => exact ⟨0, Nat.zero_le _, rfl, fun j hj => by omega⟩
  case round =>
    obtain ⟨k, hk, rfl, hall⟩ := hrel
    by_cases hlt : k < s.pn
    · rcases r1 with g1 | ⟨o1, hpa, g1⟩
      · omega
      rw [hpa] at c0
      have k0 := g1 k hlt 0 _ rfl
      rw [Nat.add_zero] at k0
      clear hpa g1
      have y1 : (0 : Int) ≤ (k : Int) := by omega
      have y2 : (k : Int) < (s.pn : Int) := by omega
      by_cases he : (s.ps k).id = id
      · have HN : Hid (paI s.pn s.ps id = (k : Int)) := paI_at hlt he hall.out
        clear hall
        go_wp2
        go_ret
        exact ⟨ret_int HN.out.symm, hb0⟩
      · have HA : Hid (∀ j, j < k + 1 → (s.ps j).id ≠ id) := fun j hj => by
          by_cases e : j = k
          · subst e; exact he
          · exact hall.out j (by omega)
        clear hall
        go_wp2
        go_round
        case rel => first | exact ⟨k + 1, by omega, by go_num, HA⟩ | ((repeat apply Exists.intro); exact ⟨⟨k + 1, by omega, by go_num, HA⟩, rfl⟩)
        case measure => simp [intOf]; omega
    · obtain rfl : k = s.pn := by omega
      have HN : Hid (paI s.pn s.ps id = -1) := paI_none hall.out
      clear hall
      go_wp2
      go_ret
      exact ⟨ret_int HN.out.symm, hb0⟩
/-- whether a piece is on the field, and this side's -/
def ofP (side : Int) (p : Pc) : Bool := decide (p.zo = 2) && (decide (side = -1) || decide (p.si = side))
/-- the numbers of the pieces on the field, of the first k -/
def ofL (k : Nat) (f : Nat → Pc) (side : Int) : List Int := ((List.range k).filter (fun i => ofP side (f i))).map (fun i => (f i).id)
theorem ofL_yes {k : Nat} {f : Nat → Pc} {side : Int} (h : ofP side (f k) = true) : ofL (k + 1) f side = ofL k f side ++ [(f k).id] := by
  unfold ofL; rw [List.range_succ, List.filter_append, List.map_append]; simp [h]
theorem ofL_no {k : Nat} {f : Nat → Pc} {side : Int} (h : ofP side (f k) = false) : ofL (k + 1) f side = ofL k f side := by
  unfold ofL; rw [List.range_succ, List.filter_append, List.map_append]; simp [h]
theorem ofL_len (k : Nat) (f : Nat → Pc) (side : Int) : (ofL k f side).length ≤ k := by
  unfold ofL; rw [List.length_map]; exact Nat.le_trans (List.length_filter_le _ _) (by simp)
theorem vals_list (L : List Int) : vals .i64 L.length (fun j => L.getD j 0) = L.map (Value.int .i64) := by
  symm
  refine vals_ext (by simp) (fun j hj => ?_)
  simp [hj]
end Go.Proofs.YtodfdfncdoliiadGreat
