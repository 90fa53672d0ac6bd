/-
  Chapter 8: words for a guard (Gd), how a law's own is opened and taken over, its box. Written by tools/gu.gen.py. Chapter 8: the specification's GuardOk (okGd), Stronger (srG). Written by tools/gu.gen.py. Chapter 8: the specification's counts: l8Many (mnG), BentOf (bnG). Written by tools/gu.gen.py. Chapter 8: the specification's Holds (hdG). Written by tools/gu.gen.py. Own work.
-/
import Derived.Test.YtnlnledijpcjpacEvA
import Derived.Test.YtnlnledijpcjpacState8
import Derived.Test.YtnlnledijpcjpacStLaw
import Derived.Deep.RegionHeld
namespace Go.Proofs.Ytnlnledijpcjpac
open Go.ChangeShapes Go.WideShapes Go.ChangeAt Go.RowKit
set_option maxRecDepth 100000
set_option linter.unusedVariables false
set_option linter.unusedSimpArgs false

structure Gd where
  (kd nn : Int)
/-- each of its numbers is one that an int can be -/
def Gd.wf (e : Gd) : Prop := ∀ x ∈ [e.kd, e.nn], (Lit.int .i64 x).wf = true
theorem list2_guard {α : Type} : ∀ {l : List α}, l.length = 2 → ∃ x0 x1, l = [x0, x1]
  | [x0, x1], _ => ⟨x0, x1, rfl⟩
/-- block b holds one -/
def BoxGd (w : World) (b t : Nat) (e : Gd) : Prop := w.heap[b]? = some (.cells #[.int .i64 e.kd, .int .i64 e.nn] t (0, 0))
theorem boxGd_new (w : World) (t : Nat) (e : Gd) : BoxGd (w.alloc (.cells #[.int .i64 e.kd, .int .i64 e.nn] t)) w.heap.size t e := heap_alloc_new w _
theorem BoxGd.lt {w : World} {b t : Nat} {e : Gd} (h : BoxGd w b t e) : b < w.heap.size := (Array.getElem?_eq_some_iff.1 h).1
theorem BoxGd.grew {w w' : World} {b t : Nat} {e : Gd} (h : BoxGd w b t e) (hb : Below w.heap.size w w') : BoxGd w' b t e := (hb.block b h.lt).trans h
theorem BoxGd.alloc {w : World} {b t : Nat} {e : Gd} (h : BoxGd w b t e) (o : Obj) : BoxGd (w.alloc o) b t e := (Below.heap_alloc w o b h.lt).trans h
/-- its cells, one by one -/
def CellsGd (w : World) (b : Nat) (e : Gd) : Prop :=
  w.cell? ⟨b, 0, none⟩ = some (.int .i64 e.kd) ∧ w.cell? ⟨b, 1, none⟩ = some (.int .i64 e.nn)
theorem BoxGd.cells {w : World} {b t : Nat} {e : Gd} (h : BoxGd w b t e) : CellsGd w b e :=
  ⟨cell_of_row w b 0 _ t (0, 0) h, cell_of_row w b 1 _ t (0, 0) h⟩
/-- whether two are the same in all their parts -/
def smGd (p q : Gd) : Bool := decide (p.kd = q.kd) && decide (p.nn = q.nn)
theorem smGd_self (e : Gd) : smGd e e = true := by unfold smGd; simp
theorem Try.fieldsGd : (Try.prog.fieldsOf 42).toList.map (fun f => (f.name == "_", f.type, f.offset)) = [(false, 3, 0), (false, 3, 1)] := by kernel_rfl
theorem run_eq_guard (p q : Gd) (w : World) : (Op.equalIn 10000 42 (.agg #[.int .i64 p.kd, .int .i64 p.nn]) (.agg #[.int .i64 q.kd, .int .i64 q.nn])).run Try.prog w = .ok (smGd p q) w := by
  rw [run_equalIn_struct w 9999 _ _ _ (by kernel_rfl) (by kernel_rfl)]
  have hL := Try.fieldsGd
  generalize (Try.prog.fieldsOf 42).toList = L at hL ⊢
  obtain ⟨f0, L0, rfl, e0, hL⟩ := list_of_mapE hL
  obtain ⟨f1, L1, rfl, e1, hL⟩ := list_of_mapE hL
  rw [List.map_eq_nil_iff] at hL
  subst hL
  simp only [Prod.mk.injEq] at e0
  obtain ⟨n0, t0, o0⟩ := e0
  simp only [Prod.mk.injEq] at e1
  obtain ⟨n1, t1, o1⟩ := e1
  have h : (Op.eqFields 9999 #[.int .i64 p.kd, .int .i64 p.nn] #[.int .i64 q.kd, .int .i64 q.nn] []).run Try.prog w = .ok true w := by simp [Op.eqFields]
  replace h := eqFields_stepE (f := f1) w n1 (by rw [t1, o1]; exact run_part_plain w (by kernel_rfl) rfl) (by rw [t1, o1]; exact run_part_plain w (by kernel_rfl) rfl) (by rw [t1]; exact run_equalIn_int w 9998 3 .i64 .i64 _ _ Try.underlying3) h
  replace h := eqFields_stepE (f := f0) w n0 (by rw [t0, o0]; exact run_part_plain w (by kernel_rfl) rfl) (by rw [t0, o0]; exact run_part_plain w (by kernel_rfl) rfl) (by rw [t0]; exact run_equalIn_int w 9998 3 .i64 .i64 _ _ Try.underlying3) h
  rw [h]
  congr 1
  unfold smGd
  simp only [Bool.and_true, Bool.and_assoc]
  rfl
end Go.Proofs.Ytnlnledijpcjpac
namespace Go.Proofs.Ytnlnledijpcjpac
open Go.ChangeShapes Go.WideShapes Go.ChangeAt Go.RowKit
set_option maxRecDepth 100000
set_option linter.unusedVariables false
set_option linter.unusedSimpArgs false

/-- whether a guard may be asked -/
def okGd (g : Gd) : Bool := bif decide (g.kd = 0) || decide (g.kd = 3) then decide (g.nn = 0) else bif decide (g.kd = 1) then ib g.nn (-2147483647) 2147483647 else (decide (g.kd = 2) || decide (g.kd = 4)) && ib g.nn 0 8
/-- whether the one holds wherever the other does -/
def srG (g h : Gd) : Bool := okGd g && okGd h && (decide (h.kd = 0) || (decide (g.kd = h.kd) && (bif decide (g.kd = 1) then decide (g.nn ≤ h.nn) else decide (h.nn ≤ g.nn))))
set_option maxHeartbeats 2000000 in
theorem sgk_0 (nn : Int) (w : World) : Calls Try.prog 27 #[(.agg #[.int .i64 0, .int .i64 nn])] w fun e w' => e = .returned (.bool (okGd (⟨0, nn⟩ : Gd))) ∧ Below w.heap.size w w' := by
  go_enter Try.func27, Try.ntmps27
  go_wp2_with (go_at_call 49; refine (l1In_any _ _ _ _).mono ?_; rintro e w' ⟨rfl, rfl⟩)
  all_goals go_ret
  all_goals exact ⟨ret_bool' (by unfold okGd; first | (simp_all; done) | (simp_all <;> (rw [Bool.eq_iff_iff]; simp))), (Below.refl _ w).alloc (Nat.le_refl _) _⟩

set_option maxHeartbeats 2000000 in
theorem sgk_1 (nn : Int) (w : World) : Calls Try.prog 27 #[(.agg #[.int .i64 1, .int .i64 nn])] w fun e w' => e = .returned (.bool (okGd (⟨1, nn⟩ : Gd))) ∧ Below w.heap.size w w' := by
  go_enter Try.func27, Try.ntmps27
  go_wp2_with (go_at_call 49; refine (l1In_any _ _ _ _).mono ?_; rintro e w' ⟨rfl, rfl⟩)
  all_goals go_ret
  all_goals exact ⟨ret_bool' (by unfold okGd; first | (simp_all; done) | (simp_all <;> (rw [Bool.eq_iff_iff]; simp))), (Below.refl _ w).alloc (Nat.le_refl _) _⟩

set_option maxHeartbeats 2000000 in
theorem sgk_2 (nn : Int) (w : World) : Calls Try.prog 27 #[(.agg #[.int .i64 2, .int .i64 nn])] w fun e w' => e = .returned (.bool (okGd (⟨2, nn⟩ : Gd))) ∧ Below w.heap.size w w' := by
  go_enter Try.func27, Try.ntmps27
  go_wp2_with (go_at_call 49; refine (l1In_any _ _ _ _).mono ?_; rintro e w' ⟨rfl, rfl⟩)
  all_goals go_ret
  all_goals exact ⟨ret_bool' (by unfold okGd; first | (simp_all; done) | (simp_all <;> (rw [Bool.eq_iff_iff]; simp))), (Below.refl _ w).alloc (Nat.le_refl _) _⟩

set_option maxHeartbeats 2000000 in
theorem sgk_3 (nn : Int) (w : World) : Calls Try.prog 27 #[(.agg #[.int .i64 3, .int .i64 nn])] w fun e w' => e = .returned (.bool (okGd (⟨3, nn⟩ : Gd))) ∧ Below w.heap.size w w' := by
  go_enter Try.func27, Try.ntmps27
  go_wp2_with (go_at_call 49; refine (l1In_any _ _ _ _).mono ?_; rintro e w' ⟨rfl, rfl⟩)
  all_goals go_ret
  all_goals exact ⟨ret_bool' (by unfold okGd; first | (simp_all; done) | (simp_all <;> (rw [Bool.eq_iff_iff]; simp))), (Below.refl _ w).alloc (Nat.le_refl _) _⟩

set_option maxHeartbeats 2000000 in
theorem sgk_4 (nn : Int) (w : World) : Calls Try.prog 27 #[(.agg #[.int .i64 4, .int .i64 nn])] w fun e w' => e = .returned (.bool (okGd (⟨4, nn⟩ : Gd))) ∧ Below w.heap.size w w' := by
  go_enter Try.func27, Try.ntmps27
  go_wp2_with (go_at_call 49; refine (l1In_any _ _ _ _).mono ?_; rintro e w' ⟨rfl, rfl⟩)
  all_goals go_ret
  all_goals exact ⟨ret_bool' (by unfold okGd; first | (simp_all; done) | (simp_all <;> (rw [Bool.eq_iff_iff]; simp))), (Below.refl _ w).alloc (Nat.le_refl _) _⟩

set_option maxHeartbeats 2000000 in
theorem sgk_x (g : Gd) (w : World) (h0 : (g.kd == 0) = false) (h1 : (g.kd == 1) = false) (h2 : (g.kd == 2) = false) (h3 : (g.kd == 3) = false) (h4 : (g.kd == 4) = false) : Calls Try.prog 27 #[(.agg #[.int .i64 g.kd, .int .i64 g.nn])] w fun e w' => e = .returned (.bool (okGd g)) ∧ Below w.heap.size w w' := by
  go_enter Try.func27, Try.ntmps27
  go_wp2_with (go_at_call 49; refine (l1In_any _ _ _ _).mono ?_; rintro e w' ⟨rfl, rfl⟩)
  all_goals go_ret
  all_goals exact ⟨ret_bool' (by unfold okGd; first | (simp_all; done) | (simp_all <;> (rw [Bool.eq_iff_iff]; simp))), (Below.refl _ w).alloc (Nat.le_refl _) _⟩

theorem specGuardOk_any (g : Gd) (w : World) : Calls Try.prog 27 #[(.agg #[.int .i64 g.kd, .int .i64 g.nn])] w fun e w' => e = .returned (.bool (okGd g)) ∧ Below w.heap.size w w' := by
  cases h0 : (g.kd == 0)
  case true =>
    obtain ⟨kd, nn⟩ := g
    have e : kd = 0 := by simpa using h0
    subst e
    exact sgk_0 nn w
  cases h1 : (g.kd == 1)
  case true =>
    obtain ⟨kd, nn⟩ := g
    have e : kd = 1 := by simpa using h1
    subst e
    exact sgk_1 nn w
  cases h2 : (g.kd == 2)
  case true =>
    obtain ⟨kd, nn⟩ := g
    have e : kd = 2 := by simpa using h2
    subst e
    exact sgk_2 nn w
  cases h3 : (g.kd == 3)
  case true =>
    obtain ⟨kd, nn⟩ := g
    have e : kd = 3 := by simpa using h3
    subst e
    exact sgk_3 nn w
  cases h4 : (g.kd == 4)
  case true =>
    obtain ⟨kd, nn⟩ := g
    have e : kd = 4 := by simpa using h4
    subst e
    exact sgk_4 nn w
  exact sgk_x g w h0 h1 h2 h3 h4
set_option maxHeartbeats 2000000 in
theorem str_g (g h : Gd) (w : World) (kg : okGd g = false) : Calls Try.prog 28 #[(.agg #[.int .i64 g.kd, .int .i64 g.nn]), (.agg #[.int .i64 h.kd, .int .i64 h.nn])] w fun e w' => e = .returned (.bool (srG g h)) ∧ Below w.heap.size w w' := by
  have HN : Hid (srG g h = false) := by show srG g h = false; unfold srG; rw [kg]; rfl
  have HG : Hid (∀ w : World, Calls Try.prog 27 #[(.agg #[.int .i64 g.kd, .int .i64 g.nn])] w fun e w' => e = .returned (.bool false) ∧ Below w.heap.size w w') := fun w => by have := specGuardOk_any g w; rw [kg] at this; exact this
  have HB := ((Below.refl _ w).alloc (Nat.le_refl _) (.cells #[.int .i64 g.kd, .int .i64 g.nn] 42)).alloc (by simp) (.cells #[.int .i64 h.kd, .int .i64 h.nn] 42)
  have bp := (boxGd_new w 42 g).alloc (.cells #[.int .i64 h.kd, .int .i64 h.nn] 42)
  have bq : BoxGd ((w.alloc (.cells #[.int .i64 g.kd, .int .i64 g.nn] 42)).alloc (.cells #[.int .i64 h.kd, .int .i64 h.nn] 42)) (w.heap.size + 1) 42 h := heap_alloc2_new _ _ _
  generalize hW : (w.alloc (.cells #[.int .i64 g.kd, .int .i64 g.nn] 42)).alloc (.cells #[.int .i64 h.kd, .int .i64 h.nn] 42) = W at HB bp bq
  obtain ⟨a0, a1⟩ : CellsGd _ _ _ := bp.cells
  obtain ⟨b0, b1⟩ : CellsGd _ _ _ := bq.cells
  go_enter Try.func28, Try.ntmps28
  go_wp2_with fail
  refine (HG.out _).mono ?_
  rintro e v1 ⟨rfl, hb⟩
  replace HB := below_app HB hb HB.size
  go_wp2
  go_ret
  exact ⟨ret_bool' HN.out.symm, HB⟩
set_option maxHeartbeats 2000000 in
theorem str_h (g h : Gd) (w : World) (kg : okGd g = true) (kh : okGd h = false) : Calls Try.prog 28 #[(.agg #[.int .i64 g.kd, .int .i64 g.nn]), (.agg #[.int .i64 h.kd, .int .i64 h.nn])] w fun e w' => e = .returned (.bool (srG g h)) ∧ Below w.heap.size w w' := by
  have HN : Hid (srG g h = false) := by show srG g h = false; unfold srG; rw [kg, kh]; rfl
  have HG : Hid (∀ w : World, Calls Try.prog 27 #[(.agg #[.int .i64 g.kd, .int .i64 g.nn])] w fun e w' => e = .returned (.bool true) ∧ Below w.heap.size w w') := fun w => by have := specGuardOk_any g w; rw [kg] at this; exact this
  have HH : Hid (∀ w : World, Calls Try.prog 27 #[(.agg #[.int .i64 h.kd, .int .i64 h.nn])] w fun e w' => e = .returned (.bool false) ∧ Below w.heap.size w w') := fun w => by have := specGuardOk_any h w; rw [kh] at this; exact this
  have HB := ((Below.refl _ w).alloc (Nat.le_refl _) (.cells #[.int .i64 g.kd, .int .i64 g.nn] 42)).alloc (by simp) (.cells #[.int .i64 h.kd, .int .i64 h.nn] 42)
  have bp := (boxGd_new w 42 g).alloc (.cells #[.int .i64 h.kd, .int .i64 h.nn] 42)
  have bq : BoxGd ((w.alloc (.cells #[.int .i64 g.kd, .int .i64 g.nn] 42)).alloc (.cells #[.int .i64 h.kd, .int .i64 h.nn] 42)) (w.heap.size + 1) 42 h := heap_alloc2_new _ _ _
  generalize hW : (w.alloc (.cells #[.int .i64 g.kd, .int .i64 g.nn] 42)).alloc (.cells #[.int .i64 h.kd, .int .i64 h.nn] 42) = W at HB bp bq
  obtain ⟨a0, a1⟩ : CellsGd _ _ _ := bp.cells
  obtain ⟨b0, b1⟩ : CellsGd _ _ _ := bq.cells
  go_enter Try.func28, Try.ntmps28
  go_wp2_with fail
  refine (HG.out _).mono ?_
  rintro e v1 ⟨rfl, hb⟩
  clear hW
  replace bp := bp.grew hb
  replace bq := bq.grew hb
  replace HB := below_app HB hb HB.size
  clear hb a0 a1 b0 b1
  obtain ⟨a0, a1⟩ : CellsGd _ _ _ := bp.cells
  obtain ⟨b0, b1⟩ : CellsGd _ _ _ := bq.cells
  go_wp2_with fail
  refine (HH.out _).mono ?_
  rintro e v2 ⟨rfl, hb⟩
  replace HB := below_app HB hb HB.size
  go_wp2
  go_ret
  exact ⟨ret_bool' HN.out.symm, HB⟩
set_option maxHeartbeats 4000000 in
theorem str_all (g h : Gd) (w : World) (kg : okGd g = true) (kh : okGd h = true) : Calls Try.prog 28 #[(.agg #[.int .i64 g.kd, .int .i64 g.nn]), (.agg #[.int .i64 h.kd, .int .i64 h.nn])] w fun e w' => e = .returned (.bool (srG g h)) ∧ Below w.heap.size w w' := by
  have HN : Hid (srG g h = (decide (h.kd = 0) || (decide (g.kd = h.kd) && (bif decide (g.kd = 1) then decide (g.nn ≤ h.nn) else decide (h.nn ≤ g.nn))))) := by show srG g h = _; unfold srG; rw [kg, kh]; rfl
  have HG : Hid (∀ w : World, Calls Try.prog 27 #[(.agg #[.int .i64 g.kd, .int .i64 g.nn])] w fun e w' => e = .returned (.bool true) ∧ Below w.heap.size w w') := fun w => by have := specGuardOk_any g w; rw [kg] at this; exact this
  have HH : Hid (∀ w : World, Calls Try.prog 27 #[(.agg #[.int .i64 h.kd, .int .i64 h.nn])] w fun e w' => e = .returned (.bool true) ∧ Below w.heap.size w w') := fun w => by have := specGuardOk_any h w; rw [kh] at this; exact this
  have HB := ((Below.refl _ w).alloc (Nat.le_refl _) (.cells #[.int .i64 g.kd, .int .i64 g.nn] 42)).alloc (by simp) (.cells #[.int .i64 h.kd, .int .i64 h.nn] 42)
  have bp := (boxGd_new w 42 g).alloc (.cells #[.int .i64 h.kd, .int .i64 h.nn] 42)
  have bq : BoxGd ((w.alloc (.cells #[.int .i64 g.kd, .int .i64 g.nn] 42)).alloc (.cells #[.int .i64 h.kd, .int .i64 h.nn] 42)) (w.heap.size + 1) 42 h := heap_alloc2_new _ _ _
  generalize hW : (w.alloc (.cells #[.int .i64 g.kd, .int .i64 g.nn] 42)).alloc (.cells #[.int .i64 h.kd, .int .i64 h.nn] 42) = W at HB bp bq
  obtain ⟨a0, a1⟩ : CellsGd _ _ _ := bp.cells
  obtain ⟨b0, b1⟩ : CellsGd _ _ _ := bq.cells
  go_enter Try.func28, Try.ntmps28
  go_wp2_with fail
  refine (HG.out _).mono ?_
  rintro e v1 ⟨rfl, hb⟩
  clear hW
  replace bp := bp.grew hb
  replace bq := bq.grew hb
  replace HB := below_app HB hb HB.size
  clear hb a0 a1 b0 b1
  obtain ⟨a0, a1⟩ : CellsGd _ _ _ := bp.cells
  obtain ⟨b0, b1⟩ : CellsGd _ _ _ := bq.cells
  go_wp2_with fail
  refine (HH.out _).mono ?_
  rintro e v2 ⟨rfl, hb⟩
  replace bp := bp.grew hb
  replace bq := bq.grew hb
  replace HB := below_app HB hb HB.size
  clear hb a0 a1 b0 b1
  obtain ⟨a0, a1⟩ : CellsGd _ _ _ := bp.cells
  obtain ⟨b0, b1⟩ : CellsGd _ _ _ := bq.cells
  clear kg kh
  go_wp2
  all_goals go_ret
  all_goals refine ⟨ret_bool' ?_, HB⟩
  all_goals (rw [HN.out]; clear a0 a1 b0 b1 HN HG HH; simp_all)
theorem specStronger_any (g h : Gd) (w : World) : Calls Try.prog 28 #[(.agg #[.int .i64 g.kd, .int .i64 g.nn]), (.agg #[.int .i64 h.kd, .int .i64 h.nn])] w fun e w' => e = .returned (.bool (srG g h)) ∧ Below w.heap.size w w' := by
  cases kg : okGd g
  case false => exact str_g g h w kg
  cases kh : okGd h
  case false => exact str_h g h w kg kh
  exact str_all g h w kg kh
end Go.Proofs.Ytnlnledijpcjpac
namespace Go.Proofs.Ytnlnledijpcjpac
open Go.ChangeShapes Go.WideShapes Go.ChangeAt Go.RowKit
set_option maxRecDepth 100000
set_option linter.unusedVariables false
set_option linter.unusedSimpArgs false

def mnP (side : Int) (p : Pc) : Bool := decide (p.zo = 2) && decide (p.si = side)
def bnP (side : Int) (p : Pc) : Bool := decide (p.zo = 2) && decide (p.si = side) && p.be
/-- how many of the first n are so -/
def cnG (f : Pc → Bool) (n : Nat) (ps : Nat → Pc) : Nat := ((List.range n).filter (fun i => f (ps i))).length
theorem cnG_yes {f : Pc → Bool} {k : Nat} {ps : Nat → Pc} (h : f (ps k) = true) : cnG f (k + 1) ps = cnG f k ps + 1 := by unfold cnG; rw [List.range_succ, List.filter_append]; simp [h]
theorem cnG_no {f : Pc → Bool} {k : Nat} {ps : Nat → Pc} (h : f (ps k) = false) : cnG f (k + 1) ps = cnG f k ps := by unfold cnG; rw [List.range_succ, List.filter_append]; simp [h]
theorem cnG_le (f : Pc → Bool) (n : Nat) (ps : Nat → Pc) : cnG f n ps ≤ n := by unfold cnG; exact Nat.le_trans (List.length_filter_le _ _) (by simp)
/-- how many pieces this side has on the field; how many of them are bent -/
def mnG (s : Stt) (side : Int) : Nat := cnG (mnP side) s.pn s.ps
def bnG (s : Stt) (side : Int) : Nat := cnG (bnP side) s.pn s.ps
set_option maxHeartbeats 4000000 in
theorem specL8Many_any (s : Stt) (side : Int) (w : World) (hok : s.ok w) (hn : s.pn ≤ 1048576) : Calls Try.prog 59 #[(.agg #[.slice s.pa s.pn s.pcap, .slice s.sa s.sn s.scap, .int .i64 s.ac, .int .i64 s.cl]), .int .i64 side] w fun e w' => e = .returned (.int .i64 (mnG s side)) ∧ Below w.heap.size w w' := by
  obtain ⟨_, _, r1, _⟩ := hok
  have hb0 := (Below.refl _ w).alloc (Nat.le_refl _) (.cells #[.slice s.pa s.pn s.pcap, .slice s.sa s.sn s.scap, .int .i64 s.ac, .int .i64 s.cl] 27)
  have x1 := boxR_new w 27 #[.slice s.pa s.pn s.pcap, .slice s.sa s.sn s.scap, .int .i64 s.ac, .int .i64 s.cl]
  generalize hW : w.alloc (.cells #[.slice s.pa s.pn s.pcap, .slice s.sa s.sn s.scap, .int .i64 s.ac, .int .i64 s.cl] 27) = W at hb0 x1
  go_enter Try.func59, Try.ntmps59
  go_wp2
  clear hW
  go_loopw [5, 6] (fun c i wr => ∃ k : Nat, k ≤ s.pn ∧ i = .int .i64 k ∧ c = .int .i64 (cnG (mnP side) k s.ps) ∧ wr = W) (fun _ i _ => s.pn - (intOf i).toNat)
  case atStart => exact ⟨0, Nat.zero_le _, rfl, rfl, rfl⟩
  case round =>
    obtain ⟨k, hk, rfl, rfl, rfl⟩ := hrel
    have c0 := x1.cell 0
    simp at c0
    by_cases hlt : k < s.pn
    · rcases r1.grew pcC_ne hb0 with g1 | ⟨o1, hpa, g1⟩
      · omega
      rw [hpa] at c0
      have k2 := g1 k hlt 2 _ rfl
      have k3 := g1 k hlt 3 _ rfl
      have k12 := g1 k hlt 12 _ rfl
      have hl := cnG_le (mnP side) k s.ps
      clear hpa g1
      have y1 : (0 : Int) ≤ (k : Int) := by omega
      have y2 : (k : Int) < (s.pn : Int) := by omega
      cases q3 : ((s.ps k).zo == 2)
      case false =>
        have hf : mnP side (s.ps k) = false := by unfold mnP; simp_all
        have HE : Hid (cnG (mnP side) (k + 1) s.ps = cnG (mnP side) k s.ps) := cnG_no hf
        clear hf
        go_wp2
        go_roundw
        case rel => first | exact ⟨k + 1, by omega, by go_num, by (rw [HE.out]; try (first | go_num | simp)), by first | rfl | trivial⟩ | ((repeat apply Exists.intro); exact ⟨⟨k + 1, by omega, by go_num, by (rw [HE.out]; try (first | go_num | simp)), by first | rfl | trivial⟩, rfl⟩)
        case measure => simp [intOf]; omega
      case true =>
        cases q2 : ((s.ps k).si == side)
        case false =>
          have hf : mnP side (s.ps k) = false := by unfold mnP; simp_all
          have HE : Hid (cnG (mnP side) (k + 1) s.ps = cnG (mnP side) k s.ps) := cnG_no hf
          clear hf
          go_wp2
          go_roundw
          case rel => first | exact ⟨k + 1, by omega, by go_num, by (rw [HE.out]; try (first | go_num | simp)), by first | rfl | trivial⟩ | ((repeat apply Exists.intro); exact ⟨⟨k + 1, by omega, by go_num, by (rw [HE.out]; try (first | go_num | simp)), by first | rfl | trivial⟩, rfl⟩)
          case measure => simp [intOf]; omega
        case true =>
          have hf : mnP side (s.ps k) = true := by unfold mnP; simp_all
          have HE : Hid (cnG (mnP side) (k + 1) s.ps = cnG (mnP side) k s.ps + 1) := cnG_yes hf
          clear hf
          go_wp2
          go_roundw
          case rel => first | exact ⟨k + 1, by omega, by go_num, by (rw [HE.out]; try (first | go_num | simp)), by first | rfl | trivial⟩ | ((repeat apply Exists.intro); exact ⟨⟨k + 1, by omega, by go_num, by (rw [HE.out]; try (first | go_num | simp)), by first | rfl | trivial⟩, rfl⟩)
          case measure => simp [intOf]; omega
    · obtain rfl : k = s.pn := by omega
      go_wp2
      go_ret
      exact ⟨rfl, hb0⟩
set_option maxHeartbeats 4000000 in
theorem specBentOf_any (s : Stt) (side : Int) (w : World) (hok : s.ok w) (hn : s.pn ≤ 1048576) : Calls Try.prog 30 #[(.agg #[.slice s.pa s.pn s.pcap, .slice s.sa s.sn s.scap, .int .i64 s.ac, .int .i64 s.cl]), .int .i64 side] w fun e w' => e = .returned (.int .i64 (bnG s side)) ∧ Below w.heap.size w w' := by
  obtain ⟨_, _, r1, _⟩ := hok
  have hb0 := (Below.refl _ w).alloc (Nat.le_refl _) (.cells #[.slice s.pa s.pn s.pcap, .slice s.sa s.sn s.scap, .int .i64 s.ac, .int .i64 s.cl] 27)
  have x1 := boxR_new w 27 #[.slice s.pa s.pn s.pcap, .slice s.sa s.sn s.scap, .int .i64 s.ac, .int .i64 s.cl]
  generalize hW : w.alloc (.cells #[.slice s.pa s.pn s.pcap, .slice s.sa s.sn s.scap, .int .i64 s.ac, .int .i64 s.cl] 27) = W at hb0 x1
  go_enter Try.func30, Try.ntmps30
  go_wp2
  clear hW
  go_loopw [5, 6] (fun c i wr => ∃ k : Nat, k ≤ s.pn ∧ i = .int .i64 k ∧ c = .int .i64 (cnG (bnP side) k s.ps) ∧ wr = W) (fun _ i _ => s.pn - (intOf i).toNat)
  case atStart => exact ⟨0, Nat.zero_le _, rfl, rfl, rfl⟩
  case round =>
    obtain ⟨k, hk, rfl, rfl, rfl⟩ := hrel
    have c0 := x1.cell 0
    simp at c0
    by_cases hlt : k < s.pn
    · rcases r1.grew pcC_ne hb0 with g1 | ⟨o1, hpa, g1⟩
      · omega
      rw [hpa] at c0
      have k2 := g1 k hlt 2 _ rfl
      have k3 := g1 k hlt 3 _ rfl
      have k12 := g1 k hlt 12 _ rfl
      have hl := cnG_le (bnP side) k s.ps
      clear hpa g1
      have y1 : (0 : Int) ≤ (k : Int) := by omega
      have y2 : (k : Int) < (s.pn : Int) := by omega
      cases q3 : ((s.ps k).zo == 2)
      case false =>
        have hf : bnP side (s.ps k) = false := by unfold bnP; simp_all
        have HE : Hid (cnG (bnP side) (k + 1) s.ps = cnG (bnP side) k s.ps) := cnG_no hf
        clear hf
        go_wp2
        go_roundw
        case rel => first | exact ⟨k + 1, by omega, by go_num, by (rw [HE.out]; try (first | go_num | simp)), by first | rfl | trivial⟩ | ((repeat apply Exists.intro); exact ⟨⟨k + 1, by omega, by go_num, by (rw [HE.out]; try (first | go_num | simp)), by first | rfl | trivial⟩, rfl⟩)
        case measure => simp [intOf]; omega
      case true =>
        cases q2 : ((s.ps k).si == side)
        case false =>
          have hf : bnP side (s.ps k) = false := by unfold bnP; simp_all
          have HE : Hid (cnG (bnP side) (k + 1) s.ps = cnG (bnP side) k s.ps) := cnG_no hf
          clear hf
          go_wp2
          go_roundw
          case rel => first | exact ⟨k + 1, by omega, by go_num, by (rw [HE.out]; try (first | go_num | simp)), by first | rfl | trivial⟩ | ((repeat apply Exists.intro); exact ⟨⟨k + 1, by omega, by go_num, by (rw [HE.out]; try (first | go_num | simp)), by first | rfl | trivial⟩, rfl⟩)
          case measure => simp [intOf]; omega
        case true =>
          cases q1 : (s.ps k).be
          case false =>
            rw [q1] at k12
            have hf : bnP side (s.ps k) = false := by unfold bnP; simp_all
            have HE : Hid (cnG (bnP side) (k + 1) s.ps = cnG (bnP side) k s.ps) := cnG_no hf
            clear hf
            go_wp2
            go_roundw
            case rel => first | exact ⟨k + 1, by omega, by go_num, by (rw [HE.out]; try (first | go_num | simp)), by first | rfl | trivial⟩ | ((repeat apply Exists.intro); exact ⟨⟨k + 1, by omega, by go_num, by (rw [HE.out]; try (first | go_num | simp)), by first | rfl | trivial⟩, rfl⟩)
            case measure => simp [intOf]; omega
          case true =>
            rw [q1] at k12
            have hf : bnP side (s.ps k) = true := by unfold bnP; simp_all
            have HE : Hid (cnG (bnP side) (k + 1) s.ps = cnG (bnP side) k s.ps + 1) := cnG_yes hf
            clear hf
            go_wp2
            go_roundw
            case rel => first | exact ⟨k + 1, by omega, by go_num, by (rw [HE.out]; try (first | go_num | simp)), by first | rfl | trivial⟩ | ((repeat apply Exists.intro); exact ⟨⟨k + 1, by omega, by go_num, by (rw [HE.out]; try (first | go_num | simp)), by first | rfl | trivial⟩, rfl⟩)
            case measure => simp [intOf]; omega
    · obtain rfl : k = s.pn := by omega
      go_wp2
      go_ret
      exact ⟨rfl, hb0⟩
end Go.Proofs.Ytnlnledijpcjpac
namespace Go.Proofs.Ytnlnledijpcjpac
open Go.ChangeShapes Go.WideShapes Go.ChangeAt Go.RowKit
set_option maxRecDepth 100000
set_option linter.unusedVariables false
set_option linter.unusedSimpArgs false

def hdK (s : Stt) (side : Int) (g : Gd) : Bool := bif decide (g.kd = 1) then decide ((s.ss side.toNat).li ≤ g.nn) else bif decide (g.kd = 2) then decide (g.nn ≤ (mnG s side : Int)) else bif decide (g.kd = 3) then decide (s.ac = side) else bif decide (g.kd = 4) then decide (g.nn ≤ (bnG s side : Int)) else true
/-- whether it holds of this side -/
def hdG (s : Stt) (side : Int) (g : Gd) : Bool := okGd g && ib side 0 ((s.sn : Int) - 1) && hdK s side g
theorem okGd_kd {g : Gd} (h : okGd g = true) : g.kd = 0 ∨ g.kd = 1 ∨ g.kd = 2 ∨ g.kd = 3 ∨ g.kd = 4 := by
  unfold okGd at h
  by_cases h0 : g.kd = 0
  · exact .inl h0
  by_cases h1 : g.kd = 1
  · exact .inr (.inl h1)
  by_cases h3 : g.kd = 3
  · exact .inr (.inr (.inr (.inl h3)))
  simp [h0, h1, h3] at h
  omega
theorem ib_bd {x a b : Int} (h : ib x a b = true) : a ≤ x ∧ x ≤ b := by unfold ib at h; simp at h; exact h
theorem hdG_no {s : Stt} {side : Int} {g : Gd} (h : okGd g = false ∨ ib side 0 ((s.sn : Int) - 1) = false) : hdG s side g = false := by unfold hdG; rcases h with h | h <;> rw [h] <;> simp
theorem hdG_yes {s : Stt} {side : Int} {g : Gd} (h : okGd g = true) (k : ib side 0 ((s.sn : Int) - 1) = true) : hdG s side g = hdK s side g := by unfold hdG; rw [h, k]; rfl
set_option maxHeartbeats 4000000 in
theorem hol_g (s : Stt) (side : Int) (g : Gd) (w : World) (hok : s.ok w) (hn : s.pn ≤ 1048576) (hn2 : s.sn ≤ 1048576) (hg : okGd g = false) : Calls Try.prog 25 #[(.agg #[.slice s.pa s.pn s.pcap, .slice s.sa s.sn s.scap, .int .i64 s.ac, .int .i64 s.cl]), .int .i64 side, (.agg #[.int .i64 g.kd, .int .i64 g.nn])] w fun e w' => e = .returned (.bool (hdG s side g)) ∧ Below w.heap.size w w' := by
  have HA : Hid (hdG s side g = false) := by show hdG s side g = _; exact hdG_no (.inl hg)
  have HB := ((Below.refl _ w).alloc (Nat.le_refl _) (.cells #[.slice s.pa s.pn s.pcap, .slice s.sa s.sn s.scap, .int .i64 s.ac, .int .i64 s.cl] 27)).alloc (by simp) (.cells #[.int .i64 g.kd, .int .i64 g.nn] 42)
  have x1 := (boxR_new w 27 #[.slice s.pa s.pn s.pcap, .slice s.sa s.sn s.scap, .int .i64 s.ac, .int .i64 s.cl]).alloc (.cells #[.int .i64 g.kd, .int .i64 g.nn] 42)
  have x2 : BoxGd ((w.alloc (.cells #[.slice s.pa s.pn s.pcap, .slice s.sa s.sn s.scap, .int .i64 s.ac, .int .i64 s.cl] 27)).alloc (.cells #[.int .i64 g.kd, .int .i64 g.nn] 42)) (w.heap.size + 1) 42 g := heap_alloc2_new _ _ _
  generalize hW : (w.alloc (.cells #[.slice s.pa s.pn s.pcap, .slice s.sa s.sn s.scap, .int .i64 s.ac, .int .i64 s.cl] 27)).alloc (.cells #[.int .i64 g.kd, .int .i64 g.nn] 42) = W at HB x1 x2
  have SK : Hid (∀ u : World, Below W.heap.size W u → u.cell? ⟨w.heap.size, 0, none⟩ = some (.slice s.pa s.pn s.pcap) ∧ u.cell? ⟨w.heap.size, 1, none⟩ = some (.slice s.sa s.sn s.scap) ∧ u.cell? ⟨w.heap.size, 2, none⟩ = some (.int .i64 s.ac) ∧ u.cell? ⟨w.heap.size, 3, none⟩ = some (.int .i64 s.cl) ∧ u.cell? ⟨w.heap.size + 1, 0, none⟩ = some (.int .i64 g.kd) ∧ u.cell? ⟨w.heap.size + 1, 1, none⟩ = some (.int .i64 g.nn)) := fun u hu => by
    have y1 := x1.grew hu
    obtain ⟨b0, b1⟩ : CellsGd _ _ _ := (x2.grew hu).cells
    exact ⟨y1.cell 0, y1.cell 1, y1.cell 2, y1.cell 3, b0, b1⟩
  have HG : Hid (∀ w : World, Calls Try.prog 27 #[(.agg #[.int .i64 g.kd, .int .i64 g.nn])] w fun e w' => e = .returned (.bool false) ∧ Below w.heap.size w w') := fun w => by have := specGuardOk_any g w; rw [hg] at this; exact this
  have HI : Hid (∀ w : World, Calls Try.prog 49 #[.int .i64 side, .int .i64 0, .int .i64 ((s.sn : Int) - 1)] w fun e w' => e = .returned (.bool (ib side 0 ((s.sn : Int) - 1))) ∧ w' = w) := fun w => by have := l1In_any side 0 ((s.sn : Int) - 1) w; skip; exact this
  clear hg
  obtain ⟨c0, c1, c2, c3, b0, b1⟩ := SK.out W (Below.refl _ _)
  clear x1 x2
  go_enter Try.func25, Try.ntmps25
  go_wp2_with fail
  refine (HG.out _).mono ?_
  rintro e v1 ⟨rfl, hb⟩
  have HB1 := below_app HB hb HB.size
  clear hW c0 c1 c2 c3 b0 b1
  obtain ⟨c0, c1, c2, c3, b0, b1⟩ := SK.out v1 hb
  go_wp2
  go_ret
  exact ⟨ret_bool' HA.out.symm, HB1⟩
set_option maxHeartbeats 4000000 in
theorem hol_i (s : Stt) (side : Int) (g : Gd) (w : World) (hok : s.ok w) (hn : s.pn ≤ 1048576) (hn2 : s.sn ≤ 1048576) (hg : okGd g = true) (hi : ib side 0 ((s.sn : Int) - 1) = false) : Calls Try.prog 25 #[(.agg #[.slice s.pa s.pn s.pcap, .slice s.sa s.sn s.scap, .int .i64 s.ac, .int .i64 s.cl]), .int .i64 side, (.agg #[.int .i64 g.kd, .int .i64 g.nn])] w fun e w' => e = .returned (.bool (hdG s side g)) ∧ Below w.heap.size w w' := by
  have HA : Hid (hdG s side g = false) := by show hdG s side g = _; exact hdG_no (.inr hi)
  have HB := ((Below.refl _ w).alloc (Nat.le_refl _) (.cells #[.slice s.pa s.pn s.pcap, .slice s.sa s.sn s.scap, .int .i64 s.ac, .int .i64 s.cl] 27)).alloc (by simp) (.cells #[.int .i64 g.kd, .int .i64 g.nn] 42)
  have x1 := (boxR_new w 27 #[.slice s.pa s.pn s.pcap, .slice s.sa s.sn s.scap, .int .i64 s.ac, .int .i64 s.cl]).alloc (.cells #[.int .i64 g.kd, .int .i64 g.nn] 42)
  have x2 : BoxGd ((w.alloc (.cells #[.slice s.pa s.pn s.pcap, .slice s.sa s.sn s.scap, .int .i64 s.ac, .int .i64 s.cl] 27)).alloc (.cells #[.int .i64 g.kd, .int .i64 g.nn] 42)) (w.heap.size + 1) 42 g := heap_alloc2_new _ _ _
  generalize hW : (w.alloc (.cells #[.slice s.pa s.pn s.pcap, .slice s.sa s.sn s.scap, .int .i64 s.ac, .int .i64 s.cl] 27)).alloc (.cells #[.int .i64 g.kd, .int .i64 g.nn] 42) = W at HB x1 x2
  have SK : Hid (∀ u : World, Below W.heap.size W u → u.cell? ⟨w.heap.size, 0, none⟩ = some (.slice s.pa s.pn s.pcap) ∧ u.cell? ⟨w.heap.size, 1, none⟩ = some (.slice s.sa s.sn s.scap) ∧ u.cell? ⟨w.heap.size, 2, none⟩ = some (.int .i64 s.ac) ∧ u.cell? ⟨w.heap.size, 3, none⟩ = some (.int .i64 s.cl) ∧ u.cell? ⟨w.heap.size + 1, 0, none⟩ = some (.int .i64 g.kd) ∧ u.cell? ⟨w.heap.size + 1, 1, none⟩ = some (.int .i64 g.nn)) := fun u hu => by
    have y1 := x1.grew hu
    obtain ⟨b0, b1⟩ : CellsGd _ _ _ := (x2.grew hu).cells
    exact ⟨y1.cell 0, y1.cell 1, y1.cell 2, y1.cell 3, b0, b1⟩
  have HG : Hid (∀ w : World, Calls Try.prog 27 #[(.agg #[.int .i64 g.kd, .int .i64 g.nn])] w fun e w' => e = .returned (.bool true) ∧ Below w.heap.size w w') := fun w => by have := specGuardOk_any g w; rw [hg] at this; exact this
  have HI : Hid (∀ w : World, Calls Try.prog 49 #[.int .i64 side, .int .i64 0, .int .i64 ((s.sn : Int) - 1)] w fun e w' => e = .returned (.bool false) ∧ w' = w) := fun w => by have := l1In_any side 0 ((s.sn : Int) - 1) w; rw [hi] at this; exact this
  clear hg
  obtain ⟨c0, c1, c2, c3, b0, b1⟩ := SK.out W (Below.refl _ _)
  clear x1 x2
  go_enter Try.func25, Try.ntmps25
  go_wp2_with fail
  refine (HG.out _).mono ?_
  rintro e v1 ⟨rfl, hb⟩
  have HB1 := below_app HB hb HB.size
  clear hW c0 c1 c2 c3 b0 b1
  obtain ⟨c0, c1, c2, c3, b0, b1⟩ := SK.out v1 hb
  go_wp2_with fail
  refine (HI.out _).mono ?_
  rintro e v2 ⟨rfl, rfl⟩
  go_wp2
  go_ret
  exact ⟨ret_bool' HA.out.symm, HB1⟩
set_option maxHeartbeats 4000000 in
theorem hol_0 (s : Stt) (side : Int) (nn : Int) (w : World) (hok : s.ok w) (hn : s.pn ≤ 1048576) (hn2 : s.sn ≤ 1048576) (hg : okGd (⟨0, nn⟩ : Gd) = true) (hi : ib side 0 ((s.sn : Int) - 1) = true) : Calls Try.prog 25 #[(.agg #[.slice s.pa s.pn s.pcap, .slice s.sa s.sn s.scap, .int .i64 s.ac, .int .i64 s.cl]), .int .i64 side, (.agg #[.int .i64 0, .int .i64 nn])] w fun e w' => e = .returned (.bool (hdG s side (⟨0, nn⟩ : Gd))) ∧ Below w.heap.size w w' := by
  have HA : Hid (hdG s side (⟨0, nn⟩ : Gd) = hdK s side (⟨0, nn⟩ : Gd)) := by show hdG s side (⟨0, nn⟩ : Gd) = _; exact hdG_yes hg hi
  have HB := ((Below.refl _ w).alloc (Nat.le_refl _) (.cells #[.slice s.pa s.pn s.pcap, .slice s.sa s.sn s.scap, .int .i64 s.ac, .int .i64 s.cl] 27)).alloc (by simp) (.cells #[.int .i64 0, .int .i64 nn] 42)
  have x1 := (boxR_new w 27 #[.slice s.pa s.pn s.pcap, .slice s.sa s.sn s.scap, .int .i64 s.ac, .int .i64 s.cl]).alloc (.cells #[.int .i64 0, .int .i64 nn] 42)
  have x2 : BoxGd ((w.alloc (.cells #[.slice s.pa s.pn s.pcap, .slice s.sa s.sn s.scap, .int .i64 s.ac, .int .i64 s.cl] 27)).alloc (.cells #[.int .i64 0, .int .i64 nn] 42)) (w.heap.size + 1) 42 (⟨0, nn⟩ : Gd) := heap_alloc2_new _ _ _
  generalize hW : (w.alloc (.cells #[.slice s.pa s.pn s.pcap, .slice s.sa s.sn s.scap, .int .i64 s.ac, .int .i64 s.cl] 27)).alloc (.cells #[.int .i64 0, .int .i64 nn] 42) = W at HB x1 x2
  have SK : Hid (∀ u : World, Below W.heap.size W u → u.cell? ⟨w.heap.size, 0, none⟩ = some (.slice s.pa s.pn s.pcap) ∧ u.cell? ⟨w.heap.size, 1, none⟩ = some (.slice s.sa s.sn s.scap) ∧ u.cell? ⟨w.heap.size, 2, none⟩ = some (.int .i64 s.ac) ∧ u.cell? ⟨w.heap.size, 3, none⟩ = some (.int .i64 s.cl) ∧ u.cell? ⟨w.heap.size + 1, 0, none⟩ = some (.int .i64 0) ∧ u.cell? ⟨w.heap.size + 1, 1, none⟩ = some (.int .i64 nn)) := fun u hu => by
    have y1 := x1.grew hu
    obtain ⟨b0, b1⟩ : CellsGd _ _ _ := (x2.grew hu).cells
    exact ⟨y1.cell 0, y1.cell 1, y1.cell 2, y1.cell 3, b0, b1⟩
  have HG : Hid (∀ w : World, Calls Try.prog 27 #[(.agg #[.int .i64 0, .int .i64 nn])] w fun e w' => e = .returned (.bool true) ∧ Below w.heap.size w w') := fun w => by have := specGuardOk_any (⟨0, nn⟩ : Gd) w; rw [hg] at this; exact this
  have HI : Hid (∀ w : World, Calls Try.prog 49 #[.int .i64 side, .int .i64 0, .int .i64 ((s.sn : Int) - 1)] w fun e w' => e = .returned (.bool true) ∧ w' = w) := fun w => by have := l1In_any side 0 ((s.sn : Int) - 1) w; rw [hi] at this; exact this
  clear hg
  obtain ⟨c0, c1, c2, c3, b0, b1⟩ := SK.out W (Below.refl _ _)
  clear x1 x2
  go_enter Try.func25, Try.ntmps25
  go_wp2_with fail
  refine (HG.out _).mono ?_
  rintro e v1 ⟨rfl, hb⟩
  have HB1 := below_app HB hb HB.size
  clear hW c0 c1 c2 c3 b0 b1
  obtain ⟨c0, c1, c2, c3, b0, b1⟩ := SK.out v1 hb
  have hsd := ib_bd hi
  clear hi
  go_wp2_with fail
  refine (HI.out _).mono ?_
  rintro e v2 ⟨rfl, rfl⟩
  go_wp2
  go_ret
  exact ⟨ret_bool' (by rw [HA.out]; rfl), HB1⟩
set_option maxHeartbeats 4000000 in
theorem hol_3 (s : Stt) (side : Int) (nn : Int) (w : World) (hok : s.ok w) (hn : s.pn ≤ 1048576) (hn2 : s.sn ≤ 1048576) (hg : okGd (⟨3, nn⟩ : Gd) = true) (hi : ib side 0 ((s.sn : Int) - 1) = true) : Calls Try.prog 25 #[(.agg #[.slice s.pa s.pn s.pcap, .slice s.sa s.sn s.scap, .int .i64 s.ac, .int .i64 s.cl]), .int .i64 side, (.agg #[.int .i64 3, .int .i64 nn])] w fun e w' => e = .returned (.bool (hdG s side (⟨3, nn⟩ : Gd))) ∧ Below w.heap.size w w' := by
  have HA : Hid (hdG s side (⟨3, nn⟩ : Gd) = hdK s side (⟨3, nn⟩ : Gd)) := by show hdG s side (⟨3, nn⟩ : Gd) = _; exact hdG_yes hg hi
  have HB := ((Below.refl _ w).alloc (Nat.le_refl _) (.cells #[.slice s.pa s.pn s.pcap, .slice s.sa s.sn s.scap, .int .i64 s.ac, .int .i64 s.cl] 27)).alloc (by simp) (.cells #[.int .i64 3, .int .i64 nn] 42)
  have x1 := (boxR_new w 27 #[.slice s.pa s.pn s.pcap, .slice s.sa s.sn s.scap, .int .i64 s.ac, .int .i64 s.cl]).alloc (.cells #[.int .i64 3, .int .i64 nn] 42)
  have x2 : BoxGd ((w.alloc (.cells #[.slice s.pa s.pn s.pcap, .slice s.sa s.sn s.scap, .int .i64 s.ac, .int .i64 s.cl] 27)).alloc (.cells #[.int .i64 3, .int .i64 nn] 42)) (w.heap.size + 1) 42 (⟨3, nn⟩ : Gd) := heap_alloc2_new _ _ _
  generalize hW : (w.alloc (.cells #[.slice s.pa s.pn s.pcap, .slice s.sa s.sn s.scap, .int .i64 s.ac, .int .i64 s.cl] 27)).alloc (.cells #[.int .i64 3, .int .i64 nn] 42) = W at HB x1 x2
  have SK : Hid (∀ u : World, Below W.heap.size W u → u.cell? ⟨w.heap.size, 0, none⟩ = some (.slice s.pa s.pn s.pcap) ∧ u.cell? ⟨w.heap.size, 1, none⟩ = some (.slice s.sa s.sn s.scap) ∧ u.cell? ⟨w.heap.size, 2, none⟩ = some (.int .i64 s.ac) ∧ u.cell? ⟨w.heap.size, 3, none⟩ = some (.int .i64 s.cl) ∧ u.cell? ⟨w.heap.size + 1, 0, none⟩ = some (.int .i64 3) ∧ u.cell? ⟨w.heap.size + 1, 1, none⟩ = some (.int .i64 nn)) := fun u hu => by
    have y1 := x1.grew hu
    obtain ⟨b0, b1⟩ : CellsGd _ _ _ := (x2.grew hu).cells
    exact ⟨y1.cell 0, y1.cell 1, y1.cell 2, y1.cell 3, b0, b1⟩
  have HG : Hid (∀ w : World, Calls Try.prog 27 #[(.agg #[.int .i64 3, .int .i64 nn])] w fun e w' => e = .returned (.bool true) ∧ Below w.heap.size w w') := fun w => by have := specGuardOk_any (⟨3, nn⟩ : Gd) w; rw [hg] at this; exact this
  have HI : Hid (∀ w : World, Calls Try.prog 49 #[.int .i64 side, .int .i64 0, .int .i64 ((s.sn : Int) - 1)] w fun e w' => e = .returned (.bool true) ∧ w' = w) := fun w => by have := l1In_any side 0 ((s.sn : Int) - 1) w; rw [hi] at this; exact this
  clear hg
  obtain ⟨c0, c1, c2, c3, b0, b1⟩ := SK.out W (Below.refl _ _)
  clear x1 x2
  go_enter Try.func25, Try.ntmps25
  go_wp2_with fail
  refine (HG.out _).mono ?_
  rintro e v1 ⟨rfl, hb⟩
  have HB1 := below_app HB hb HB.size
  clear hW c0 c1 c2 c3 b0 b1
  obtain ⟨c0, c1, c2, c3, b0, b1⟩ := SK.out v1 hb
  have hsd := ib_bd hi
  clear hi
  go_wp2_with fail
  refine (HI.out _).mono ?_
  rintro e v2 ⟨rfl, rfl⟩
  go_wp2
  go_ret
  exact ⟨ret_bool' (by rw [HA.out]; unfold hdK; first | rfl | (rw [Bool.eq_iff_iff]; simp)), HB1⟩
set_option maxHeartbeats 4000000 in
theorem hol_1 (s : Stt) (side : Int) (nn : Int) (w : World) (hok : s.ok w) (hn : s.pn ≤ 1048576) (hn2 : s.sn ≤ 1048576) (hg : okGd (⟨1, nn⟩ : Gd) = true) (hi : ib side 0 ((s.sn : Int) - 1) = true) : Calls Try.prog 25 #[(.agg #[.slice s.pa s.pn s.pcap, .slice s.sa s.sn s.scap, .int .i64 s.ac, .int .i64 s.cl]), .int .i64 side, (.agg #[.int .i64 1, .int .i64 nn])] w fun e w' => e = .returned (.bool (hdG s side (⟨1, nn⟩ : Gd))) ∧ Below w.heap.size w w' := by
  have HA : Hid (hdG s side (⟨1, nn⟩ : Gd) = hdK s side (⟨1, nn⟩ : Gd)) := by show hdG s side (⟨1, nn⟩ : Gd) = _; exact hdG_yes hg hi
  have HB := ((Below.refl _ w).alloc (Nat.le_refl _) (.cells #[.slice s.pa s.pn s.pcap, .slice s.sa s.sn s.scap, .int .i64 s.ac, .int .i64 s.cl] 27)).alloc (by simp) (.cells #[.int .i64 1, .int .i64 nn] 42)
  have x1 := (boxR_new w 27 #[.slice s.pa s.pn s.pcap, .slice s.sa s.sn s.scap, .int .i64 s.ac, .int .i64 s.cl]).alloc (.cells #[.int .i64 1, .int .i64 nn] 42)
  have x2 : BoxGd ((w.alloc (.cells #[.slice s.pa s.pn s.pcap, .slice s.sa s.sn s.scap, .int .i64 s.ac, .int .i64 s.cl] 27)).alloc (.cells #[.int .i64 1, .int .i64 nn] 42)) (w.heap.size + 1) 42 (⟨1, nn⟩ : Gd) := heap_alloc2_new _ _ _
  generalize hW : (w.alloc (.cells #[.slice s.pa s.pn s.pcap, .slice s.sa s.sn s.scap, .int .i64 s.ac, .int .i64 s.cl] 27)).alloc (.cells #[.int .i64 1, .int .i64 nn] 42) = W at HB x1 x2
  have SK : Hid (∀ u : World, Below W.heap.size W u → u.cell? ⟨w.heap.size, 0, none⟩ = some (.slice s.pa s.pn s.pcap) ∧ u.cell? ⟨w.heap.size, 1, none⟩ = some (.slice s.sa s.sn s.scap) ∧ u.cell? ⟨w.heap.size, 2, none⟩ = some (.int .i64 s.ac) ∧ u.cell? ⟨w.heap.size, 3, none⟩ = some (.int .i64 s.cl) ∧ u.cell? ⟨w.heap.size + 1, 0, none⟩ = some (.int .i64 1) ∧ u.cell? ⟨w.heap.size + 1, 1, none⟩ = some (.int .i64 nn)) := fun u hu => by
    have y1 := x1.grew hu
    obtain ⟨b0, b1⟩ : CellsGd _ _ _ := (x2.grew hu).cells
    exact ⟨y1.cell 0, y1.cell 1, y1.cell 2, y1.cell 3, b0, b1⟩
  have HG : Hid (∀ w : World, Calls Try.prog 27 #[(.agg #[.int .i64 1, .int .i64 nn])] w fun e w' => e = .returned (.bool true) ∧ Below w.heap.size w w') := fun w => by have := specGuardOk_any (⟨1, nn⟩ : Gd) w; rw [hg] at this; exact this
  have HI : Hid (∀ w : World, Calls Try.prog 49 #[.int .i64 side, .int .i64 0, .int .i64 ((s.sn : Int) - 1)] w fun e w' => e = .returned (.bool true) ∧ w' = w) := fun w => by have := l1In_any side 0 ((s.sn : Int) - 1) w; rw [hi] at this; exact this
  clear hg
  obtain ⟨c0, c1, c2, c3, b0, b1⟩ := SK.out W (Below.refl _ _)
  clear x1 x2
  go_enter Try.func25, Try.ntmps25
  go_wp2_with fail
  refine (HG.out _).mono ?_
  rintro e v1 ⟨rfl, hb⟩
  have HB1 := below_app HB hb HB.size
  clear hW c0 c1 c2 c3 b0 b1
  obtain ⟨c0, c1, c2, c3, b0, b1⟩ := SK.out v1 hb
  have hsd := ib_bd hi
  clear hi
  go_wp2_with fail
  refine (HI.out _).mono ?_
  rintro e v2 ⟨rfl, rfl⟩
  obtain ⟨k, rfl⟩ := Int.eq_ofNat_of_zero_le hsd.1
  have hlt : k < s.sn := by omega
  have r2 := hok.2.2.2.2.2.1
  rcases r2.grew sdC_ne HB1 with g2 | ⟨o2, hsa, g2⟩
  · omega
  have k0 := g2 k hlt 0 _ rfl
  rw [Nat.add_zero] at k0
  rw [hsa] at c1
  clear hsa g2 r2
  go_wp2_with fail
  go_region
  all_goals go_wp2
  all_goals go_ret
  all_goals exact ⟨ret_bool' (by rw [HA.out]; unfold hdK; first | rfl | simp), HB1.drew⟩
set_option maxHeartbeats 4000000 in
theorem hol_2 (s : Stt) (side : Int) (nn : Int) (w : World) (hok : s.ok w) (hn : s.pn ≤ 1048576) (hn2 : s.sn ≤ 1048576) (hg : okGd (⟨2, nn⟩ : Gd) = true) (hi : ib side 0 ((s.sn : Int) - 1) = true) : Calls Try.prog 25 #[(.agg #[.slice s.pa s.pn s.pcap, .slice s.sa s.sn s.scap, .int .i64 s.ac, .int .i64 s.cl]), .int .i64 side, (.agg #[.int .i64 2, .int .i64 nn])] w fun e w' => e = .returned (.bool (hdG s side (⟨2, nn⟩ : Gd))) ∧ Below w.heap.size w w' := by
  have HA : Hid (hdG s side (⟨2, nn⟩ : Gd) = hdK s side (⟨2, nn⟩ : Gd)) := by show hdG s side (⟨2, nn⟩ : Gd) = _; exact hdG_yes hg hi
  have HB := ((Below.refl _ w).alloc (Nat.le_refl _) (.cells #[.slice s.pa s.pn s.pcap, .slice s.sa s.sn s.scap, .int .i64 s.ac, .int .i64 s.cl] 27)).alloc (by simp) (.cells #[.int .i64 2, .int .i64 nn] 42)
  have x1 := (boxR_new w 27 #[.slice s.pa s.pn s.pcap, .slice s.sa s.sn s.scap, .int .i64 s.ac, .int .i64 s.cl]).alloc (.cells #[.int .i64 2, .int .i64 nn] 42)
  have x2 : BoxGd ((w.alloc (.cells #[.slice s.pa s.pn s.pcap, .slice s.sa s.sn s.scap, .int .i64 s.ac, .int .i64 s.cl] 27)).alloc (.cells #[.int .i64 2, .int .i64 nn] 42)) (w.heap.size + 1) 42 (⟨2, nn⟩ : Gd) := heap_alloc2_new _ _ _
  generalize hW : (w.alloc (.cells #[.slice s.pa s.pn s.pcap, .slice s.sa s.sn s.scap, .int .i64 s.ac, .int .i64 s.cl] 27)).alloc (.cells #[.int .i64 2, .int .i64 nn] 42) = W at HB x1 x2
  have SK : Hid (∀ u : World, Below W.heap.size W u → u.cell? ⟨w.heap.size, 0, none⟩ = some (.slice s.pa s.pn s.pcap) ∧ u.cell? ⟨w.heap.size, 1, none⟩ = some (.slice s.sa s.sn s.scap) ∧ u.cell? ⟨w.heap.size, 2, none⟩ = some (.int .i64 s.ac) ∧ u.cell? ⟨w.heap.size, 3, none⟩ = some (.int .i64 s.cl) ∧ u.cell? ⟨w.heap.size + 1, 0, none⟩ = some (.int .i64 2) ∧ u.cell? ⟨w.heap.size + 1, 1, none⟩ = some (.int .i64 nn)) := fun u hu => by
    have y1 := x1.grew hu
    obtain ⟨b0, b1⟩ : CellsGd _ _ _ := (x2.grew hu).cells
    exact ⟨y1.cell 0, y1.cell 1, y1.cell 2, y1.cell 3, b0, b1⟩
  have HG : Hid (∀ w : World, Calls Try.prog 27 #[(.agg #[.int .i64 2, .int .i64 nn])] w fun e w' => e = .returned (.bool true) ∧ Below w.heap.size w w') := fun w => by have := specGuardOk_any (⟨2, nn⟩ : Gd) w; rw [hg] at this; exact this
  have HI : Hid (∀ w : World, Calls Try.prog 49 #[.int .i64 side, .int .i64 0, .int .i64 ((s.sn : Int) - 1)] w fun e w' => e = .returned (.bool true) ∧ w' = w) := fun w => by have := l1In_any side 0 ((s.sn : Int) - 1) w; rw [hi] at this; exact this
  clear hg
  obtain ⟨c0, c1, c2, c3, b0, b1⟩ := SK.out W (Below.refl _ _)
  clear x1 x2
  go_enter Try.func25, Try.ntmps25
  go_wp2_with fail
  refine (HG.out _).mono ?_
  rintro e v1 ⟨rfl, hb⟩
  have HB1 := below_app HB hb HB.size
  clear hW c0 c1 c2 c3 b0 b1
  obtain ⟨c0, c1, c2, c3, b0, b1⟩ := SK.out v1 hb
  have hsd := ib_bd hi
  clear hi
  go_wp2_with fail
  refine (HI.out _).mono ?_
  rintro e v2 ⟨rfl, rfl⟩
  have okK : ∀ u : World, Below W.heap.size W u → s.ok u := fun u hu => stt_grew hok (below_app HB hu HB.size)
  have hD : Below W.heap.size W v2.drew := hb.drew
  clear c0 c1 c2 c3 b0 b1
  have hm : mnG s side ≤ s.pn := cnG_le _ _ _
  obtain ⟨c0, c1, c2, c3, b0, b1⟩ := SK.out v2 hb
  go_wp2_with fail
  go_region_held (fun u : World => u.cell? ⟨w.heap.size, 0, none⟩ = some (.slice s.pa s.pn s.pcap) ∧ u.cell? ⟨w.heap.size, 1, none⟩ = some (.slice s.sa s.sn s.scap) ∧ u.cell? ⟨w.heap.size, 2, none⟩ = some (.int .i64 s.ac) ∧ u.cell? ⟨w.heap.size, 3, none⟩ = some (.int .i64 s.cl) ∧ u.cell? ⟨w.heap.size + 1, 0, none⟩ = some (.int .i64 2) ∧ u.cell? ⟨w.heap.size + 1, 1, none⟩ = some (.int .i64 nn)) (first | (refine SK.out _ ?_; first | with_reducible exact hD | with_reducible exact hq)) ((go_at_call 59; refine (specL8Many_any s side _ (okK _ hD) hn).mono ?_; rintro e v3 ⟨rfl, hb3⟩; have hq : Below W.heap.size W v3 := below_app hD hb3 hD.size))
  all_goals go_wp2
  all_goals go_ret
  all_goals exact ⟨ret_bool' (by rw [HA.out]; unfold hdK; first | rfl | simp), below_app HB hq HB.size⟩
set_option maxHeartbeats 4000000 in
theorem hol_4 (s : Stt) (side : Int) (nn : Int) (w : World) (hok : s.ok w) (hn : s.pn ≤ 1048576) (hn2 : s.sn ≤ 1048576) (hg : okGd (⟨4, nn⟩ : Gd) = true) (hi : ib side 0 ((s.sn : Int) - 1) = true) : Calls Try.prog 25 #[(.agg #[.slice s.pa s.pn s.pcap, .slice s.sa s.sn s.scap, .int .i64 s.ac, .int .i64 s.cl]), .int .i64 side, (.agg #[.int .i64 4, .int .i64 nn])] w fun e w' => e = .returned (.bool (hdG s side (⟨4, nn⟩ : Gd))) ∧ Below w.heap.size w w' := by
  have HA : Hid (hdG s side (⟨4, nn⟩ : Gd) = hdK s side (⟨4, nn⟩ : Gd)) := by show hdG s side (⟨4, nn⟩ : Gd) = _; exact hdG_yes hg hi
  have HB := ((Below.refl _ w).alloc (Nat.le_refl _) (.cells #[.slice s.pa s.pn s.pcap, .slice s.sa s.sn s.scap, .int .i64 s.ac, .int .i64 s.cl] 27)).alloc (by simp) (.cells #[.int .i64 4, .int .i64 nn] 42)
  have x1 := (boxR_new w 27 #[.slice s.pa s.pn s.pcap, .slice s.sa s.sn s.scap, .int .i64 s.ac, .int .i64 s.cl]).alloc (.cells #[.int .i64 4, .int .i64 nn] 42)
  have x2 : BoxGd ((w.alloc (.cells #[.slice s.pa s.pn s.pcap, .slice s.sa s.sn s.scap, .int .i64 s.ac, .int .i64 s.cl] 27)).alloc (.cells #[.int .i64 4, .int .i64 nn] 42)) (w.heap.size + 1) 42 (⟨4, nn⟩ : Gd) := heap_alloc2_new _ _ _
  generalize hW : (w.alloc (.cells #[.slice s.pa s.pn s.pcap, .slice s.sa s.sn s.scap, .int .i64 s.ac, .int .i64 s.cl] 27)).alloc (.cells #[.int .i64 4, .int .i64 nn] 42) = W at HB x1 x2
  have SK : Hid (∀ u : World, Below W.heap.size W u → u.cell? ⟨w.heap.size, 0, none⟩ = some (.slice s.pa s.pn s.pcap) ∧ u.cell? ⟨w.heap.size, 1, none⟩ = some (.slice s.sa s.sn s.scap) ∧ u.cell? ⟨w.heap.size, 2, none⟩ = some (.int .i64 s.ac) ∧ u.cell? ⟨w.heap.size, 3, none⟩ = some (.int .i64 s.cl) ∧ u.cell? ⟨w.heap.size + 1, 0, none⟩ = some (.int .i64 4) ∧ u.cell? ⟨w.heap.size + 1, 1, none⟩ = some (.int .i64 nn)) := fun u hu => by
    have y1 := x1.grew hu
    obtain ⟨b0, b1⟩ : CellsGd _ _ _ := (x2.grew hu).cells
    exact ⟨y1.cell 0, y1.cell 1, y1.cell 2, y1.cell 3, b0, b1⟩
  have HG : Hid (∀ w : World, Calls Try.prog 27 #[(.agg #[.int .i64 4, .int .i64 nn])] w fun e w' => e = .returned (.bool true) ∧ Below w.heap.size w w') := fun w => by have := specGuardOk_any (⟨4, nn⟩ : Gd) w; rw [hg] at this; exact this
  have HI : Hid (∀ w : World, Calls Try.prog 49 #[.int .i64 side, .int .i64 0, .int .i64 ((s.sn : Int) - 1)] w fun e w' => e = .returned (.bool true) ∧ w' = w) := fun w => by have := l1In_any side 0 ((s.sn : Int) - 1) w; rw [hi] at this; exact this
  clear hg
  obtain ⟨c0, c1, c2, c3, b0, b1⟩ := SK.out W (Below.refl _ _)
  clear x1 x2
  go_enter Try.func25, Try.ntmps25
  go_wp2_with fail
  refine (HG.out _).mono ?_
  rintro e v1 ⟨rfl, hb⟩
  have HB1 := below_app HB hb HB.size
  clear hW c0 c1 c2 c3 b0 b1
  obtain ⟨c0, c1, c2, c3, b0, b1⟩ := SK.out v1 hb
  have hsd := ib_bd hi
  clear hi
  go_wp2_with fail
  refine (HI.out _).mono ?_
  rintro e v2 ⟨rfl, rfl⟩
  have okK : ∀ u : World, Below W.heap.size W u → s.ok u := fun u hu => stt_grew hok (below_app HB hu HB.size)
  have hD : Below W.heap.size W v2.drew := hb.drew
  clear c0 c1 c2 c3 b0 b1
  have hm : bnG s side ≤ s.pn := cnG_le _ _ _
  obtain ⟨c0, c1, c2, c3, b0, b1⟩ := SK.out v2 hb
  go_wp2_with fail
  go_region_held (fun u : World => u.cell? ⟨w.heap.size, 0, none⟩ = some (.slice s.pa s.pn s.pcap) ∧ u.cell? ⟨w.heap.size, 1, none⟩ = some (.slice s.sa s.sn s.scap) ∧ u.cell? ⟨w.heap.size, 2, none⟩ = some (.int .i64 s.ac) ∧ u.cell? ⟨w.heap.size, 3, none⟩ = some (.int .i64 s.cl) ∧ u.cell? ⟨w.heap.size + 1, 0, none⟩ = some (.int .i64 4) ∧ u.cell? ⟨w.heap.size + 1, 1, none⟩ = some (.int .i64 nn)) (first | (refine SK.out _ ?_; first | with_reducible exact hD | with_reducible exact hq)) ((go_at_call 30; refine (specBentOf_any s side _ (okK _ hD) hn).mono ?_; rintro e v3 ⟨rfl, hb3⟩; have hq : Below W.heap.size W v3 := below_app hD hb3 hD.size))
  all_goals go_wp2
  all_goals go_ret
  all_goals exact ⟨ret_bool' (by rw [HA.out]; unfold hdK; first | rfl | simp), below_app HB hq HB.size⟩
theorem specHolds_any (s : Stt) (side : Int) (g : Gd) (w : World) (hok : s.ok w) (hn : s.pn ≤ 1048576) (hn2 : s.sn ≤ 1048576) : Calls Try.prog 25 #[(.agg #[.slice s.pa s.pn s.pcap, .slice s.sa s.sn s.scap, .int .i64 s.ac, .int .i64 s.cl]), .int .i64 side, (.agg #[.int .i64 g.kd, .int .i64 g.nn])] w fun e w' => e = .returned (.bool (hdG s side g)) ∧ Below w.heap.size w w' := by
  cases hg : okGd g
  case false => exact hol_g s side g w hok hn hn2 hg
  cases hi : ib side 0 ((s.sn : Int) - 1)
  case false => exact hol_i s side g w hok hn hn2 hg hi
  obtain ⟨kd, nn⟩ := g
  have hk := okGd_kd hg
  dsimp only at hk
  rcases hk with rfl | rfl | rfl | rfl | rfl
  · exact hol_0 s side nn w hok hn hn2 hg hi
  · exact hol_1 s side nn w hok hn hn2 hg hi
  · exact hol_2 s side nn w hok hn hn2 hg hi
  · exact hol_3 s side nn w hok hn hn2 hg hi
  · exact hol_4 s side nn w hok hn hn2 hg hi
end Go.Proofs.Ytnlnledijpcjpac
