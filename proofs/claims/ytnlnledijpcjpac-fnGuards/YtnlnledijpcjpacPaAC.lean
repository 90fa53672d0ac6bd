/-
  Chapter 7: words for what is asked for (Pt), how a law's own is opened and taken over, its box; what '==' of two answers. Written by tools/pa.gen.py. Chapter 7: the specification's PatOk (okPt): one walk for each test that may be the first to fail. Written by tools/pa.gen.py. Chapter 7: the specification's Narrower (nrP). Written by tools/pa.gen.py. Own work.
-/
import Derived.Test.YtnlnledijpcjpacEvA
namespace Go.Proofs.Ytnlnledijpcjpac
open Go.ChangeShapes Go.WideShapes Go.ChangeAt Go.RowKit
set_option maxRecDepth 100000
set_option linter.unusedVariables false
set_option linter.unusedSimpArgs false

structure Pt where
  (kd wh sr tr pi le zo : Int)
/-- each of its numbers is one that an int can be -/
def Pt.wf (e : Pt) : Prop := ∀ x ∈ [e.kd, e.wh, e.sr, e.tr, e.pi, e.le, e.zo], (Lit.int .i64 x).wf = true
theorem list7_pat {α : Type} : ∀ {l : List α}, l.length = 7 → ∃ x0 x1 x2 x3 x4 x5 x6, l = [x0, x1, x2, x3, x4, x5, x6]
  | [x0, x1, x2, x3, x4, x5, x6], _ => ⟨x0, x1, x2, x3, x4, x5, x6, rfl⟩
/-- block b holds one -/
def BoxPt (w : World) (b t : Nat) (e : Pt) : Prop := w.heap[b]? = some (.cells #[.int .i64 e.kd, .int .i64 e.wh, .int .i64 e.sr, .int .i64 e.tr, .int .i64 e.pi, .int .i64 e.le, .int .i64 e.zo] t (0, 0))
theorem boxPt_new (w : World) (t : Nat) (e : Pt) : BoxPt (w.alloc (.cells #[.int .i64 e.kd, .int .i64 e.wh, .int .i64 e.sr, .int .i64 e.tr, .int .i64 e.pi, .int .i64 e.le, .int .i64 e.zo] t)) w.heap.size t e := heap_alloc_new w _
theorem BoxPt.lt {w : World} {b t : Nat} {e : Pt} (h : BoxPt w b t e) : b < w.heap.size := (Array.getElem?_eq_some_iff.1 h).1
theorem BoxPt.grew {w w' : World} {b t : Nat} {e : Pt} (h : BoxPt w b t e) (hb : Below w.heap.size w w') : BoxPt w' b t e := (hb.block b h.lt).trans h
theorem BoxPt.alloc {w : World} {b t : Nat} {e : Pt} (h : BoxPt w b t e) (o : Obj) : BoxPt (w.alloc o) b t e := (Below.heap_alloc w o b h.lt).trans h
/-- its cells, one by one -/
def CellsPt (w : World) (b : Nat) (e : Pt) : Prop :=
  w.cell? ⟨b, 0, none⟩ = some (.int .i64 e.kd) ∧ w.cell? ⟨b, 1, none⟩ = some (.int .i64 e.wh) ∧ w.cell? ⟨b, 2, none⟩ = some (.int .i64 e.sr) ∧ w.cell? ⟨b, 3, none⟩ = some (.int .i64 e.tr) ∧ w.cell? ⟨b, 4, none⟩ = some (.int .i64 e.pi) ∧ w.cell? ⟨b, 5, none⟩ = some (.int .i64 e.le) ∧ w.cell? ⟨b, 6, none⟩ = some (.int .i64 e.zo)
theorem BoxPt.cells {w : World} {b t : Nat} {e : Pt} (h : BoxPt w b t e) : CellsPt w b e :=
  ⟨cell_of_row w b 0 _ t (0, 0) h, cell_of_row w b 1 _ t (0, 0) h, cell_of_row w b 2 _ t (0, 0) h, cell_of_row w b 3 _ t (0, 0) h, cell_of_row w b 4 _ t (0, 0) h, cell_of_row w b 5 _ t (0, 0) h, cell_of_row w b 6 _ t (0, 0) h⟩
/-- whether two are the same in all their parts -/
def smPt (p q : Pt) : Bool := decide (p.kd = q.kd) && decide (p.wh = q.wh) && decide (p.sr = q.sr) && decide (p.tr = q.tr) && decide (p.pi = q.pi) && decide (p.le = q.le) && decide (p.zo = q.zo)
theorem smPt_self (e : Pt) : smPt e e = true := by unfold smPt; simp
theorem Try.fieldsPt : (Try.prog.fieldsOf 29).toList.map (fun f => (f.name == "_", f.type, f.offset)) = [(false, 3, 0), (false, 3, 1), (false, 3, 2), (false, 3, 3), (false, 3, 4), (false, 3, 5), (false, 3, 6)] := by kernel_rfl
theorem run_eq_pat (p q : Pt) (w : World) : (Op.equalIn 10000 29 (.agg #[.int .i64 p.kd, .int .i64 p.wh, .int .i64 p.sr, .int .i64 p.tr, .int .i64 p.pi, .int .i64 p.le, .int .i64 p.zo]) (.agg #[.int .i64 q.kd, .int .i64 q.wh, .int .i64 q.sr, .int .i64 q.tr, .int .i64 q.pi, .int .i64 q.le, .int .i64 q.zo])).run Try.prog w = .ok (smPt p q) w := by
  rw [run_equalIn_struct w 9999 _ _ _ (by kernel_rfl) (by kernel_rfl)]
  have hL := Try.fieldsPt
  generalize (Try.prog.fieldsOf 29).toList = L at hL ⊢
  obtain ⟨f0, L0, rfl, e0, hL⟩ := list_of_mapE hL
  obtain ⟨f1, L1, rfl, e1, hL⟩ := list_of_mapE hL
  obtain ⟨f2, L2, rfl, e2, hL⟩ := list_of_mapE hL
  obtain ⟨f3, L3, rfl, e3, hL⟩ := list_of_mapE hL
  obtain ⟨f4, L4, rfl, e4, hL⟩ := list_of_mapE hL
  obtain ⟨f5, L5, rfl, e5, hL⟩ := list_of_mapE hL
  obtain ⟨f6, L6, rfl, e6, hL⟩ := list_of_mapE hL
  rw [List.map_eq_nil_iff] at hL
  subst hL
  simp only [Prod.mk.injEq] at e0
  obtain ⟨n0, t0, o0⟩ := e0
  simp only [Prod.mk.injEq] at e1
  obtain ⟨n1, t1, o1⟩ := e1
  simp only [Prod.mk.injEq] at e2
  obtain ⟨n2, t2, o2⟩ := e2
  simp only [Prod.mk.injEq] at e3
  obtain ⟨n3, t3, o3⟩ := e3
  simp only [Prod.mk.injEq] at e4
  obtain ⟨n4, t4, o4⟩ := e4
  simp only [Prod.mk.injEq] at e5
  obtain ⟨n5, t5, o5⟩ := e5
  simp only [Prod.mk.injEq] at e6
  obtain ⟨n6, t6, o6⟩ := e6
  have h : (Op.eqFields 9999 #[.int .i64 p.kd, .int .i64 p.wh, .int .i64 p.sr, .int .i64 p.tr, .int .i64 p.pi, .int .i64 p.le, .int .i64 p.zo] #[.int .i64 q.kd, .int .i64 q.wh, .int .i64 q.sr, .int .i64 q.tr, .int .i64 q.pi, .int .i64 q.le, .int .i64 q.zo] []).run Try.prog w = .ok true w := by simp [Op.eqFields]
  replace h := eqFields_stepE (f := f6) w n6 (by rw [t6, o6]; exact run_part_plain w (by kernel_rfl) rfl) (by rw [t6, o6]; exact run_part_plain w (by kernel_rfl) rfl) (by rw [t6]; exact run_equalIn_int w 9998 3 .i64 .i64 _ _ Try.underlying3) h
  replace h := eqFields_stepE (f := f5) w n5 (by rw [t5, o5]; exact run_part_plain w (by kernel_rfl) rfl) (by rw [t5, o5]; exact run_part_plain w (by kernel_rfl) rfl) (by rw [t5]; exact run_equalIn_int w 9998 3 .i64 .i64 _ _ Try.underlying3) h
  replace h := eqFields_stepE (f := f4) w n4 (by rw [t4, o4]; exact run_part_plain w (by kernel_rfl) rfl) (by rw [t4, o4]; exact run_part_plain w (by kernel_rfl) rfl) (by rw [t4]; exact run_equalIn_int w 9998 3 .i64 .i64 _ _ Try.underlying3) h
  replace h := eqFields_stepE (f := f3) w n3 (by rw [t3, o3]; exact run_part_plain w (by kernel_rfl) rfl) (by rw [t3, o3]; exact run_part_plain w (by kernel_rfl) rfl) (by rw [t3]; exact run_equalIn_int w 9998 3 .i64 .i64 _ _ Try.underlying3) h
  replace h := eqFields_stepE (f := f2) w n2 (by rw [t2, o2]; exact run_part_plain w (by kernel_rfl) rfl) (by rw [t2, o2]; exact run_part_plain w (by kernel_rfl) rfl) (by rw [t2]; exact run_equalIn_int w 9998 3 .i64 .i64 _ _ Try.underlying3) h
  replace h := eqFields_stepE (f := f1) w n1 (by rw [t1, o1]; exact run_part_plain w (by kernel_rfl) rfl) (by rw [t1, o1]; exact run_part_plain w (by kernel_rfl) rfl) (by rw [t1]; exact run_equalIn_int w 9998 3 .i64 .i64 _ _ Try.underlying3) h
  replace h := eqFields_stepE (f := f0) w n0 (by rw [t0, o0]; exact run_part_plain w (by kernel_rfl) rfl) (by rw [t0, o0]; exact run_part_plain w (by kernel_rfl) rfl) (by rw [t0]; exact run_equalIn_int w 9998 3 .i64 .i64 _ _ Try.underlying3) h
  rw [h]
  congr 1
  unfold smPt
  simp only [Bool.and_true, Bool.and_assoc]
  rfl
end Go.Proofs.Ytnlnledijpcjpac
namespace Go.Proofs.Ytnlnledijpcjpac
open Go.ChangeShapes Go.WideShapes Go.ChangeAt Go.RowKit
set_option maxRecDepth 100000
set_option linter.unusedVariables false
set_option linter.unusedSimpArgs false

def okT7 (p : Pt) : Bool := ib p.kd 1 6 && ib p.wh 0 2 && ib p.pi 0 99 && ib p.le 0 2147483647 && ib p.sr 0 99 && ib p.tr 0 63 && ib p.zo 0 4
/-- whether what is asked for may be asked for -/
def okPt (p : Pt) : Bool := okT7 p && (decide (p.kd = 1) || (decide (p.sr = 0) && decide (p.tr = 0))) && (decide (p.kd = 2) || decide (p.zo = 0)) && ((!decide (p.kd = 3) && !decide (p.kd = 4)) || decide (p.pi = 0))
set_option maxHeartbeats 4000000 in
theorem spt_0 (p : Pt) (w : World)  (h0 : ib p.kd 1 6 = false) : Calls Try.prog 13 #[(.agg #[.int .i64 p.kd, .int .i64 p.wh, .int .i64 p.sr, .int .i64 p.tr, .int .i64 p.pi, .int .i64 p.le, .int .i64 p.zo])] w fun e w' => e = .returned (.bool (okPt p)) ∧ Below w.heap.size w w' := by
  have HP : Hid (okPt p = false) := by
    show okPt p = false
    unfold okPt okT7; rw [h0]; simp
  go_enter Try.func13, Try.ntmps13
  try simp only [List.append_eq, List.cons_append, List.nil_append]
  go_wp2_with (go_at_call 49; refine (l1In_any _ _ _ _).mono ?_; rintro e w' ⟨rfl, rfl⟩)
  go_ret
  first
    | exact ⟨ret_bool' HP.out.symm, (Below.refl _ w).alloc (Nat.le_refl _) _⟩
    | (refine ⟨ret_bool' ?_, (Below.refl _ w).alloc (Nat.le_refl _) _⟩; rw [HP.out]; simp [*])
set_option maxHeartbeats 4000000 in
theorem spt_1 (p : Pt) (w : World) (h0 : ib p.kd 1 6 = true) (h1 : ib p.wh 0 2 = false) : Calls Try.prog 13 #[(.agg #[.int .i64 p.kd, .int .i64 p.wh, .int .i64 p.sr, .int .i64 p.tr, .int .i64 p.pi, .int .i64 p.le, .int .i64 p.zo])] w fun e w' => e = .returned (.bool (okPt p)) ∧ Below w.heap.size w w' := by
  have HP : Hid (okPt p = false) := by
    show okPt p = false
    unfold okPt okT7; rw [h1]; simp
  go_enter Try.func13, Try.ntmps13
  try simp only [List.append_eq, List.cons_append, List.nil_append]
  go_wp2_with (go_at_call 49; refine (l1In_any _ _ _ _).mono ?_; rintro e w' ⟨rfl, rfl⟩)
  go_ret
  first
    | exact ⟨ret_bool' HP.out.symm, (Below.refl _ w).alloc (Nat.le_refl _) _⟩
    | (refine ⟨ret_bool' ?_, (Below.refl _ w).alloc (Nat.le_refl _) _⟩; rw [HP.out]; simp [*])
set_option maxHeartbeats 4000000 in
theorem spt_2 (p : Pt) (w : World) (h0 : ib p.kd 1 6 = true) (h1 : ib p.wh 0 2 = true) (h2 : ib p.pi 0 99 = false) : Calls Try.prog 13 #[(.agg #[.int .i64 p.kd, .int .i64 p.wh, .int .i64 p.sr, .int .i64 p.tr, .int .i64 p.pi, .int .i64 p.le, .int .i64 p.zo])] w fun e w' => e = .returned (.bool (okPt p)) ∧ Below w.heap.size w w' := by
  have HP : Hid (okPt p = false) := by
    show okPt p = false
    unfold okPt okT7; rw [h2]; simp
  go_enter Try.func13, Try.ntmps13
  try simp only [List.append_eq, List.cons_append, List.nil_append]
  go_wp2_with (go_at_call 49; refine (l1In_any _ _ _ _).mono ?_; rintro e w' ⟨rfl, rfl⟩)
  go_ret
  first
    | exact ⟨ret_bool' HP.out.symm, (Below.refl _ w).alloc (Nat.le_refl _) _⟩
    | (refine ⟨ret_bool' ?_, (Below.refl _ w).alloc (Nat.le_refl _) _⟩; rw [HP.out]; simp [*])
set_option maxHeartbeats 4000000 in
theorem spt_3 (p : Pt) (w : World) (h0 : ib p.kd 1 6 = true) (h1 : ib p.wh 0 2 = true) (h2 : ib p.pi 0 99 = true) (h3 : ib p.le 0 2147483647 = false) : Calls Try.prog 13 #[(.agg #[.int .i64 p.kd, .int .i64 p.wh, .int .i64 p.sr, .int .i64 p.tr, .int .i64 p.pi, .int .i64 p.le, .int .i64 p.zo])] w fun e w' => e = .returned (.bool (okPt p)) ∧ Below w.heap.size w w' := by
  have HP : Hid (okPt p = false) := by
    show okPt p = false
    unfold okPt okT7; rw [h3]; simp
  go_enter Try.func13, Try.ntmps13
  try simp only [List.append_eq, List.cons_append, List.nil_append]
  go_wp2_with (go_at_call 49; refine (l1In_any _ _ _ _).mono ?_; rintro e w' ⟨rfl, rfl⟩)
  go_ret
  first
    | exact ⟨ret_bool' HP.out.symm, (Below.refl _ w).alloc (Nat.le_refl _) _⟩
    | (refine ⟨ret_bool' ?_, (Below.refl _ w).alloc (Nat.le_refl _) _⟩; rw [HP.out]; simp [*])
set_option maxHeartbeats 4000000 in
theorem spt_4 (p : Pt) (w : World) (h0 : ib p.kd 1 6 = true) (h1 : ib p.wh 0 2 = true) (h2 : ib p.pi 0 99 = true) (h3 : ib p.le 0 2147483647 = true) (h4 : ib p.sr 0 99 = false) : Calls Try.prog 13 #[(.agg #[.int .i64 p.kd, .int .i64 p.wh, .int .i64 p.sr, .int .i64 p.tr, .int .i64 p.pi, .int .i64 p.le, .int .i64 p.zo])] w fun e w' => e = .returned (.bool (okPt p)) ∧ Below w.heap.size w w' := by
  have HP : Hid (okPt p = false) := by
    show okPt p = false
    unfold okPt okT7; rw [h4]; simp
  go_enter Try.func13, Try.ntmps13
  try simp only [List.append_eq, List.cons_append, List.nil_append]
  go_wp2_with (go_at_call 49; refine (l1In_any _ _ _ _).mono ?_; rintro e w' ⟨rfl, rfl⟩)
  go_ret
  first
    | exact ⟨ret_bool' HP.out.symm, (Below.refl _ w).alloc (Nat.le_refl _) _⟩
    | (refine ⟨ret_bool' ?_, (Below.refl _ w).alloc (Nat.le_refl _) _⟩; rw [HP.out]; simp [*])
set_option maxHeartbeats 4000000 in
theorem spt_5 (p : Pt) (w : World) (h0 : ib p.kd 1 6 = true) (h1 : ib p.wh 0 2 = true) (h2 : ib p.pi 0 99 = true) (h3 : ib p.le 0 2147483647 = true) (h4 : ib p.sr 0 99 = true) (h5 : ib p.tr 0 63 = false) : Calls Try.prog 13 #[(.agg #[.int .i64 p.kd, .int .i64 p.wh, .int .i64 p.sr, .int .i64 p.tr, .int .i64 p.pi, .int .i64 p.le, .int .i64 p.zo])] w fun e w' => e = .returned (.bool (okPt p)) ∧ Below w.heap.size w w' := by
  have HP : Hid (okPt p = false) := by
    show okPt p = false
    unfold okPt okT7; rw [h5]; simp
  go_enter Try.func13, Try.ntmps13
  try simp only [List.append_eq, List.cons_append, List.nil_append]
  go_wp2_with (go_at_call 49; refine (l1In_any _ _ _ _).mono ?_; rintro e w' ⟨rfl, rfl⟩)
  go_ret
  first
    | exact ⟨ret_bool' HP.out.symm, (Below.refl _ w).alloc (Nat.le_refl _) _⟩
    | (refine ⟨ret_bool' ?_, (Below.refl _ w).alloc (Nat.le_refl _) _⟩; rw [HP.out]; simp [*])
set_option maxHeartbeats 4000000 in
theorem spt_6 (p : Pt) (w : World) (h0 : ib p.kd 1 6 = true) (h1 : ib p.wh 0 2 = true) (h2 : ib p.pi 0 99 = true) (h3 : ib p.le 0 2147483647 = true) (h4 : ib p.sr 0 99 = true) (h5 : ib p.tr 0 63 = true) (h6 : ib p.zo 0 4 = false) : Calls Try.prog 13 #[(.agg #[.int .i64 p.kd, .int .i64 p.wh, .int .i64 p.sr, .int .i64 p.tr, .int .i64 p.pi, .int .i64 p.le, .int .i64 p.zo])] w fun e w' => e = .returned (.bool (okPt p)) ∧ Below w.heap.size w w' := by
  have HP : Hid (okPt p = false) := by
    show okPt p = false
    unfold okPt okT7; rw [h6]; simp
  go_enter Try.func13, Try.ntmps13
  try simp only [List.append_eq, List.cons_append, List.nil_append]
  go_wp2_with (go_at_call 49; refine (l1In_any _ _ _ _).mono ?_; rintro e w' ⟨rfl, rfl⟩)
  go_ret
  first
    | exact ⟨ret_bool' HP.out.symm, (Below.refl _ w).alloc (Nat.le_refl _) _⟩
    | (refine ⟨ret_bool' ?_, (Below.refl _ w).alloc (Nat.le_refl _) _⟩; rw [HP.out]; simp [*])
set_option maxHeartbeats 4000000 in
theorem spt_all (p : Pt) (w : World) (h0 : ib p.kd 1 6 = true) (h1 : ib p.wh 0 2 = true) (h2 : ib p.pi 0 99 = true) (h3 : ib p.le 0 2147483647 = true) (h4 : ib p.sr 0 99 = true) (h5 : ib p.tr 0 63 = true) (h6 : ib p.zo 0 4 = true) : Calls Try.prog 13 #[(.agg #[.int .i64 p.kd, .int .i64 p.wh, .int .i64 p.sr, .int .i64 p.tr, .int .i64 p.pi, .int .i64 p.le, .int .i64 p.zo])] w fun e w' => e = .returned (.bool (okPt p)) ∧ Below w.heap.size w w' := by
  have HP : Hid (okT7 p = true) := by
    show okT7 p = true
    unfold okT7; rw [h0, h1, h2, h3, h4, h5, h6]; rfl
  go_enter Try.func13, Try.ntmps13
  try simp only [List.append_eq, List.cons_append, List.nil_append]
  go_wp2_with (go_at_call 49; refine (l1In_any _ _ _ _).mono ?_; rintro e w' ⟨rfl, rfl⟩)
  all_goals go_ret
  all_goals refine ⟨ret_bool' ?_, (Below.refl _ w).alloc (Nat.le_refl _) _⟩
  all_goals (clear h0 h1 h2 h3 h4 h5 h6; unfold okPt; rw [HP.out]; clear HP; simp_all <;> (rw [Bool.eq_iff_iff]; simp))
theorem specPatOk_any (p : Pt) (w : World) : Calls Try.prog 13 #[(.agg #[.int .i64 p.kd, .int .i64 p.wh, .int .i64 p.sr, .int .i64 p.tr, .int .i64 p.pi, .int .i64 p.le, .int .i64 p.zo])] w fun e w' => e = .returned (.bool (okPt p)) ∧ Below w.heap.size w w' := by
  cases h0 : ib p.kd 1 6
  · exact spt_0 p w h0
  cases h1 : ib p.wh 0 2
  · exact spt_1 p w h0 h1
  cases h2 : ib p.pi 0 99
  · exact spt_2 p w h0 h1 h2
  cases h3 : ib p.le 0 2147483647
  · exact spt_3 p w h0 h1 h2 h3
  cases h4 : ib p.sr 0 99
  · exact spt_4 p w h0 h1 h2 h3 h4
  cases h5 : ib p.tr 0 63
  · exact spt_5 p w h0 h1 h2 h3 h4 h5
  cases h6 : ib p.zo 0 4
  · exact spt_6 p w h0 h1 h2 h3 h4 h5 h6
  exact spt_all p w h0 h1 h2 h3 h4 h5 h6
end Go.Proofs.Ytnlnledijpcjpac
namespace Go.Proofs.Ytnlnledijpcjpac
open Go.ChangeShapes Go.WideShapes Go.ChangeAt Go.RowKit
set_option maxRecDepth 100000
set_option linter.unusedVariables false
set_option linter.unusedSimpArgs false

/-- what is asked for behind the two tests: the kinds, the traits, how much at least -/
def nrA (p q : Pt) : Bool := decide (p.kd = q.kd) && decide (bits .and .i64 p.tr q.tr = q.tr) && decide (q.le ≤ p.le)
def orS (x y : Int) : Bool := decide (x = 0) || decide (x = y)
def nrB (p q : Pt) : Bool := orS q.wh p.wh && orS q.sr p.sr && orS q.pi p.pi && orS q.zo p.zo
/-- whether p asks for all that q asks for -/
def nrP (p q : Pt) : Bool := okPt p && okPt q && nrA p q && nrB p q
set_option maxHeartbeats 4000000 in
theorem nar_p (p q : Pt) (w : World) (hp : okPt p = false) : Calls Try.prog 14 #[(.agg #[.int .i64 p.kd, .int .i64 p.wh, .int .i64 p.sr, .int .i64 p.tr, .int .i64 p.pi, .int .i64 p.le, .int .i64 p.zo]), (.agg #[.int .i64 q.kd, .int .i64 q.wh, .int .i64 q.sr, .int .i64 q.tr, .int .i64 q.pi, .int .i64 q.le, .int .i64 q.zo])] w fun e w' => e = .returned (.bool (nrP p q)) ∧ Below w.heap.size w w' := by
  have HN : Hid (nrP p q = false) := by show nrP p q = false; unfold nrP; rw [hp]; rfl
  have HP : Hid (∀ w : World, Calls Try.prog 13 #[(.agg #[.int .i64 p.kd, .int .i64 p.wh, .int .i64 p.sr, .int .i64 p.tr, .int .i64 p.pi, .int .i64 p.le, .int .i64 p.zo])] w fun e w' => e = .returned (.bool false) ∧ Below w.heap.size w w') := fun w => by have := specPatOk_any p w; rw [hp] at this; exact this
  clear hp
  have HB := ((Below.refl _ w).alloc (Nat.le_refl _) (.cells #[.int .i64 p.kd, .int .i64 p.wh, .int .i64 p.sr, .int .i64 p.tr, .int .i64 p.pi, .int .i64 p.le, .int .i64 p.zo] 29)).alloc (by simp) (.cells #[.int .i64 q.kd, .int .i64 q.wh, .int .i64 q.sr, .int .i64 q.tr, .int .i64 q.pi, .int .i64 q.le, .int .i64 q.zo] 29)
  have bp := (boxPt_new w 29 p).alloc (.cells #[.int .i64 q.kd, .int .i64 q.wh, .int .i64 q.sr, .int .i64 q.tr, .int .i64 q.pi, .int .i64 q.le, .int .i64 q.zo] 29)
  have bq : BoxPt ((w.alloc (.cells #[.int .i64 p.kd, .int .i64 p.wh, .int .i64 p.sr, .int .i64 p.tr, .int .i64 p.pi, .int .i64 p.le, .int .i64 p.zo] 29)).alloc (.cells #[.int .i64 q.kd, .int .i64 q.wh, .int .i64 q.sr, .int .i64 q.tr, .int .i64 q.pi, .int .i64 q.le, .int .i64 q.zo] 29)) (w.heap.size + 1) 29 q := heap_alloc2_new _ _ _
  generalize hW : (w.alloc (.cells #[.int .i64 p.kd, .int .i64 p.wh, .int .i64 p.sr, .int .i64 p.tr, .int .i64 p.pi, .int .i64 p.le, .int .i64 p.zo] 29)).alloc (.cells #[.int .i64 q.kd, .int .i64 q.wh, .int .i64 q.sr, .int .i64 q.tr, .int .i64 q.pi, .int .i64 q.le, .int .i64 q.zo] 29) = W at HB bp bq
  obtain ⟨a0, a1, a2, a3, a4, a5, a6⟩ : CellsPt _ _ _ := bp.cells
  obtain ⟨b0, b1, b2, b3, b4, b5, b6⟩ : CellsPt _ _ _ := bq.cells
  go_enter Try.func14, Try.ntmps14
  go_wp2_with fail
  refine (HP.out _).mono ?_
  rintro e u1 ⟨rfl, hb⟩
  replace HB := below_app HB hb HB.size
  go_wp2
  go_ret
  exact ⟨ret_bool' HN.out.symm, HB⟩
set_option maxHeartbeats 4000000 in
theorem nar_q (p q : Pt) (w : World) (hp : okPt p = true) (hq : okPt q = false) : Calls Try.prog 14 #[(.agg #[.int .i64 p.kd, .int .i64 p.wh, .int .i64 p.sr, .int .i64 p.tr, .int .i64 p.pi, .int .i64 p.le, .int .i64 p.zo]), (.agg #[.int .i64 q.kd, .int .i64 q.wh, .int .i64 q.sr, .int .i64 q.tr, .int .i64 q.pi, .int .i64 q.le, .int .i64 q.zo])] w fun e w' => e = .returned (.bool (nrP p q)) ∧ Below w.heap.size w w' := by
  have HN : Hid (nrP p q = false) := by show nrP p q = false; unfold nrP; rw [hp, hq]; rfl
  have HP : Hid (∀ w : World, Calls Try.prog 13 #[(.agg #[.int .i64 p.kd, .int .i64 p.wh, .int .i64 p.sr, .int .i64 p.tr, .int .i64 p.pi, .int .i64 p.le, .int .i64 p.zo])] w fun e w' => e = .returned (.bool true) ∧ Below w.heap.size w w') := fun w => by have := specPatOk_any p w; rw [hp] at this; exact this
  have HQ : Hid (∀ w : World, Calls Try.prog 13 #[(.agg #[.int .i64 q.kd, .int .i64 q.wh, .int .i64 q.sr, .int .i64 q.tr, .int .i64 q.pi, .int .i64 q.le, .int .i64 q.zo])] w fun e w' => e = .returned (.bool false) ∧ Below w.heap.size w w') := fun w => by have := specPatOk_any q w; rw [hq] at this; exact this
  clear hp hq
  have HB := ((Below.refl _ w).alloc (Nat.le_refl _) (.cells #[.int .i64 p.kd, .int .i64 p.wh, .int .i64 p.sr, .int .i64 p.tr, .int .i64 p.pi, .int .i64 p.le, .int .i64 p.zo] 29)).alloc (by simp) (.cells #[.int .i64 q.kd, .int .i64 q.wh, .int .i64 q.sr, .int .i64 q.tr, .int .i64 q.pi, .int .i64 q.le, .int .i64 q.zo] 29)
  have bp := (boxPt_new w 29 p).alloc (.cells #[.int .i64 q.kd, .int .i64 q.wh, .int .i64 q.sr, .int .i64 q.tr, .int .i64 q.pi, .int .i64 q.le, .int .i64 q.zo] 29)
  have bq : BoxPt ((w.alloc (.cells #[.int .i64 p.kd, .int .i64 p.wh, .int .i64 p.sr, .int .i64 p.tr, .int .i64 p.pi, .int .i64 p.le, .int .i64 p.zo] 29)).alloc (.cells #[.int .i64 q.kd, .int .i64 q.wh, .int .i64 q.sr, .int .i64 q.tr, .int .i64 q.pi, .int .i64 q.le, .int .i64 q.zo] 29)) (w.heap.size + 1) 29 q := heap_alloc2_new _ _ _
  generalize hW : (w.alloc (.cells #[.int .i64 p.kd, .int .i64 p.wh, .int .i64 p.sr, .int .i64 p.tr, .int .i64 p.pi, .int .i64 p.le, .int .i64 p.zo] 29)).alloc (.cells #[.int .i64 q.kd, .int .i64 q.wh, .int .i64 q.sr, .int .i64 q.tr, .int .i64 q.pi, .int .i64 q.le, .int .i64 q.zo] 29) = W at HB bp bq
  obtain ⟨a0, a1, a2, a3, a4, a5, a6⟩ : CellsPt _ _ _ := bp.cells
  obtain ⟨b0, b1, b2, b3, b4, b5, b6⟩ : CellsPt _ _ _ := bq.cells
  go_enter Try.func14, Try.ntmps14
  go_wp2_with fail
  refine (HP.out _).mono ?_
  rintro e u1 ⟨rfl, hb⟩
  clear hW
  replace bp := bp.grew hb
  replace bq := bq.grew hb
  replace HB := below_app HB hb HB.size
  clear hb a0 a1 a2 a3 a4 a5 a6 b0 b1 b2 b3 b4 b5 b6
  obtain ⟨a0, a1, a2, a3, a4, a5, a6⟩ : CellsPt _ _ _ := bp.cells
  obtain ⟨b0, b1, b2, b3, b4, b5, b6⟩ : CellsPt _ _ _ := bq.cells
  go_wp2_with fail
  refine (HQ.out _).mono ?_
  rintro e u2 ⟨rfl, hb⟩
  replace HB := below_app HB hb HB.size
  go_wp2
  go_ret
  exact ⟨ret_bool' HN.out.symm, HB⟩
set_option maxHeartbeats 8000000 in
theorem nar_kd (p q : Pt) (w : World) (hp : okPt p = true) (hq : okPt q = true) (hk : decide (p.kd = q.kd) = false) : Calls Try.prog 14 #[(.agg #[.int .i64 p.kd, .int .i64 p.wh, .int .i64 p.sr, .int .i64 p.tr, .int .i64 p.pi, .int .i64 p.le, .int .i64 p.zo]), (.agg #[.int .i64 q.kd, .int .i64 q.wh, .int .i64 q.sr, .int .i64 q.tr, .int .i64 q.pi, .int .i64 q.le, .int .i64 q.zo])] w fun e w' => e = .returned (.bool (nrP p q)) ∧ Below w.heap.size w w' := by
  have HN : Hid (nrP p q = (nrA p q && nrB p q)) := by show nrP p q = _; unfold nrP; rw [hp, hq]; rfl
  have HP : Hid (∀ w : World, Calls Try.prog 13 #[(.agg #[.int .i64 p.kd, .int .i64 p.wh, .int .i64 p.sr, .int .i64 p.tr, .int .i64 p.pi, .int .i64 p.le, .int .i64 p.zo])] w fun e w' => e = .returned (.bool true) ∧ Below w.heap.size w w') := fun w => by have := specPatOk_any p w; rw [hp] at this; exact this
  have HQ : Hid (∀ w : World, Calls Try.prog 13 #[(.agg #[.int .i64 q.kd, .int .i64 q.wh, .int .i64 q.sr, .int .i64 q.tr, .int .i64 q.pi, .int .i64 q.le, .int .i64 q.zo])] w fun e w' => e = .returned (.bool true) ∧ Below w.heap.size w w') := fun w => by have := specPatOk_any q w; rw [hq] at this; exact this
  clear hp hq
  have HA : Hid (nrP p q = false) := by show nrP p q = false; rw [HN.out]; unfold nrA; rw [hk]; simp
  have hk' : (p.kd != q.kd) = true := by simpa using hk
  have HB := ((Below.refl _ w).alloc (Nat.le_refl _) (.cells #[.int .i64 p.kd, .int .i64 p.wh, .int .i64 p.sr, .int .i64 p.tr, .int .i64 p.pi, .int .i64 p.le, .int .i64 p.zo] 29)).alloc (by simp) (.cells #[.int .i64 q.kd, .int .i64 q.wh, .int .i64 q.sr, .int .i64 q.tr, .int .i64 q.pi, .int .i64 q.le, .int .i64 q.zo] 29)
  have bp := (boxPt_new w 29 p).alloc (.cells #[.int .i64 q.kd, .int .i64 q.wh, .int .i64 q.sr, .int .i64 q.tr, .int .i64 q.pi, .int .i64 q.le, .int .i64 q.zo] 29)
  have bq : BoxPt ((w.alloc (.cells #[.int .i64 p.kd, .int .i64 p.wh, .int .i64 p.sr, .int .i64 p.tr, .int .i64 p.pi, .int .i64 p.le, .int .i64 p.zo] 29)).alloc (.cells #[.int .i64 q.kd, .int .i64 q.wh, .int .i64 q.sr, .int .i64 q.tr, .int .i64 q.pi, .int .i64 q.le, .int .i64 q.zo] 29)) (w.heap.size + 1) 29 q := heap_alloc2_new _ _ _
  generalize hW : (w.alloc (.cells #[.int .i64 p.kd, .int .i64 p.wh, .int .i64 p.sr, .int .i64 p.tr, .int .i64 p.pi, .int .i64 p.le, .int .i64 p.zo] 29)).alloc (.cells #[.int .i64 q.kd, .int .i64 q.wh, .int .i64 q.sr, .int .i64 q.tr, .int .i64 q.pi, .int .i64 q.le, .int .i64 q.zo] 29) = W at HB bp bq
  obtain ⟨a0, a1, a2, a3, a4, a5, a6⟩ : CellsPt _ _ _ := bp.cells
  obtain ⟨b0, b1, b2, b3, b4, b5, b6⟩ : CellsPt _ _ _ := bq.cells
  go_enter Try.func14, Try.ntmps14
  go_wp2_with fail
  refine (HP.out _).mono ?_
  rintro e u1 ⟨rfl, hb⟩
  clear hW
  replace bp := bp.grew hb
  replace bq := bq.grew hb
  replace HB := below_app HB hb HB.size
  clear hb a0 a1 a2 a3 a4 a5 a6 b0 b1 b2 b3 b4 b5 b6
  obtain ⟨a0, a1, a2, a3, a4, a5, a6⟩ : CellsPt _ _ _ := bp.cells
  obtain ⟨b0, b1, b2, b3, b4, b5, b6⟩ : CellsPt _ _ _ := bq.cells
  go_wp2_with fail
  refine (HQ.out _).mono ?_
  rintro e u2 ⟨rfl, hb⟩
  replace bp := bp.grew hb
  replace bq := bq.grew hb
  replace HB := below_app HB hb HB.size
  clear hb a0 a1 a2 a3 a4 a5 a6 b0 b1 b2 b3 b4 b5 b6
  obtain ⟨a0, a1, a2, a3, a4, a5, a6⟩ : CellsPt _ _ _ := bp.cells
  obtain ⟨b0, b1, b2, b3, b4, b5, b6⟩ : CellsPt _ _ _ := bq.cells
  go_wp2
  all_goals go_ret
  all_goals exact ⟨ret_bool' HA.out.symm, HB⟩
set_option maxHeartbeats 8000000 in
theorem nar_tr (p q : Pt) (w : World) (hp : okPt p = true) (hq : okPt q = true) (hk : decide (p.kd = q.kd) = true) (ht : decide (bits .and .i64 p.tr q.tr = q.tr) = false) : Calls Try.prog 14 #[(.agg #[.int .i64 p.kd, .int .i64 p.wh, .int .i64 p.sr, .int .i64 p.tr, .int .i64 p.pi, .int .i64 p.le, .int .i64 p.zo]), (.agg #[.int .i64 q.kd, .int .i64 q.wh, .int .i64 q.sr, .int .i64 q.tr, .int .i64 q.pi, .int .i64 q.le, .int .i64 q.zo])] w fun e w' => e = .returned (.bool (nrP p q)) ∧ Below w.heap.size w w' := by
  have HN : Hid (nrP p q = (nrA p q && nrB p q)) := by show nrP p q = _; unfold nrP; rw [hp, hq]; rfl
  have HP : Hid (∀ w : World, Calls Try.prog 13 #[(.agg #[.int .i64 p.kd, .int .i64 p.wh, .int .i64 p.sr, .int .i64 p.tr, .int .i64 p.pi, .int .i64 p.le, .int .i64 p.zo])] w fun e w' => e = .returned (.bool true) ∧ Below w.heap.size w w') := fun w => by have := specPatOk_any p w; rw [hp] at this; exact this
  have HQ : Hid (∀ w : World, Calls Try.prog 13 #[(.agg #[.int .i64 q.kd, .int .i64 q.wh, .int .i64 q.sr, .int .i64 q.tr, .int .i64 q.pi, .int .i64 q.le, .int .i64 q.zo])] w fun e w' => e = .returned (.bool true) ∧ Below w.heap.size w w') := fun w => by have := specPatOk_any q w; rw [hq] at this; exact this
  clear hp hq
  have HA : Hid (nrP p q = false) := by show nrP p q = false; rw [HN.out]; unfold nrA; rw [ht]; simp
  have hk' : (p.kd != q.kd) = false := by simpa using hk
  have ht' : (bits .and .i64 p.tr q.tr != q.tr) = true := by simpa using ht
  have HB := ((Below.refl _ w).alloc (Nat.le_refl _) (.cells #[.int .i64 p.kd, .int .i64 p.wh, .int .i64 p.sr, .int .i64 p.tr, .int .i64 p.pi, .int .i64 p.le, .int .i64 p.zo] 29)).alloc (by simp) (.cells #[.int .i64 q.kd, .int .i64 q.wh, .int .i64 q.sr, .int .i64 q.tr, .int .i64 q.pi, .int .i64 q.le, .int .i64 q.zo] 29)
  have bp := (boxPt_new w 29 p).alloc (.cells #[.int .i64 q.kd, .int .i64 q.wh, .int .i64 q.sr, .int .i64 q.tr, .int .i64 q.pi, .int .i64 q.le, .int .i64 q.zo] 29)
  have bq : BoxPt ((w.alloc (.cells #[.int .i64 p.kd, .int .i64 p.wh, .int .i64 p.sr, .int .i64 p.tr, .int .i64 p.pi, .int .i64 p.le, .int .i64 p.zo] 29)).alloc (.cells #[.int .i64 q.kd, .int .i64 q.wh, .int .i64 q.sr, .int .i64 q.tr, .int .i64 q.pi, .int .i64 q.le, .int .i64 q.zo] 29)) (w.heap.size + 1) 29 q := heap_alloc2_new _ _ _
  generalize hW : (w.alloc (.cells #[.int .i64 p.kd, .int .i64 p.wh, .int .i64 p.sr, .int .i64 p.tr, .int .i64 p.pi, .int .i64 p.le, .int .i64 p.zo] 29)).alloc (.cells #[.int .i64 q.kd, .int .i64 q.wh, .int .i64 q.sr, .int .i64 q.tr, .int .i64 q.pi, .int .i64 q.le, .int .i64 q.zo] 29) = W at HB bp bq
  obtain ⟨a0, a1, a2, a3, a4, a5, a6⟩ : CellsPt _ _ _ := bp.cells
  obtain ⟨b0, b1, b2, b3, b4, b5, b6⟩ : CellsPt _ _ _ := bq.cells
  go_enter Try.func14, Try.ntmps14
  go_wp2_with fail
  refine (HP.out _).mono ?_
  rintro e u1 ⟨rfl, hb⟩
  clear hW
  replace bp := bp.grew hb
  replace bq := bq.grew hb
  replace HB := below_app HB hb HB.size
  clear hb a0 a1 a2 a3 a4 a5 a6 b0 b1 b2 b3 b4 b5 b6
  obtain ⟨a0, a1, a2, a3, a4, a5, a6⟩ : CellsPt _ _ _ := bp.cells
  obtain ⟨b0, b1, b2, b3, b4, b5, b6⟩ : CellsPt _ _ _ := bq.cells
  go_wp2_with fail
  refine (HQ.out _).mono ?_
  rintro e u2 ⟨rfl, hb⟩
  replace bp := bp.grew hb
  replace bq := bq.grew hb
  replace HB := below_app HB hb HB.size
  clear hb a0 a1 a2 a3 a4 a5 a6 b0 b1 b2 b3 b4 b5 b6
  obtain ⟨a0, a1, a2, a3, a4, a5, a6⟩ : CellsPt _ _ _ := bp.cells
  obtain ⟨b0, b1, b2, b3, b4, b5, b6⟩ : CellsPt _ _ _ := bq.cells
  go_wp2
  all_goals go_ret
  all_goals exact ⟨ret_bool' HA.out.symm, HB⟩
set_option maxHeartbeats 8000000 in
theorem nar_le (p q : Pt) (w : World) (hp : okPt p = true) (hq : okPt q = true) (hk : decide (p.kd = q.kd) = true) (ht : decide (bits .and .i64 p.tr q.tr = q.tr) = true) (hl : decide (q.le ≤ p.le) = false) : Calls Try.prog 14 #[(.agg #[.int .i64 p.kd, .int .i64 p.wh, .int .i64 p.sr, .int .i64 p.tr, .int .i64 p.pi, .int .i64 p.le, .int .i64 p.zo]), (.agg #[.int .i64 q.kd, .int .i64 q.wh, .int .i64 q.sr, .int .i64 q.tr, .int .i64 q.pi, .int .i64 q.le, .int .i64 q.zo])] w fun e w' => e = .returned (.bool (nrP p q)) ∧ Below w.heap.size w w' := by
  have HN : Hid (nrP p q = (nrA p q && nrB p q)) := by show nrP p q = _; unfold nrP; rw [hp, hq]; rfl
  have HP : Hid (∀ w : World, Calls Try.prog 13 #[(.agg #[.int .i64 p.kd, .int .i64 p.wh, .int .i64 p.sr, .int .i64 p.tr, .int .i64 p.pi, .int .i64 p.le, .int .i64 p.zo])] w fun e w' => e = .returned (.bool true) ∧ Below w.heap.size w w') := fun w => by have := specPatOk_any p w; rw [hp] at this; exact this
  have HQ : Hid (∀ w : World, Calls Try.prog 13 #[(.agg #[.int .i64 q.kd, .int .i64 q.wh, .int .i64 q.sr, .int .i64 q.tr, .int .i64 q.pi, .int .i64 q.le, .int .i64 q.zo])] w fun e w' => e = .returned (.bool true) ∧ Below w.heap.size w w') := fun w => by have := specPatOk_any q w; rw [hq] at this; exact this
  clear hp hq
  have HA : Hid (nrP p q = false) := by show nrP p q = false; rw [HN.out]; unfold nrA; rw [hl]; simp
  have hk' : (p.kd != q.kd) = false := by simpa using hk
  have ht' : (bits .and .i64 p.tr q.tr != q.tr) = false := by simpa using ht
  have hl' : decide (p.le < q.le) = true := by simp at hl ⊢; omega
  have HB := ((Below.refl _ w).alloc (Nat.le_refl _) (.cells #[.int .i64 p.kd, .int .i64 p.wh, .int .i64 p.sr, .int .i64 p.tr, .int .i64 p.pi, .int .i64 p.le, .int .i64 p.zo] 29)).alloc (by simp) (.cells #[.int .i64 q.kd, .int .i64 q.wh, .int .i64 q.sr, .int .i64 q.tr, .int .i64 q.pi, .int .i64 q.le, .int .i64 q.zo] 29)
  have bp := (boxPt_new w 29 p).alloc (.cells #[.int .i64 q.kd, .int .i64 q.wh, .int .i64 q.sr, .int .i64 q.tr, .int .i64 q.pi, .int .i64 q.le, .int .i64 q.zo] 29)
  have bq : BoxPt ((w.alloc (.cells #[.int .i64 p.kd, .int .i64 p.wh, .int .i64 p.sr, .int .i64 p.tr, .int .i64 p.pi, .int .i64 p.le, .int .i64 p.zo] 29)).alloc (.cells #[.int .i64 q.kd, .int .i64 q.wh, .int .i64 q.sr, .int .i64 q.tr, .int .i64 q.pi, .int .i64 q.le, .int .i64 q.zo] 29)) (w.heap.size + 1) 29 q := heap_alloc2_new _ _ _
  generalize hW : (w.alloc (.cells #[.int .i64 p.kd, .int .i64 p.wh, .int .i64 p.sr, .int .i64 p.tr, .int .i64 p.pi, .int .i64 p.le, .int .i64 p.zo] 29)).alloc (.cells #[.int .i64 q.kd, .int .i64 q.wh, .int .i64 q.sr, .int .i64 q.tr, .int .i64 q.pi, .int .i64 q.le, .int .i64 q.zo] 29) = W at HB bp bq
  obtain ⟨a0, a1, a2, a3, a4, a5, a6⟩ : CellsPt _ _ _ := bp.cells
  obtain ⟨b0, b1, b2, b3, b4, b5, b6⟩ : CellsPt _ _ _ := bq.cells
  go_enter Try.func14, Try.ntmps14
  go_wp2_with fail
  refine (HP.out _).mono ?_
  rintro e u1 ⟨rfl, hb⟩
  clear hW
  replace bp := bp.grew hb
  replace bq := bq.grew hb
  replace HB := below_app HB hb HB.size
  clear hb a0 a1 a2 a3 a4 a5 a6 b0 b1 b2 b3 b4 b5 b6
  obtain ⟨a0, a1, a2, a3, a4, a5, a6⟩ : CellsPt _ _ _ := bp.cells
  obtain ⟨b0, b1, b2, b3, b4, b5, b6⟩ : CellsPt _ _ _ := bq.cells
  go_wp2_with fail
  refine (HQ.out _).mono ?_
  rintro e u2 ⟨rfl, hb⟩
  replace bp := bp.grew hb
  replace bq := bq.grew hb
  replace HB := below_app HB hb HB.size
  clear hb a0 a1 a2 a3 a4 a5 a6 b0 b1 b2 b3 b4 b5 b6
  obtain ⟨a0, a1, a2, a3, a4, a5, a6⟩ : CellsPt _ _ _ := bp.cells
  obtain ⟨b0, b1, b2, b3, b4, b5, b6⟩ : CellsPt _ _ _ := bq.cells
  go_wp2
  all_goals go_ret
  all_goals exact ⟨ret_bool' HA.out.symm, HB⟩
set_option maxHeartbeats 8000000 in
theorem nar_all (p q : Pt) (w : World) (hp : okPt p = true) (hq : okPt q = true) (hk : decide (p.kd = q.kd) = true) (ht : decide (bits .and .i64 p.tr q.tr = q.tr) = true) (hl : decide (q.le ≤ p.le) = true) : Calls Try.prog 14 #[(.agg #[.int .i64 p.kd, .int .i64 p.wh, .int .i64 p.sr, .int .i64 p.tr, .int .i64 p.pi, .int .i64 p.le, .int .i64 p.zo]), (.agg #[.int .i64 q.kd, .int .i64 q.wh, .int .i64 q.sr, .int .i64 q.tr, .int .i64 q.pi, .int .i64 q.le, .int .i64 q.zo])] w fun e w' => e = .returned (.bool (nrP p q)) ∧ Below w.heap.size w w' := by
  have HN : Hid (nrP p q = (nrA p q && nrB p q)) := by show nrP p q = _; unfold nrP; rw [hp, hq]; rfl
  have HP : Hid (∀ w : World, Calls Try.prog 13 #[(.agg #[.int .i64 p.kd, .int .i64 p.wh, .int .i64 p.sr, .int .i64 p.tr, .int .i64 p.pi, .int .i64 p.le, .int .i64 p.zo])] w fun e w' => e = .returned (.bool true) ∧ Below w.heap.size w w') := fun w => by have := specPatOk_any p w; rw [hp] at this; exact this
  have HQ : Hid (∀ w : World, Calls Try.prog 13 #[(.agg #[.int .i64 q.kd, .int .i64 q.wh, .int .i64 q.sr, .int .i64 q.tr, .int .i64 q.pi, .int .i64 q.le, .int .i64 q.zo])] w fun e w' => e = .returned (.bool true) ∧ Below w.heap.size w w') := fun w => by have := specPatOk_any q w; rw [hq] at this; exact this
  clear hp hq
  have HA : Hid (nrP p q = nrB p q) := by show nrP p q = _; rw [HN.out]; unfold nrA; rw [hk, ht, hl]; rfl
  have hk' : (p.kd != q.kd) = false := by simpa using hk
  have ht' : (bits .and .i64 p.tr q.tr != q.tr) = false := by simpa using ht
  have hl' : decide (p.le < q.le) = false := by simp at hl ⊢; omega
  have HK : Hid (decide (p.kd = q.kd) = true) := hk
  clear hk ht hl
  have HB := ((Below.refl _ w).alloc (Nat.le_refl _) (.cells #[.int .i64 p.kd, .int .i64 p.wh, .int .i64 p.sr, .int .i64 p.tr, .int .i64 p.pi, .int .i64 p.le, .int .i64 p.zo] 29)).alloc (by simp) (.cells #[.int .i64 q.kd, .int .i64 q.wh, .int .i64 q.sr, .int .i64 q.tr, .int .i64 q.pi, .int .i64 q.le, .int .i64 q.zo] 29)
  have bp := (boxPt_new w 29 p).alloc (.cells #[.int .i64 q.kd, .int .i64 q.wh, .int .i64 q.sr, .int .i64 q.tr, .int .i64 q.pi, .int .i64 q.le, .int .i64 q.zo] 29)
  have bq : BoxPt ((w.alloc (.cells #[.int .i64 p.kd, .int .i64 p.wh, .int .i64 p.sr, .int .i64 p.tr, .int .i64 p.pi, .int .i64 p.le, .int .i64 p.zo] 29)).alloc (.cells #[.int .i64 q.kd, .int .i64 q.wh, .int .i64 q.sr, .int .i64 q.tr, .int .i64 q.pi, .int .i64 q.le, .int .i64 q.zo] 29)) (w.heap.size + 1) 29 q := heap_alloc2_new _ _ _
  generalize hW : (w.alloc (.cells #[.int .i64 p.kd, .int .i64 p.wh, .int .i64 p.sr, .int .i64 p.tr, .int .i64 p.pi, .int .i64 p.le, .int .i64 p.zo] 29)).alloc (.cells #[.int .i64 q.kd, .int .i64 q.wh, .int .i64 q.sr, .int .i64 q.tr, .int .i64 q.pi, .int .i64 q.le, .int .i64 q.zo] 29) = W at HB bp bq
  obtain ⟨a0, a1, a2, a3, a4, a5, a6⟩ : CellsPt _ _ _ := bp.cells
  obtain ⟨b0, b1, b2, b3, b4, b5, b6⟩ : CellsPt _ _ _ := bq.cells
  go_enter Try.func14, Try.ntmps14
  go_wp2_with fail
  refine (HP.out _).mono ?_
  rintro e u1 ⟨rfl, hb⟩
  clear hW
  replace bp := bp.grew hb
  replace bq := bq.grew hb
  replace HB := below_app HB hb HB.size
  clear hb a0 a1 a2 a3 a4 a5 a6 b0 b1 b2 b3 b4 b5 b6
  obtain ⟨a0, a1, a2, a3, a4, a5, a6⟩ : CellsPt _ _ _ := bp.cells
  obtain ⟨b0, b1, b2, b3, b4, b5, b6⟩ : CellsPt _ _ _ := bq.cells
  go_wp2_with fail
  refine (HQ.out _).mono ?_
  rintro e u2 ⟨rfl, hb⟩
  replace bp := bp.grew hb
  replace bq := bq.grew hb
  replace HB := below_app HB hb HB.size
  clear hb a0 a1 a2 a3 a4 a5 a6 b0 b1 b2 b3 b4 b5 b6
  obtain ⟨a0, a1, a2, a3, a4, a5, a6⟩ : CellsPt _ _ _ := bp.cells
  obtain ⟨b0, b1, b2, b3, b4, b5, b6⟩ : CellsPt _ _ _ := bq.cells
  go_wp2
  all_goals go_ret
  all_goals refine ⟨ret_bool' ?_, HB⟩
  all_goals (rw [HA.out]; unfold nrB orS; clear HA HB HN HP HQ HK hk' ht' hl' bp bq a0 a1 a2 a3 a4 a5 a6 b0 b1 b2 b3 b4 b5 b6; simp_all <;> (rw [Bool.eq_iff_iff]; simp_all))
theorem specNarrower_any (p q : Pt) (w : World) : Calls Try.prog 14 #[(.agg #[.int .i64 p.kd, .int .i64 p.wh, .int .i64 p.sr, .int .i64 p.tr, .int .i64 p.pi, .int .i64 p.le, .int .i64 p.zo]), (.agg #[.int .i64 q.kd, .int .i64 q.wh, .int .i64 q.sr, .int .i64 q.tr, .int .i64 q.pi, .int .i64 q.le, .int .i64 q.zo])] w fun e w' => e = .returned (.bool (nrP p q)) ∧ Below w.heap.size w w' := by
  cases hp : okPt p
  · exact nar_p p q w hp
  cases hq : okPt q
  · exact nar_q p q w hp hq
  cases hk : decide (p.kd = q.kd)
  · exact nar_kd p q w hp hq hk
  cases ht : decide (bits .and .i64 p.tr q.tr = q.tr)
  · exact nar_tr p q w hp hq hk ht
  cases hl : decide (q.le ≤ p.le)
  · exact nar_le p q w hp hq hk ht hl
  exact nar_all p q w hp hq hk ht hl
end Go.Proofs.Ytnlnledijpcjpac
