/-
  Chapter 7: words for what is asked for (Pt), how a law's own is opened and taken over, its box; what '==' of two answers. Written by tools/pa.gen.py. Own work.
-/
import Derived.Test.YtodfdfncdoliiatEvA
namespace Go.Proofs.Ytodfdfncdoliiat
open Go.ChangeShapes Go.WideShapes Go.ChangeAt Go.RowKit
set_option maxRecDepth 100000
set_option linter.unusedVariables false
set_option linter.unusedSimpArgs false

structure Pt where
  (kd wh sr tr pi le zo : Int)
/-- each of its numbers is one that an int can be -/
def Pt.wf (e : Pt) : Prop := ∀ x ∈ [e.kd, e.wh, e.sr, e.tr, e.pi, e.le, e.zo], (Lit.int .i64 x).wf = true
theorem list7_pat {α : Type} : ∀ {l : List α}, l.length = 7 → ∃ x0 x1 x2 x3 x4 x5 x6, l = [x0, x1, x2, x3, x4, x5, x6]
  | [x0, x1, x2, x3, x4, x5, x6], _ => ⟨x0, x1, x2, x3, x4, x5, x6, rfl⟩
theorem open_pat {H : Type} {enc : TypeId × Value → H} {w : World} {base : Nat} {spare : TypeId → Bool} {held : Bool} {r : Reach} {b0 : Nat} {v : Value} {d : DataW H} {p : List MemPlace}
    (hv : Value.okWide Try.prog w r b0 23 v) (h : DataW.Trod enc Try.prog w base spare held 23 v d p) : ∃ q : Pt, v = (.agg #[.int .i64 q.kd, .int .i64 q.wh, .int .i64 q.sr, .int .i64 q.tr, .int .i64 q.pi, .int .i64 q.le, .int .i64 q.zo]) ∧ q.wf := by
  obtain ⟨cs, rfl, hl, hf⟩ := open_struct1 Try.underlying23 (by kernel_rfl) (by kernel_rfl) hv h
  obtain ⟨c0, c1, c2, c3, c4, c5, c6, rfl⟩ := list7_pat (l := cs) hl
  obtain ⟨n0, y0, t0⟩ := hf 0 _ c0 rfl rfl
  obtain ⟨a0, e0, _, u0⟩ := DataW.trod_int Try.underlying3 t0
  obtain ⟨n1, y1, t1⟩ := hf 1 _ c1 rfl rfl
  obtain ⟨a1, e1, _, u1⟩ := DataW.trod_int Try.underlying3 t1
  obtain ⟨n2, y2, t2⟩ := hf 2 _ c2 rfl rfl
  obtain ⟨a2, e2, _, u2⟩ := DataW.trod_int Try.underlying3 t2
  obtain ⟨n3, y3, t3⟩ := hf 3 _ c3 rfl rfl
  obtain ⟨a3, e3, _, u3⟩ := DataW.trod_int Try.underlying3 t3
  obtain ⟨n4, y4, t4⟩ := hf 4 _ c4 rfl rfl
  obtain ⟨a4, e4, _, u4⟩ := DataW.trod_int Try.underlying3 t4
  obtain ⟨n5, y5, t5⟩ := hf 5 _ c5 rfl rfl
  obtain ⟨a5, e5, _, u5⟩ := DataW.trod_int Try.underlying3 t5
  obtain ⟨n6, y6, t6⟩ := hf 6 _ c6 rfl rfl
  obtain ⟨a6, e6, _, u6⟩ := DataW.trod_int Try.underlying3 t6
  simp only [List.cons.injEq, and_true] at e0 e1 e2 e3 e4 e5 e6
  subst e0 e1 e2 e3 e4 e5 e6
  refine ⟨⟨a0, a1, a2, a3, a4, a5, a6⟩, rfl, fun x hx => ?_⟩
  simp only [List.mem_cons, List.mem_nil_iff, or_false] at hx
  rcases hx with rfl | rfl | rfl | rfl | rfl | rfl | rfl <;> assumption
set_option maxHeartbeats 2000000 in
theorem toPat_any (e : Pt) (w : World) :
    Calls Try.prog 28 #[(.agg #[.int .i64 e.kd, .int .i64 e.wh, .int .i64 e.sr, .int .i64 e.tr, .int .i64 e.pi, .int .i64 e.le, .int .i64 e.zo])] w fun r w' => r = .returned (.agg #[.int .i64 e.kd, .int .i64 e.wh, .int .i64 e.sr, .int .i64 e.tr, .int .i64 e.pi, .int .i64 e.le, .int .i64 e.zo]) ∧ Below w.heap.size w w' := by
  go_enter Try.func28, Try.ntmps28
  go_wp2
  (try simp only [Exit.inBlock, Exit.then]); refine bodyPost_ret (results_cell_row rfl _ _ (w.heap.size + 1) _ _ _ _ rfl ((Below.heap_alloc _ _ _ (by simp)).trans (heap_alloc2_new _ _ _)) Try.underlying35 rfl (by kernel_rfl)) rfl ?_
  exact ⟨rfl, (((Below.refl _ w).alloc (Nat.le_refl _) _).alloc (by simp) _).alloc (by simp; omega) _⟩
/-- block b holds one -/
def BoxPt (w : World) (b t : Nat) (e : Pt) : Prop := w.heap[b]? = some (.cells #[.int .i64 e.kd, .int .i64 e.wh, .int .i64 e.sr, .int .i64 e.tr, .int .i64 e.pi, .int .i64 e.le, .int .i64 e.zo] t (0, 0))
theorem boxPt_new (w : World) (t : Nat) (e : Pt) : BoxPt (w.alloc (.cells #[.int .i64 e.kd, .int .i64 e.wh, .int .i64 e.sr, .int .i64 e.tr, .int .i64 e.pi, .int .i64 e.le, .int .i64 e.zo] t)) w.heap.size t e := heap_alloc_new w _
theorem BoxPt.lt {w : World} {b t : Nat} {e : Pt} (h : BoxPt w b t e) : b < w.heap.size := (Array.getElem?_eq_some_iff.1 h).1
theorem BoxPt.grew {w w' : World} {b t : Nat} {e : Pt} (h : BoxPt w b t e) (hb : Below w.heap.size w w') : BoxPt w' b t e := (hb.block b h.lt).trans h
theorem BoxPt.alloc {w : World} {b t : Nat} {e : Pt} (h : BoxPt w b t e) (o : Obj) : BoxPt (w.alloc o) b t e := (Below.heap_alloc w o b h.lt).trans h
/-- its cells, one by one -/
def CellsPt (w : World) (b : Nat) (e : Pt) : Prop :=
  w.cell? ⟨b, 0, none⟩ = some (.int .i64 e.kd) ∧ w.cell? ⟨b, 1, none⟩ = some (.int .i64 e.wh) ∧ w.cell? ⟨b, 2, none⟩ = some (.int .i64 e.sr) ∧ w.cell? ⟨b, 3, none⟩ = some (.int .i64 e.tr) ∧ w.cell? ⟨b, 4, none⟩ = some (.int .i64 e.pi) ∧ w.cell? ⟨b, 5, none⟩ = some (.int .i64 e.le) ∧ w.cell? ⟨b, 6, none⟩ = some (.int .i64 e.zo)
theorem BoxPt.cells {w : World} {b t : Nat} {e : Pt} (h : BoxPt w b t e) : CellsPt w b e :=
  ⟨cell_of_row w b 0 _ t (0, 0) h, cell_of_row w b 1 _ t (0, 0) h, cell_of_row w b 2 _ t (0, 0) h, cell_of_row w b 3 _ t (0, 0) h, cell_of_row w b 4 _ t (0, 0) h, cell_of_row w b 5 _ t (0, 0) h, cell_of_row w b 6 _ t (0, 0) h⟩
/-- whether two are the same in all their parts -/
def smPt (p q : Pt) : Bool := decide (p.kd = q.kd) && decide (p.wh = q.wh) && decide (p.sr = q.sr) && decide (p.tr = q.tr) && decide (p.pi = q.pi) && decide (p.le = q.le) && decide (p.zo = q.zo)
theorem smPt_self (e : Pt) : smPt e e = true := by unfold smPt; simp
theorem Try.fieldsPt : (Try.prog.fieldsOf 35).toList.map (fun f => (f.name == "_", f.type, f.offset)) = [(false, 3, 0), (false, 3, 1), (false, 3, 2), (false, 3, 3), (false, 3, 4), (false, 3, 5), (false, 3, 6)] := by kernel_rfl
theorem run_eq_pat (p q : Pt) (w : World) : (Op.equalIn 10000 35 (.agg #[.int .i64 p.kd, .int .i64 p.wh, .int .i64 p.sr, .int .i64 p.tr, .int .i64 p.pi, .int .i64 p.le, .int .i64 p.zo]) (.agg #[.int .i64 q.kd, .int .i64 q.wh, .int .i64 q.sr, .int .i64 q.tr, .int .i64 q.pi, .int .i64 q.le, .int .i64 q.zo])).run Try.prog w = .ok (smPt p q) w := by
  rw [run_equalIn_struct w 9999 _ _ _ (by kernel_rfl) (by kernel_rfl)]
  have hL := Try.fieldsPt
  generalize (Try.prog.fieldsOf 35).toList = L at hL ⊢
  obtain ⟨f0, L0, rfl, e0, hL⟩ := list_of_mapE hL
  obtain ⟨f1, L1, rfl, e1, hL⟩ := list_of_mapE hL
  obtain ⟨f2, L2, rfl, e2, hL⟩ := list_of_mapE hL
  obtain ⟨f3, L3, rfl, e3, hL⟩ := list_of_mapE hL
  obtain ⟨f4, L4, rfl, e4, hL⟩ := list_of_mapE hL
  obtain ⟨f5, L5, rfl, e5, hL⟩ := list_of_mapE hL
  obtain ⟨f6, L6, rfl, e6, hL⟩ := list_of_mapE hL
  rw [List.map_eq_nil_iff] at hL
  subst hL
  simp only [Prod.mk.injEq] at e0
  obtain ⟨n0, t0, o0⟩ := e0
  simp only [Prod.mk.injEq] at e1
  obtain ⟨n1, t1, o1⟩ := e1
  simp only [Prod.mk.injEq] at e2
  obtain ⟨n2, t2, o2⟩ := e2
  simp only [Prod.mk.injEq] at e3
  obtain ⟨n3, t3, o3⟩ := e3
  simp only [Prod.mk.injEq] at e4
  obtain ⟨n4, t4, o4⟩ := e4
  simp only [Prod.mk.injEq] at e5
  obtain ⟨n5, t5, o5⟩ := e5
  simp only [Prod.mk.injEq] at e6
  obtain ⟨n6, t6, o6⟩ := e6
  have h : (Op.eqFields 9999 #[.int .i64 p.kd, .int .i64 p.wh, .int .i64 p.sr, .int .i64 p.tr, .int .i64 p.pi, .int .i64 p.le, .int .i64 p.zo] #[.int .i64 q.kd, .int .i64 q.wh, .int .i64 q.sr, .int .i64 q.tr, .int .i64 q.pi, .int .i64 q.le, .int .i64 q.zo] []).run Try.prog w = .ok true w := by simp [Op.eqFields]
  replace h := eqFields_stepE (f := f6) w n6 (by rw [t6, o6]; exact run_part_plain w (by kernel_rfl) rfl) (by rw [t6, o6]; exact run_part_plain w (by kernel_rfl) rfl) (by rw [t6]; exact run_equalIn_int w 9998 3 .i64 .i64 _ _ Try.underlying3) h
  replace h := eqFields_stepE (f := f5) w n5 (by rw [t5, o5]; exact run_part_plain w (by kernel_rfl) rfl) (by rw [t5, o5]; exact run_part_plain w (by kernel_rfl) rfl) (by rw [t5]; exact run_equalIn_int w 9998 3 .i64 .i64 _ _ Try.underlying3) h
  replace h := eqFields_stepE (f := f4) w n4 (by rw [t4, o4]; exact run_part_plain w (by kernel_rfl) rfl) (by rw [t4, o4]; exact run_part_plain w (by kernel_rfl) rfl) (by rw [t4]; exact run_equalIn_int w 9998 3 .i64 .i64 _ _ Try.underlying3) h
  replace h := eqFields_stepE (f := f3) w n3 (by rw [t3, o3]; exact run_part_plain w (by kernel_rfl) rfl) (by rw [t3, o3]; exact run_part_plain w (by kernel_rfl) rfl) (by rw [t3]; exact run_equalIn_int w 9998 3 .i64 .i64 _ _ Try.underlying3) h
  replace h := eqFields_stepE (f := f2) w n2 (by rw [t2, o2]; exact run_part_plain w (by kernel_rfl) rfl) (by rw [t2, o2]; exact run_part_plain w (by kernel_rfl) rfl) (by rw [t2]; exact run_equalIn_int w 9998 3 .i64 .i64 _ _ Try.underlying3) h
  replace h := eqFields_stepE (f := f1) w n1 (by rw [t1, o1]; exact run_part_plain w (by kernel_rfl) rfl) (by rw [t1, o1]; exact run_part_plain w (by kernel_rfl) rfl) (by rw [t1]; exact run_equalIn_int w 9998 3 .i64 .i64 _ _ Try.underlying3) h
  replace h := eqFields_stepE (f := f0) w n0 (by rw [t0, o0]; exact run_part_plain w (by kernel_rfl) rfl) (by rw [t0, o0]; exact run_part_plain w (by kernel_rfl) rfl) (by rw [t0]; exact run_equalIn_int w 9998 3 .i64 .i64 _ _ Try.underlying3) h
  rw [h]
  congr 1
  unfold smPt
  simp only [Bool.and_true, Bool.and_assoc]
  rfl
set_option maxHeartbeats 4000000 in
theorem eqPat_any (p q : Pt) (w : World) :
    Calls Try.prog 33 #[(.agg #[.int .i64 p.kd, .int .i64 p.wh, .int .i64 p.sr, .int .i64 p.tr, .int .i64 p.pi, .int .i64 p.le, .int .i64 p.zo]), (.agg #[.int .i64 q.kd, .int .i64 q.wh, .int .i64 q.sr, .int .i64 q.tr, .int .i64 q.pi, .int .i64 q.le, .int .i64 q.zo])] w fun e w' => e = .returned (.bool (smPt p q)) ∧ Below w.heap.size w w' := by
  go_enter Try.func33, Try.ntmps33
  go_wp2
  all_goals go_ret
  all_goals refine ⟨ret_bool' ?_, ((Below.refl _ w).alloc (Nat.le_refl _) _).alloc (by simp) _⟩
  all_goals (unfold smPt; simp_all)
end Go.Proofs.Ytodfdfncdoliiat
