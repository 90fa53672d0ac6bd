/-
  Chapter 8: words for a guard (Gd), how a law's own is opened and taken over, its box. Written by tools/gu.gen.py. Own work.
-/
import Derived.Test.YtodfdfncdoliiatEvA
namespace Go.Proofs.Ytodfdfncdoliiat
open Go.ChangeShapes Go.WideShapes Go.ChangeAt Go.RowKit
set_option maxRecDepth 100000
set_option linter.unusedVariables false
set_option linter.unusedSimpArgs false

structure Gd where
  (kd nn : Int)
/-- each of its numbers is one that an int can be -/
def Gd.wf (e : Gd) : Prop := ∀ x ∈ [e.kd, e.nn], (Lit.int .i64 x).wf = true
theorem list2_guard {α : Type} : ∀ {l : List α}, l.length = 2 → ∃ x0 x1, l = [x0, x1]
  | [x0, x1], _ => ⟨x0, x1, rfl⟩
theorem open_guard {H : Type} {enc : TypeId × Value → H} {w : World} {base : Nat} {spare : TypeId → Bool} {held : Bool} {r : Reach} {b0 : Nat} {v : Value} {d : DataW H} {p : List MemPlace}
    (hv : Value.okWide Try.prog w r b0 25 v) (h : DataW.Trod enc Try.prog w base spare held 25 v d p) : ∃ q : Gd, v = (.agg #[.int .i64 q.kd, .int .i64 q.nn]) ∧ q.wf := by
  obtain ⟨cs, rfl, hl, hf⟩ := open_struct1 Try.underlying25 (by kernel_rfl) (by kernel_rfl) hv h
  obtain ⟨c0, c1, rfl⟩ := list2_guard (l := cs) hl
  obtain ⟨n0, y0, t0⟩ := hf 0 _ c0 rfl rfl
  obtain ⟨a0, e0, _, u0⟩ := DataW.trod_int Try.underlying3 t0
  obtain ⟨n1, y1, t1⟩ := hf 1 _ c1 rfl rfl
  obtain ⟨a1, e1, _, u1⟩ := DataW.trod_int Try.underlying3 t1
  simp only [List.cons.injEq, and_true] at e0 e1
  subst e0 e1
  refine ⟨⟨a0, a1⟩, rfl, fun x hx => ?_⟩
  simp only [List.mem_cons, List.mem_nil_iff, or_false] at hx
  rcases hx with rfl | rfl <;> assumption
set_option maxHeartbeats 2000000 in
theorem toGuard_any (e : Gd) (w : World) :
    Calls Try.prog 29 #[(.agg #[.int .i64 e.kd, .int .i64 e.nn])] w fun r w' => r = .returned (.agg #[.int .i64 e.kd, .int .i64 e.nn]) ∧ Below w.heap.size w w' := by
  go_enter Try.func29, Try.ntmps29
  go_wp2
  (try simp only [Exit.inBlock, Exit.then]); refine bodyPost_ret (results_cell_row rfl _ _ (w.heap.size + 1) _ _ _ _ rfl ((Below.heap_alloc _ _ _ (by simp)).trans (heap_alloc2_new _ _ _)) Try.underlying36 rfl (by kernel_rfl)) rfl ?_
  exact ⟨rfl, (((Below.refl _ w).alloc (Nat.le_refl _) _).alloc (by simp) _).alloc (by simp; omega) _⟩
/-- block b holds one -/
def BoxGd (w : World) (b t : Nat) (e : Gd) : Prop := w.heap[b]? = some (.cells #[.int .i64 e.kd, .int .i64 e.nn] t (0, 0))
theorem boxGd_new (w : World) (t : Nat) (e : Gd) : BoxGd (w.alloc (.cells #[.int .i64 e.kd, .int .i64 e.nn] t)) w.heap.size t e := heap_alloc_new w _
theorem BoxGd.lt {w : World} {b t : Nat} {e : Gd} (h : BoxGd w b t e) : b < w.heap.size := (Array.getElem?_eq_some_iff.1 h).1
theorem BoxGd.grew {w w' : World} {b t : Nat} {e : Gd} (h : BoxGd w b t e) (hb : Below w.heap.size w w') : BoxGd w' b t e := (hb.block b h.lt).trans h
theorem BoxGd.alloc {w : World} {b t : Nat} {e : Gd} (h : BoxGd w b t e) (o : Obj) : BoxGd (w.alloc o) b t e := (Below.heap_alloc w o b h.lt).trans h
/-- its cells, one by one -/
def CellsGd (w : World) (b : Nat) (e : Gd) : Prop :=
  w.cell? ⟨b, 0, none⟩ = some (.int .i64 e.kd) ∧ w.cell? ⟨b, 1, none⟩ = some (.int .i64 e.nn)
theorem BoxGd.cells {w : World} {b t : Nat} {e : Gd} (h : BoxGd w b t e) : CellsGd w b e :=
  ⟨cell_of_row w b 0 _ t (0, 0) h, cell_of_row w b 1 _ t (0, 0) h⟩
/-- whether two are the same in all their parts -/
def smGd (p q : Gd) : Bool := decide (p.kd = q.kd) && decide (p.nn = q.nn)
theorem smGd_self (e : Gd) : smGd e e = true := by unfold smGd; simp
theorem Try.fieldsGd : (Try.prog.fieldsOf 36).toList.map (fun f => (f.name == "_", f.type, f.offset)) = [(false, 3, 0), (false, 3, 1)] := by kernel_rfl
theorem run_eq_guard (p q : Gd) (w : World) : (Op.equalIn 10000 36 (.agg #[.int .i64 p.kd, .int .i64 p.nn]) (.agg #[.int .i64 q.kd, .int .i64 q.nn])).run Try.prog w = .ok (smGd p q) w := by
  rw [run_equalIn_struct w 9999 _ _ _ (by kernel_rfl) (by kernel_rfl)]
  have hL := Try.fieldsGd
  generalize (Try.prog.fieldsOf 36).toList = L at hL ⊢
  obtain ⟨f0, L0, rfl, e0, hL⟩ := list_of_mapE hL
  obtain ⟨f1, L1, rfl, e1, hL⟩ := list_of_mapE hL
  rw [List.map_eq_nil_iff] at hL
  subst hL
  simp only [Prod.mk.injEq] at e0
  obtain ⟨n0, t0, o0⟩ := e0
  simp only [Prod.mk.injEq] at e1
  obtain ⟨n1, t1, o1⟩ := e1
  have h : (Op.eqFields 9999 #[.int .i64 p.kd, .int .i64 p.nn] #[.int .i64 q.kd, .int .i64 q.nn] []).run Try.prog w = .ok true w := by simp [Op.eqFields]
  replace h := eqFields_stepE (f := f1) w n1 (by rw [t1, o1]; exact run_part_plain w (by kernel_rfl) rfl) (by rw [t1, o1]; exact run_part_plain w (by kernel_rfl) rfl) (by rw [t1]; exact run_equalIn_int w 9998 3 .i64 .i64 _ _ Try.underlying3) h
  replace h := eqFields_stepE (f := f0) w n0 (by rw [t0, o0]; exact run_part_plain w (by kernel_rfl) rfl) (by rw [t0, o0]; exact run_part_plain w (by kernel_rfl) rfl) (by rw [t0]; exact run_equalIn_int w 9998 3 .i64 .i64 _ _ Try.underlying3) h
  rw [h]
  congr 1
  unfold smGd
  simp only [Bool.and_true, Bool.and_assoc]
  rfl
end Go.Proofs.Ytodfdfncdoliiat
