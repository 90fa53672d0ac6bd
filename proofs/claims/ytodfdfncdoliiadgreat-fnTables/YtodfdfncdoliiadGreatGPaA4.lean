/-
  Chapter 7: words for what is asked for (Pt), how a law's own is opened and taken over, its box; what '==' of two answers. Written by tools/pa.gen.py. Chapter 8: words for a guard (Gd), how a law's own is opened and taken over, its box. Written by tools/gu.gen.py. Chapter 10: words for an effect (Ef): how a law's own is opened, measured. Written by tools/ef.gen.py. Chapter 10: words for an effect: how a law's own is taken over, compared, marked, held. Written by tools/ef.gen.py. Own work.
-/
import Derived.Test.YtodfdfncdoliiadGreatGEvA3
import Derived.Test.YtodfdfncdoliiadGreatGAcR2
import Derived.Deep.DeepCutAuto
import Derived.Deep.CutBlock
namespace Go.Proofs.YtodfdfncdoliiadGreat
open Go.ChangeShapes Go.WideShapes Go.ChangeAt Go.RowKit
set_option maxRecDepth 100000
set_option linter.unusedVariables false
set_option linter.unusedSimpArgs false

structure Pt where
  (kd wh sr tr pi le zo : Int)
/-- each of its numbers is one that an int can be -/
def Pt.wf (e : Pt) : Prop := ∀ x ∈ [e.kd, e.wh, e.sr, e.tr, e.pi, e.le, e.zo], (Lit.int .i64 x).wf = true
theorem list7_pat {α : Type} : ∀ {l : List α}, l.length = 7 → ∃ x0 x1 x2 x3 x4 x5 x6, l = [x0, x1, x2, x3, x4, x5, x6]
  | [x0, x1, x2, x3, x4, x5, x6], _ => ⟨x0, x1, x2, x3, x4, x5, x6, rfl⟩
/-- block b holds one -/
def BoxPt (w : World) (b t : Nat) (e : Pt) : Prop := w.heap[b]? = some (.cells #[.int .i64 e.kd, .int .i64 e.wh, .int .i64 e.sr, .int .i64 e.tr, .int .i64 e.pi, .int .i64 e.le, .int .i64 e.zo] t (0, 0))
theorem boxPt_new (w : World) (t : Nat) (e : Pt) : BoxPt (w.alloc (.cells #[.int .i64 e.kd, .int .i64 e.wh, .int .i64 e.sr, .int .i64 e.tr, .int .i64 e.pi, .int .i64 e.le, .int .i64 e.zo] t)) w.heap.size t e := heap_alloc_new w _
theorem BoxPt.lt {w : World} {b t : Nat} {e : Pt} (h : BoxPt w b t e) : b < w.heap.size := (Array.getElem?_eq_some_iff.1 h).1
theorem BoxPt.grew {w w' : World} {b t : Nat} {e : Pt} (h : BoxPt w b t e) (hb : Below w.heap.size w w') : BoxPt w' b t e := (hb.block b h.lt).trans h
theorem BoxPt.alloc {w : World} {b t : Nat} {e : Pt} (h : BoxPt w b t e) (o : Obj) : BoxPt (w.alloc o) b t e := (Below.heap_alloc w o b h.lt).trans h
/-- its cells, one by one -/
def CellsPt (w : World) (b : Nat) (e : Pt) : Prop :=
  w.cell? ⟨b, 0, none⟩ = some (.int .i64 e.kd) ∧ w.cell? ⟨b, 1, none⟩ = some (.int .i64 e.wh) ∧ w.cell? ⟨b, 2, none⟩ = some (.int .i64 e.sr) ∧ w.cell? ⟨b, 3, none⟩ = some (.int .i64 e.tr) ∧ w.cell? ⟨b, 4, none⟩ = some (.int .i64 e.pi) ∧ w.cell? ⟨b, 5, none⟩ = some (.int .i64 e.le) ∧ w.cell? ⟨b, 6, none⟩ = some (.int .i64 e.zo)
theorem BoxPt.cells {w : World} {b t : Nat} {e : Pt} (h : BoxPt w b t e) : CellsPt w b e :=
  ⟨cell_of_row w b 0 _ t (0, 0) h, cell_of_row w b 1 _ t (0, 0) h, cell_of_row w b 2 _ t (0, 0) h, cell_of_row w b 3 _ t (0, 0) h, cell_of_row w b 4 _ t (0, 0) h, cell_of_row w b 5 _ t (0, 0) h, cell_of_row w b 6 _ t (0, 0) h⟩
/-- whether two are the same in all their parts -/
def smPt (p q : Pt) : Bool := decide (p.kd = q.kd) && decide (p.wh = q.wh) && decide (p.sr = q.sr) && decide (p.tr = q.tr) && decide (p.pi = q.pi) && decide (p.le = q.le) && decide (p.zo = q.zo)
theorem smPt_self (e : Pt) : smPt e e = true := by unfold smPt; simp
theorem Tryz.fieldsPt : (Tryz.prog.fieldsOf 25).toList.map (fun f => (f.name == "_", f.type, f.offset)) = [(false, 3, 0), (false, 3, 1), (false, 3, 2), (false, 3, 3), (false, 3, 4), (false, 3, 5), (false, 3, 6)] := by kernel_rfl
theorem run_eq_pat (p q : Pt) (w : World) : (Op.equalIn 10000 25 (.agg #[.int .i64 p.kd, .int .i64 p.wh, .int .i64 p.sr, .int .i64 p.tr, .int .i64 p.pi, .int .i64 p.le, .int .i64 p.zo]) (.agg #[.int .i64 q.kd, .int .i64 q.wh, .int .i64 q.sr, .int .i64 q.tr, .int .i64 q.pi, .int .i64 q.le, .int .i64 q.zo])).run Tryz.prog w = .ok (smPt p q) w := by
  rw [run_equalIn_struct w 9999 _ _ _ (by kernel_rfl) (by kernel_rfl)]
  have hL := Tryz.fieldsPt
  generalize (Tryz.prog.fieldsOf 25).toList = L at hL ⊢
  obtain ⟨f0, L0, rfl, e0, hL⟩ := list_of_mapE hL
  obtain ⟨f1, L1, rfl, e1, hL⟩ := list_of_mapE hL
  obtain ⟨f2, L2, rfl, e2, hL⟩ := list_of_mapE hL
  obtain ⟨f3, L3, rfl, e3, hL⟩ := list_of_mapE hL
  obtain ⟨f4, L4, rfl, e4, hL⟩ := list_of_mapE hL
  obtain ⟨f5, L5, rfl, e5, hL⟩ := list_of_mapE hL
  obtain ⟨f6, L6, rfl, e6, hL⟩ := list_of_mapE hL
  rw [List.map_eq_nil_iff] at hL
  subst hL
  simp only [Prod.mk.injEq] at e0
  obtain ⟨n0, t0, o0⟩ := e0
  simp only [Prod.mk.injEq] at e1
  obtain ⟨n1, t1, o1⟩ := e1
  simp only [Prod.mk.injEq] at e2
  obtain ⟨n2, t2, o2⟩ := e2
  simp only [Prod.mk.injEq] at e3
  obtain ⟨n3, t3, o3⟩ := e3
  simp only [Prod.mk.injEq] at e4
  obtain ⟨n4, t4, o4⟩ := e4
  simp only [Prod.mk.injEq] at e5
  obtain ⟨n5, t5, o5⟩ := e5
  simp only [Prod.mk.injEq] at e6
  obtain ⟨n6, t6, o6⟩ := e6
  have h : (Op.eqFields 9999 #[.int .i64 p.kd, .int .i64 p.wh, .int .i64 p.sr, .int .i64 p.tr, .int .i64 p.pi, .int .i64 p.le, .int .i64 p.zo] #[.int .i64 q.kd, .int .i64 q.wh, .int .i64 q.sr, .int .i64 q.tr, .int .i64 q.pi, .int .i64 q.le, .int .i64 q.zo] []).run Tryz.prog w = .ok true w := by simp [Op.eqFields]
  replace h := eqFields_stepE (f := f6) w n6 (by rw [t6, o6]; exact run_part_plain w (by kernel_rfl) rfl) (by rw [t6, o6]; exact run_part_plain w (by kernel_rfl) rfl) (by rw [t6]; exact run_equalIn_int w 9998 3 .i64 .i64 _ _ Tryz.underlying3) h
  replace h := eqFields_stepE (f := f5) w n5 (by rw [t5, o5]; exact run_part_plain w (by kernel_rfl) rfl) (by rw [t5, o5]; exact run_part_plain w (by kernel_rfl) rfl) (by rw [t5]; exact run_equalIn_int w 9998 3 .i64 .i64 _ _ Tryz.underlying3) h
  replace h := eqFields_stepE (f := f4) w n4 (by rw [t4, o4]; exact run_part_plain w (by kernel_rfl) rfl) (by rw [t4, o4]; exact run_part_plain w (by kernel_rfl) rfl) (by rw [t4]; exact run_equalIn_int w 9998 3 .i64 .i64 _ _ Tryz.underlying3) h
  replace h := eqFields_stepE (f := f3) w n3 (by rw [t3, o3]; exact run_part_plain w (by kernel_rfl) rfl) (by rw [t3, o3]; exact run_part_plain w (by kernel_rfl) rfl) (by rw [t3]; exact run_equalIn_int w 9998 3 .i64 .i64 _ _ Tryz.underlying3) h
  replace h := eqFields_stepE (f := f2) w n2 (by rw [t2, o2]; exact run_part_plain w (by kernel_rfl) rfl) (by rw [t2, o2]; exact run_part_plain w (by kernel_rfl) rfl) (by rw [t2]; exact run_equalIn_int w 9998 3 .i64 .i64 _ _ Tryz.underlying3) h
  replace h := eqFields_stepE (f := f1) w n1 (by rw [t1, o1]; exact run_part_plain w (by kernel_rfl) rfl) (by rw [t1, o1]; exact run_part_plain w (by kernel_rfl) rfl) (by rw [t1]; exact run_equalIn_int w 9998 3 .i64 .i64 _ _ Tryz.underlying3) h
  replace h := eqFields_stepE (f := f0) w n0 (by rw [t0, o0]; exact run_part_plain w (by kernel_rfl) rfl) (by rw [t0, o0]; exact run_part_plain w (by kernel_rfl) rfl) (by rw [t0]; exact run_equalIn_int w 9998 3 .i64 .i64 _ _ Tryz.underlying3) h
  rw [h]
  congr 1
  unfold smPt
  simp only [Bool.and_true, Bool.and_assoc]
  rfl
end Go.Proofs.YtodfdfncdoliiadGreat
namespace Go.Proofs.YtodfdfncdoliiadGreat
open Go.ChangeShapes Go.WideShapes Go.ChangeAt Go.RowKit
set_option maxRecDepth 100000
set_option linter.unusedVariables false
set_option linter.unusedSimpArgs false

structure Gd where
  (kd nn : Int)
/-- each of its numbers is one that an int can be -/
def Gd.wf (e : Gd) : Prop := ∀ x ∈ [e.kd, e.nn], (Lit.int .i64 x).wf = true
theorem list2_guard {α : Type} : ∀ {l : List α}, l.length = 2 → ∃ x0 x1, l = [x0, x1]
  | [x0, x1], _ => ⟨x0, x1, rfl⟩
/-- block b holds one -/
def BoxGd (w : World) (b t : Nat) (e : Gd) : Prop := w.heap[b]? = some (.cells #[.int .i64 e.kd, .int .i64 e.nn] t (0, 0))
theorem boxGd_new (w : World) (t : Nat) (e : Gd) : BoxGd (w.alloc (.cells #[.int .i64 e.kd, .int .i64 e.nn] t)) w.heap.size t e := heap_alloc_new w _
theorem BoxGd.lt {w : World} {b t : Nat} {e : Gd} (h : BoxGd w b t e) : b < w.heap.size := (Array.getElem?_eq_some_iff.1 h).1
theorem BoxGd.grew {w w' : World} {b t : Nat} {e : Gd} (h : BoxGd w b t e) (hb : Below w.heap.size w w') : BoxGd w' b t e := (hb.block b h.lt).trans h
theorem BoxGd.alloc {w : World} {b t : Nat} {e : Gd} (h : BoxGd w b t e) (o : Obj) : BoxGd (w.alloc o) b t e := (Below.heap_alloc w o b h.lt).trans h
/-- its cells, one by one -/
def CellsGd (w : World) (b : Nat) (e : Gd) : Prop :=
  w.cell? ⟨b, 0, none⟩ = some (.int .i64 e.kd) ∧ w.cell? ⟨b, 1, none⟩ = some (.int .i64 e.nn)
theorem BoxGd.cells {w : World} {b t : Nat} {e : Gd} (h : BoxGd w b t e) : CellsGd w b e :=
  ⟨cell_of_row w b 0 _ t (0, 0) h, cell_of_row w b 1 _ t (0, 0) h⟩
/-- whether two are the same in all their parts -/
def smGd (p q : Gd) : Bool := decide (p.kd = q.kd) && decide (p.nn = q.nn)
theorem smGd_self (e : Gd) : smGd e e = true := by unfold smGd; simp
theorem Tryz.fieldsGd : (Tryz.prog.fieldsOf 27).toList.map (fun f => (f.name == "_", f.type, f.offset)) = [(false, 3, 0), (false, 3, 1)] := by kernel_rfl
theorem run_eq_guard (p q : Gd) (w : World) : (Op.equalIn 10000 27 (.agg #[.int .i64 p.kd, .int .i64 p.nn]) (.agg #[.int .i64 q.kd, .int .i64 q.nn])).run Tryz.prog w = .ok (smGd p q) w := by
  rw [run_equalIn_struct w 9999 _ _ _ (by kernel_rfl) (by kernel_rfl)]
  have hL := Tryz.fieldsGd
  generalize (Tryz.prog.fieldsOf 27).toList = L at hL ⊢
  obtain ⟨f0, L0, rfl, e0, hL⟩ := list_of_mapE hL
  obtain ⟨f1, L1, rfl, e1, hL⟩ := list_of_mapE hL
  rw [List.map_eq_nil_iff] at hL
  subst hL
  simp only [Prod.mk.injEq] at e0
  obtain ⟨n0, t0, o0⟩ := e0
  simp only [Prod.mk.injEq] at e1
  obtain ⟨n1, t1, o1⟩ := e1
  have h : (Op.eqFields 9999 #[.int .i64 p.kd, .int .i64 p.nn] #[.int .i64 q.kd, .int .i64 q.nn] []).run Tryz.prog w = .ok true w := by simp [Op.eqFields]
  replace h := eqFields_stepE (f := f1) w n1 (by rw [t1, o1]; exact run_part_plain w (by kernel_rfl) rfl) (by rw [t1, o1]; exact run_part_plain w (by kernel_rfl) rfl) (by rw [t1]; exact run_equalIn_int w 9998 3 .i64 .i64 _ _ Tryz.underlying3) h
  replace h := eqFields_stepE (f := f0) w n0 (by rw [t0, o0]; exact run_part_plain w (by kernel_rfl) rfl) (by rw [t0, o0]; exact run_part_plain w (by kernel_rfl) rfl) (by rw [t0]; exact run_equalIn_int w 9998 3 .i64 .i64 _ _ Tryz.underlying3) h
  rw [h]
  congr 1
  unfold smGd
  simp only [Bool.and_true, Bool.and_assoc]
  rfl
end Go.Proofs.YtodfdfncdoliiadGreat
namespace Go.Proofs.YtodfdfncdoliiadGreat
open Go.ChangeShapes Go.WideShapes Go.ChangeAt Go.RowKit
set_option maxRecDepth 100000
set_option linter.unusedVariables false
set_option linter.unusedSimpArgs false

/-- an effect as it came in -/
structure Ef where
  (id si sr cl : Int)
  (pt : Pt)
  (gd : Gd)
  (ac : Ac)
  (un le : Int)
def Ef.ok (a : Ef) (w : World) : Prop := a.ac.ok w ∧ (∀ x ∈ [a.id, a.si, a.sr, a.cl, a.un, a.le], (Lit.int .i64 x).wf = true) ∧ a.pt.wf ∧ a.gd.wf
/-- what the functions of this chapter need of it -/
def Ef.okW (a : Ef) (w : World) : Prop := a.ac.ok w ∧ (Lit.int .i64 a.le).wf = true
theorem Ef.ok.w {a : Ef} {w : World} (h : a.ok w) : a.okW w := ⟨h.1, h.2.1 a.le (by simp)⟩
theorem efw_grew {a : Ef} {w w' : World} (h : a.okW w) (hb : Below w.heap.size w w') : a.okW w' := ⟨act_grew h.1 hb, h.2⟩
theorem ef_grew {a : Ef} {w w' : World} (h : a.ok w) (hb : Below w.heap.size w w') : a.ok w' := ⟨act_grew h.1 hb, h.2⟩
/-- a struct, field by field: what cells each takes -/
theorem open_structN {H : Type} {enc : TypeId × Value → H} {Q : Program} {w : World} {base : Nat} {spare : TypeId → Bool} {held : Bool} {r : Reach} {b0 : Nat} {t : TypeId} {fs : Array Field} {v : Value} {d : DataW H} {p : List MemPlace} (hs : Q.underlying t = some (.struct fs))
    (hv : Value.okWide Q w r b0 t v) (h : DataW.Trod enc Q w base spare held t v d p) :
    ∃ cs : List Value, v = .agg cs.toArray ∧ cs.length = Q.cellsOf t ∧ ∀ (i : Nat) (f : Field), fs[i]? = some f → ∃ n y, DataW.trod enc Q w base spare held n f.type ((cs.drop f.offset).take (Q.cellsOf f.type)) = some y := by
  obtain ⟨cs, rfl, hsz⟩ := okWide_struct hs hv
  obtain ⟨fuel, hf⟩ := h
  obtain ⟨xs, n, _, _, _, hlen, hx⟩ := DataW.trod_struct hs hf
  refine ⟨cs.toList, by simp, by simp [hsz], fun i f hfi => ?_⟩
  have h1 := hx i f hfi
  have hi : i < xs.length := by rw [hlen]; exact (Array.getElem?_eq_some_iff.1 hfi).1
  rw [List.getElem?_eq_getElem hi] at h1
  exact ⟨n, _, h1⟩
theorem list22 {α : Type} : ∀ {l : List α}, l.length = 22 → ∃ x0 x1 x2 x3 x4 x5 x6 x7 x8 x9 x10 x11 x12 x13 x14 x15 x16 x17 x18 x19 x20 x21, l = [x0, x1, x2, x3, x4, x5, x6, x7, x8, x9, x10, x11, x12, x13, x14, x15, x16, x17, x18, x19, x20, x21]
  | [x0, x1, x2, x3, x4, x5, x6, x7, x8, x9, x10, x11, x12, x13, x14, x15, x16, x17, x18, x19, x20, x21], _ => ⟨x0, x1, x2, x3, x4, x5, x6, x7, x8, x9, x10, x11, x12, x13, x14, x15, x16, x17, x18, x19, x20, x21, rfl⟩
/-- the cells of the act that an effect holds, in a box -/
theorem BoxR.acts {w : World} {g : Nat} {a : Ef} {T : Nat} (h : BoxR w g T #[.int .i64 a.id, .int .i64 a.si, .int .i64 a.sr, .int .i64 a.cl, .int .i64 a.pt.kd, .int .i64 a.pt.wh, .int .i64 a.pt.sr, .int .i64 a.pt.tr, .int .i64 a.pt.pi, .int .i64 a.pt.le, .int .i64 a.pt.zo, .int .i64 a.gd.kd, .int .i64 a.gd.nn, .int .i64 a.ac.kd, .int .i64 a.ac.nn, .int .i64 a.ac.pi, .int .i64 a.ac.si, .int .i64 a.ac.zo, .bool a.ac.be, .slice a.ac.la a.ac.ln a.ac.lcap, .int .i64 a.un, .int .i64 a.le]) : w.cell? ⟨g, 13, none⟩ = some (.int .i64 a.ac.kd) ∧ w.cell? ⟨g, 14, none⟩ = some (.int .i64 a.ac.nn) ∧ w.cell? ⟨g, 15, none⟩ = some (.int .i64 a.ac.pi) ∧ w.cell? ⟨g, 16, none⟩ = some (.int .i64 a.ac.si) ∧ w.cell? ⟨g, 17, none⟩ = some (.int .i64 a.ac.zo) ∧ w.cell? ⟨g, 18, none⟩ = some (.bool a.ac.be) ∧ w.cell? ⟨g, 19, none⟩ = some (.slice a.ac.la a.ac.ln a.ac.lcap) :=
  ⟨h.cell 13, h.cell 14, h.cell 15, h.cell 16, h.cell 17, h.cell 18, h.cell 19⟩
end Go.Proofs.YtodfdfncdoliiadGreat
namespace Go.Proofs.YtodfdfncdoliiadGreat
open Go.ChangeShapes Go.WideShapes Go.ChangeAt Go.RowKit
set_option maxRecDepth 100000
set_option linter.unusedVariables false
set_option linter.unusedSimpArgs false

def putA (cs : Array Value) (k : Nat) : List Value → Array Value
  | [] => cs
  | v :: L => putA (cs.setIfInBounds k v) (k + 1) L
theorem BoxR.putL {w : World} {g t : Nat} {cs : Array Value} (h : BoxR w g t cs) (k : Nat) (L : List Value) : BoxR (w.setCells g k L) g t (putA cs k L) := by
  induction L generalizing w cs k with
  | nil => exact h
  | cons v L ih => unfold World.setCells; exact ih (h.put k v) (k + 1)
theorem BoxR.otherL {w : World} {b g t : Nat} {cs : Array Value} (h : BoxR w b t cs) (hne : b ≠ g) (k : Nat) (L : List Value) : BoxR (w.setCells g k L) b t cs := by
  induction L generalizing w k with
  | nil => exact h
  | cons v L ih => unfold World.setCells; exact ih (h.other (q := ⟨g, k, none⟩) hne v) (k + 1)
theorem BoxR.thereL {w : World} {g t : Nat} {cs : Array Value} (h : BoxR w g t cs) {k n : Nat} (hn : k + n ≤ cs.size) : w.there g k n := there_row h hn
theorem setCells_other {g i : Nat} (hne : i ≠ g) : ∀ (L : List Value) (k : Nat) (w : World), (w.setCells g k L).heap[i]? = w.heap[i]?
  | [], _, _ => rfl
  | v :: L, k, w => by unfold World.setCells; rw [setCells_other hne L (k + 1)]; exact Below.heap_setCell w ⟨g, k, none⟩ v i hne
theorem OwnA.setL {w : World} {B g : Nat} {t : Ac} (h : OwnA w B t) (hne : t.lb ≠ g) (k : Nat) (L : List Value) : OwnA (w.setCells g k L) B t := by
  refine ⟨h.1, h.2.1, ?_⟩
  refine h.2.2.same (setCells_other hne L k w) ?_
  have : ∀ (L : List Value) (k : Nat) (w : World), w.heap.size ≤ (w.setCells g k L).heap.size := by
    intro L
    induction L with
    | nil => intro k w; exact Nat.le_refl _
    | cons v L ih => intro k w; unfold World.setCells; exact Nat.le_trans (by simp) (ih (k + 1) _)
  exact this L k w
theorem OwnA.setC {w : World} {B g : Nat} {t : Ac} (h : OwnA w B t) (hne : t.lb ≠ g) (k : Nat) (v : Value) : OwnA (w.setCell ⟨g, k, none⟩ v) B t :=
  ⟨h.1, h.2.1, h.2.2.same (Below.heap_setCell w ⟨g, k, none⟩ v t.lb hne) (by simp)⟩
/-- they say the same, wherever their lists lie -/
structure AlikeF (t a : Ef) : Prop where
  id : t.id = a.id
  si : t.si = a.si
  sr : t.sr = a.sr
  cl : t.cl = a.cl
  pt : t.pt = a.pt
  gd : t.gd = a.gd
  ac : AlikeA t.ac a.ac
  un : t.un = a.un
  le : t.le = a.le
/-- the call's own -/
def OwnF (w : World) (B : Nat) (t : Ef) : Prop := OwnA w B t.ac
theorem OwnF.grew {w w' : World} {B : Nat} {t : Ef} (h : OwnF w B t) (hb : Below w.heap.size w w') : OwnF w' B t := OwnA.grew h hb
theorem okT10 {t a : Ef} {w w0 : World} {B : Nat} (h : OwnF w B t) (k : AlikeF t a) (hs : a.ok w0) : t.ok w := by
  refine ⟨okT9 h k.ac hs.1, ?_, ?_, ?_⟩
  · rw [k.id, k.si, k.sr, k.cl, k.un, k.le]; exact hs.2.1
  · rw [k.pt]; exact hs.2.2.1
  · rw [k.gd]; exact hs.2.2.2
end Go.Proofs.YtodfdfncdoliiadGreat
