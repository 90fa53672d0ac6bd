/-
  Chapter 6: words for a thing that would happen (Ev), how a law's own is opened and taken over, its box; what '==' of two answers. Written by tools/ev.gen.py. Contracts of chapter 1's sums (Bound, Plus, Less, Twice, Half, Upto, and the program's inner sum) over this seat's translation: what each answers, for every argument, and that the world holds at most new blocks behind it. Chapter 6: WithN, of the specification and of the program; a law's eqEvent. Written by tools/ev.gen.py. Own work.
-/
import Derived.Test.YtodfdfncdoliiadGreatGCur5
import Derived.DeepKeys
import Derived.Test.YtodfdfncdoliiadGreatRows
import Derived.WalkKit
import Derived.ProofKit
import Derived.OpenShut
namespace Go.Proofs.YtodfdfncdoliiadGreat
open Go.ChangeShapes Go.WideShapes Go.ChangeAt Go.RowKit
set_option maxRecDepth 100000
set_option linter.unusedVariables false
set_option linter.unusedSimpArgs false

structure Ev where
  (kd sr pi si nn zo : Int)
  (be : Bool)
/-- each of its numbers is one that an int can be -/
def Ev.wf (e : Ev) : Prop := ∀ x ∈ [e.kd, e.sr, e.pi, e.si, e.nn, e.zo], (Lit.int .i64 x).wf = true
theorem list7 {α : Type} : ∀ {l : List α}, l.length = 7 → ∃ a b c d e f g, l = [a, b, c, d, e, f, g]
  | [a, b, c, d, e, f, g], _ => ⟨a, b, c, d, e, f, g, rfl⟩
/-- block b holds a thing -/
def BoxE (w : World) (b t : Nat) (e : Ev) : Prop := w.heap[b]? = some (.cells #[.int .i64 e.kd, .int .i64 e.sr, .int .i64 e.pi, .int .i64 e.si, .int .i64 e.nn, .int .i64 e.zo, .bool e.be] t (0, 0))
theorem boxE_new (w : World) (t : Nat) (e : Ev) : BoxE (w.alloc (.cells #[.int .i64 e.kd, .int .i64 e.sr, .int .i64 e.pi, .int .i64 e.si, .int .i64 e.nn, .int .i64 e.zo, .bool e.be] t)) w.heap.size t e := heap_alloc_new w _
theorem BoxE.lt {w : World} {b t : Nat} {e : Ev} (h : BoxE w b t e) : b < w.heap.size := (Array.getElem?_eq_some_iff.1 h).1
theorem BoxE.grew {w w' : World} {b t : Nat} {e : Ev} (h : BoxE w b t e) (hb : Below w.heap.size w w') : BoxE w' b t e := (hb.block b h.lt).trans h
theorem BoxE.alloc {w : World} {b t : Nat} {e : Ev} (h : BoxE w b t e) (o : Obj) : BoxE (w.alloc o) b t e := (Below.heap_alloc w o b h.lt).trans h
/-- its cells, one by one -/
def Cells7 (w : World) (b : Nat) (e : Ev) : Prop :=
  w.cell? ⟨b, 0, none⟩ = some (.int .i64 e.kd) ∧ w.cell? ⟨b, 1, none⟩ = some (.int .i64 e.sr) ∧ w.cell? ⟨b, 2, none⟩ = some (.int .i64 e.pi) ∧ w.cell? ⟨b, 3, none⟩ = some (.int .i64 e.si) ∧ w.cell? ⟨b, 4, none⟩ = some (.int .i64 e.nn) ∧ w.cell? ⟨b, 5, none⟩ = some (.int .i64 e.zo) ∧ w.cell? ⟨b, 6, none⟩ = some (.bool e.be)
theorem BoxE.cells {w : World} {b t : Nat} {e : Ev} (h : BoxE w b t e) : Cells7 w b e :=
  ⟨cell_of_row w b 0 _ t (0, 0) h, cell_of_row w b 1 _ t (0, 0) h, cell_of_row w b 2 _ t (0, 0) h, cell_of_row w b 3 _ t (0, 0) h, cell_of_row w b 4 _ t (0, 0) h, cell_of_row w b 5 _ t (0, 0) h, cell_of_row w b 6 _ t (0, 0) h⟩
theorem BoxE.cells7 {w w' : World} {b t : Nat} {e : Ev} (h : BoxE w b t e) (hb : Below w.heap.size w w') : Cells7 w' b e := (h.grew hb).cells
/-- whether two things are the same in all their parts -/
def smE (p q : Ev) : Bool := decide (p.kd = q.kd) && decide (p.sr = q.sr) && decide (p.pi = q.pi) && decide (p.si = q.si) && decide (p.nn = q.nn) && decide (p.zo = q.zo) && (p.be == q.be)
theorem smE_self (e : Ev) : smE e e = true := by unfold smE; simp
theorem eqFields_stepE {P : Program} {d : Nat} {xs ys : Array Value} {f : Field} {fs : List Field} {a b : Value} {r r' : Bool} (w : World) (hn : (f.name == "_") = false) (h1 : (part f.type xs f.offset).run P w = .ok a w) (h2 : (part f.type ys f.offset).run P w = .ok b w) (h3 : (Op.equalIn d f.type a b).run P w = .ok r w) (h4 : (Op.eqFields d xs ys fs).run P w = .ok r' w) : (Op.eqFields d xs ys (f :: fs)).run P w = .ok (r && r') w := by
  have hn' : f.name ≠ "_" := by simpa using hn
  simp only [Op.eqFields, hn', ne_eq, not_false_eq_true, if_true, Sem.run_bind, h1, h2, h3, Result.andThen_ok]
  cases r
  · simp
  · simpa using h4
theorem list_of_mapE {α β : Type} {g : α → β} : ∀ {l : List α} {b : β} {bs : List β}, l.map g = b :: bs → ∃ a l', l = a :: l' ∧ g a = b ∧ l'.map g = bs
  | a :: l, _, _, h => by
    simp only [List.map_cons, List.cons.injEq] at h
    exact ⟨a, l, rfl, h.1, h.2⟩
theorem Tryz.fieldsEv : (Tryz.prog.fieldsOf 39).toList.map (fun f => (f.name == "_", f.type, f.offset)) = [(false, 3, 0), (false, 3, 1), (false, 3, 2), (false, 3, 3), (false, 3, 4), (false, 3, 5), (false, 4, 6)] := by kernel_rfl
theorem run_eq_ev (p q : Ev) (w : World) : (Op.equalIn 10000 39 (.agg #[.int .i64 p.kd, .int .i64 p.sr, .int .i64 p.pi, .int .i64 p.si, .int .i64 p.nn, .int .i64 p.zo, .bool p.be]) (.agg #[.int .i64 q.kd, .int .i64 q.sr, .int .i64 q.pi, .int .i64 q.si, .int .i64 q.nn, .int .i64 q.zo, .bool q.be])).run Tryz.prog w = .ok (smE p q) w := by
  rw [run_equalIn_struct w 9999 _ _ _ (by kernel_rfl) (by kernel_rfl)]
  have hL := Tryz.fieldsEv
  generalize (Tryz.prog.fieldsOf 39).toList = L at hL ⊢
  obtain ⟨f0, L0, rfl, e0, hL⟩ := list_of_mapE hL
  obtain ⟨f1, L1, rfl, e1, hL⟩ := list_of_mapE hL
  obtain ⟨f2, L2, rfl, e2, hL⟩ := list_of_mapE hL
  obtain ⟨f3, L3, rfl, e3, hL⟩ := list_of_mapE hL
  obtain ⟨f4, L4, rfl, e4, hL⟩ := list_of_mapE hL
  obtain ⟨f5, L5, rfl, e5, hL⟩ := list_of_mapE hL
  obtain ⟨f6, L6, rfl, e6, hL⟩ := list_of_mapE hL
  rw [List.map_eq_nil_iff] at hL
  subst hL
  simp only [Prod.mk.injEq] at e0
  obtain ⟨n0, t0, o0⟩ := e0
  simp only [Prod.mk.injEq] at e1
  obtain ⟨n1, t1, o1⟩ := e1
  simp only [Prod.mk.injEq] at e2
  obtain ⟨n2, t2, o2⟩ := e2
  simp only [Prod.mk.injEq] at e3
  obtain ⟨n3, t3, o3⟩ := e3
  simp only [Prod.mk.injEq] at e4
  obtain ⟨n4, t4, o4⟩ := e4
  simp only [Prod.mk.injEq] at e5
  obtain ⟨n5, t5, o5⟩ := e5
  simp only [Prod.mk.injEq] at e6
  obtain ⟨n6, t6, o6⟩ := e6
  have h : (Op.eqFields 9999 #[.int .i64 p.kd, .int .i64 p.sr, .int .i64 p.pi, .int .i64 p.si, .int .i64 p.nn, .int .i64 p.zo, .bool p.be] #[.int .i64 q.kd, .int .i64 q.sr, .int .i64 q.pi, .int .i64 q.si, .int .i64 q.nn, .int .i64 q.zo, .bool q.be] []).run Tryz.prog w = .ok true w := by simp [Op.eqFields]
  replace h := eqFields_stepE (f := f6) w n6 (by rw [t6, o6]; exact run_part_plain w (by kernel_rfl) rfl) (by rw [t6, o6]; exact run_part_plain w (by kernel_rfl) rfl) (by rw [t6]; exact run_equalIn_bool' w 9998 4 _ _ Tryz.underlying4) h
  replace h := eqFields_stepE (f := f5) w n5 (by rw [t5, o5]; exact run_part_plain w (by kernel_rfl) rfl) (by rw [t5, o5]; exact run_part_plain w (by kernel_rfl) rfl) (by rw [t5]; exact run_equalIn_int w 9998 3 .i64 .i64 _ _ Tryz.underlying3) h
  replace h := eqFields_stepE (f := f4) w n4 (by rw [t4, o4]; exact run_part_plain w (by kernel_rfl) rfl) (by rw [t4, o4]; exact run_part_plain w (by kernel_rfl) rfl) (by rw [t4]; exact run_equalIn_int w 9998 3 .i64 .i64 _ _ Tryz.underlying3) h
  replace h := eqFields_stepE (f := f3) w n3 (by rw [t3, o3]; exact run_part_plain w (by kernel_rfl) rfl) (by rw [t3, o3]; exact run_part_plain w (by kernel_rfl) rfl) (by rw [t3]; exact run_equalIn_int w 9998 3 .i64 .i64 _ _ Tryz.underlying3) h
  replace h := eqFields_stepE (f := f2) w n2 (by rw [t2, o2]; exact run_part_plain w (by kernel_rfl) rfl) (by rw [t2, o2]; exact run_part_plain w (by kernel_rfl) rfl) (by rw [t2]; exact run_equalIn_int w 9998 3 .i64 .i64 _ _ Tryz.underlying3) h
  replace h := eqFields_stepE (f := f1) w n1 (by rw [t1, o1]; exact run_part_plain w (by kernel_rfl) rfl) (by rw [t1, o1]; exact run_part_plain w (by kernel_rfl) rfl) (by rw [t1]; exact run_equalIn_int w 9998 3 .i64 .i64 _ _ Tryz.underlying3) h
  replace h := eqFields_stepE (f := f0) w n0 (by rw [t0, o0]; exact run_part_plain w (by kernel_rfl) rfl) (by rw [t0, o0]; exact run_part_plain w (by kernel_rfl) rfl) (by rw [t0]; exact run_equalIn_int w 9998 3 .i64 .i64 _ _ Tryz.underlying3) h
  rw [h]
  congr 1
  unfold smE
  simp only [Bool.and_true, Bool.and_assoc]
  rfl
end Go.Proofs.YtodfdfncdoliiadGreat
namespace Go.Proofs.YtodfdfncdoliiadGreat
open Go.ChangeShapes Go.WideShapes Go.ChangeAt Go.RowKit
set_option maxRecDepth 100000

def bnd (n : Int) : Int := if 2147483647 < n then 2147483647 else if n < -2147483647 then -2147483647 else n
theorem bnd_rng (n : Int) : -2147483647 ≤ bnd n ∧ bnd n ≤ 2147483647 := by
  unfold bnd; split
  · omega
  · split <;> omega
theorem ret_int {k : IntKind} {a b : Int} (h : a = b) : Ending.returned (.int k a) = .returned (.int k b) := by rw [h]

def upt (n m : Int) : Int := if m < n then (if m < 0 then 0 else m) else (if n < 0 then 0 else n)

theorem implUpto_any (a b : Int) (w : World) :
    Calls Tryz.prog 170 #[.int .i64 a, .int .i64 b] w fun e w' => e = .returned (.int .i64 (upt a b)) ∧ w' = w := by
  go_enter Tryz.func170, Tryz.ntmps170
  go_wp2
  all_goals go_ret
  all_goals refine ⟨ret_int ?_, rfl⟩
  all_goals (unfold upt; (repeat' split) <;> omega)

/-! The same answers under names that a walk does not open, the world told by 'Below'. -/
def pl (a b : Int) : Int := bnd (bnd a + bnd b)
def ls (a b : Int) : Int := bnd (bnd a - bnd b)
def tw (a : Int) : Int := bnd (2 * bnd a)
def hf (a : Int) : Int := (bnd a).tdiv 2
def bd (a : Int) : Int := bnd a
def up (a b : Int) : Int := upt a b
theorem implUpto_b (a b : Int) (w : World) : Calls Tryz.prog 170 #[.int .i64 a, .int .i64 b] w fun e w' => e = .returned (.int .i64 (up a b)) ∧ w' = w := implUpto_any a b w
end Go.Proofs.YtodfdfncdoliiadGreat
namespace Go.Proofs.YtodfdfncdoliiadGreat
open Go.ChangeShapes Go.WideShapes Go.ChangeAt Go.RowKit
set_option maxRecDepth 100000
set_option linter.unusedVariables false
set_option linter.unusedSimpArgs false

/-- it, with so much -/
def wnE (e : Ev) (n : Int) : Ev := ⟨e.kd, e.sr, e.pi, e.si, up n 2147483647, e.zo, e.be⟩
set_option maxHeartbeats 4000000 in
theorem implWithN_any (e : Ev) (n : Int) (w : World) : Calls Tryz.prog 169 #[(.agg #[.int .i64 e.kd, .int .i64 e.sr, .int .i64 e.pi, .int .i64 e.si, .int .i64 e.nn, .int .i64 e.zo, .bool e.be]), .int .i64 n] w fun r w' => r = .returned (.agg #[.int .i64 (wnE e n).kd, .int .i64 (wnE e n).sr, .int .i64 (wnE e n).pi, .int .i64 (wnE e n).si, .int .i64 (wnE e n).nn, .int .i64 (wnE e n).zo, .bool (wnE e n).be]) ∧ Below w.heap.size w w' := by
  go_enter Tryz.func169, Tryz.ntmps169
  go_wp2_with (go_at_call 170; refine (implUpto_b _ _ _).mono ?_; rintro r w' ⟨rfl, rfl⟩)
  (try simp only [Exit.inBlock, Exit.then]); refine bodyPost_ret (results_cell_row rfl _ _ (w.heap.size + 1) _ _ _ _ rfl (heap_alloc2_new _ _ _) Tryz.underlying39 rfl (by kernel_rfl)) rfl ?_
  exact ⟨rfl, ((Below.refl _ w).alloc (Nat.le_refl _) _).alloc (by simp) _⟩
end Go.Proofs.YtodfdfncdoliiadGreat
