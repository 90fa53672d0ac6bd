/-
  Chapter 4: a law's piece taken over (toPiece), and the specification's PieceOk, SamePiece, HasTrait, PowerOf, ToughOf, Moved. Contracts of the exact laws' own helpers over slices of bytes and of ints: toByteS, eqByteS, markByteS, heldByteS and the like. Chapter 6: words for a thing that would happen (Ev), how a law's own is opened and taken over, its box; what '==' of two answers. Written by tools/ev.gen.py. Own work.
-/
import Derived.Test.YtdcgobngmdhmaadGRegCut3
import Derived.Test.YtdcgobngmdhmaadRow
import Derived.DeepKeys
namespace Go.Proofs.Ytdcgobngmdhmaad
open Go.ChangeShapes Go.WideShapes Go.ChangeAt Go.RowKit
set_option maxRecDepth 100000

/-- block b holds a piece -/
def BoxP (w : World) (b t : Nat) (p : Pc) : Prop := w.heap[b]? = some (.cells #[.int .i64 p.id, .int .i64 p.ow, .int .i64 p.si, .int .i64 p.zo, .int .i64 p.st, .int .i64 p.po, .int .i64 p.to, .int .i64 p.tr, .int .i64 p.pl, .int .i64 p.mi, .int .i64 p.ma, .bool p.de, .bool p.be] t (0, 0))
theorem box_new (w : World) (t : Nat) (p : Pc) : BoxP (w.alloc (.cells #[.int .i64 p.id, .int .i64 p.ow, .int .i64 p.si, .int .i64 p.zo, .int .i64 p.st, .int .i64 p.po, .int .i64 p.to, .int .i64 p.tr, .int .i64 p.pl, .int .i64 p.mi, .int .i64 p.ma, .bool p.de, .bool p.be] t)) w.heap.size t p := heap_alloc_new w _
theorem BoxP.lt {w : World} {b t : Nat} {p : Pc} (h : BoxP w b t p) : b < w.heap.size := (Array.getElem?_eq_some_iff.1 h).1
theorem BoxP.grew {w w' : World} {b t : Nat} {p : Pc} (h : BoxP w b t p) (hb : Below w.heap.size w w') : BoxP w' b t p := (hb.block b h.lt).trans h
theorem BoxP.alloc {w : World} {b t : Nat} {p : Pc} (h : BoxP w b t p) (o : Obj) : BoxP (w.alloc o) b t p := (Below.heap_alloc w o b h.lt).trans h
/-- its cells, one by one -/
def Cells13 (w : World) (b : Nat) (p : Pc) : Prop :=
  w.cell? ⟨b, 0, none⟩ = some (.int .i64 p.id) ∧ w.cell? ⟨b, 1, none⟩ = some (.int .i64 p.ow) ∧ w.cell? ⟨b, 2, none⟩ = some (.int .i64 p.si) ∧ w.cell? ⟨b, 3, none⟩ = some (.int .i64 p.zo) ∧ w.cell? ⟨b, 4, none⟩ = some (.int .i64 p.st) ∧ w.cell? ⟨b, 5, none⟩ = some (.int .i64 p.po) ∧ w.cell? ⟨b, 6, none⟩ = some (.int .i64 p.to) ∧ w.cell? ⟨b, 7, none⟩ = some (.int .i64 p.tr) ∧ w.cell? ⟨b, 8, none⟩ = some (.int .i64 p.pl) ∧ w.cell? ⟨b, 9, none⟩ = some (.int .i64 p.mi) ∧ w.cell? ⟨b, 10, none⟩ = some (.int .i64 p.ma) ∧ w.cell? ⟨b, 11, none⟩ = some (.bool p.de) ∧ w.cell? ⟨b, 12, none⟩ = some (.bool p.be)
theorem BoxP.cells {w : World} {b t : Nat} {p : Pc} (h : BoxP w b t p) : Cells13 w b p :=
  ⟨cell_of_row w b 0 _ t (0, 0) h, cell_of_row w b 1 _ t (0, 0) h, cell_of_row w b 2 _ t (0, 0) h, cell_of_row w b 3 _ t (0, 0) h, cell_of_row w b 4 _ t (0, 0) h, cell_of_row w b 5 _ t (0, 0) h, cell_of_row w b 6 _ t (0, 0) h, cell_of_row w b 7 _ t (0, 0) h, cell_of_row w b 8 _ t (0, 0) h, cell_of_row w b 9 _ t (0, 0) h, cell_of_row w b 10 _ t (0, 0) h, cell_of_row w b 11 _ t (0, 0) h, cell_of_row w b 12 _ t (0, 0) h⟩
theorem BoxP.cells13 {w w' : World} {b t : Nat} {p : Pc} (h : BoxP w b t p) (hb : Below w.heap.size w w') : Cells13 w' b p := (h.grew hb).cells
/-- whether x lies from a to b -/
def ib (x a b : Int) : Bool := decide (a ≤ x) && decide (x ≤ b)
theorem ret_bool' {a b : Bool} (h : a = b) : Ending.returned (.bool a) = .returned (.bool b) := by rw [h]
theorem l1In_any (x a b : Int) (w : World) : Calls Try.prog 71 #[.int .i64 x, .int .i64 a, .int .i64 b] w fun e w' => e = .returned (.bool (ib x a b)) ∧ w' = w := by
  go_enter Try.func71, Try.ntmps71
  go_wp2
  all_goals go_ret
  all_goals refine ⟨ret_bool' ?_, rfl⟩
  all_goals (unfold ib; simp_all <;> omega)
def okA (p : Pc) : Bool := ib p.id 1 99 && ib p.ow 0 2 && ib p.si 0 2 && ib p.zo 1 4 && ib p.st 0 9999 && ib p.po 0 999 && ib p.to 0 999 && ib p.tr 0 63
def okB (p : Pc) : Bool := ib p.pl 0 2147483647 && ib p.mi 0 2147483647 && ib p.ma 0 2147483647
def okC (p : Pc) : Bool := decide (p.zo = 2) || (decide (p.si = p.ow) && decide (p.pl = 0) && decide (p.mi = 0) && decide (p.ma = 0) && !p.de && !p.be)
/-- whether a piece is as chapter 4 wants it -/
def okP (p : Pc) : Bool := okA p && okB p && okC p
end Go.Proofs.Ytdcgobngmdhmaad
namespace Go.Proofs.Ytdcgobngmdhmaad
open Go.ChangeShapes Go.WideShapes Go.ChangeAt Go.RowKit
set_option maxRecDepth 100000
theorem below_drewN {B : Nat} {a w : World} (h : Below B a w) (n : Nat) : Below B a (w.drewN n) := ⟨h.os, h.tape, h.output, h.size, h.block⟩

theorem below_only {B p : Nat} {w u u' : World} (hB : Below B w u) (hs : B ≤ p) (hu : B ≤ u.heap.size) (ho : Only p u u') : Below B w u' := hB.trans (ho.below hs hu)
theorem u8_wf {x : Int} (h : (Lit.int .u8 x).wf = true) : 0 ≤ x ∧ x ≤ 255 := bounds_u8 h
theorem i64_wf {x : Int} (h : (Lit.int .i64 x).wf = true) : -9223372036854775808 ≤ x ∧ x ≤ 9223372036854775807 := bounds_i64 h
/-- the row that came in, in the words of the frame's 'IsRow' -/
theorem rd_of_row {k : IntKind} {w : World} {a : Option Addr} {len cap : Nat} {zs : List Int}
    (h : (a = none ∧ len = 0 ∧ cap = 0 ∧ zs = []) ∨ ∃ x, a = some x ∧ len ≤ cap ∧ cap ≤ maxLen ∧ zs.length = cap ∧ (∀ i, i < zs.length → w.cell? (x.add i) = some (.int k (zs.getD i 0))) ∧ ∀ n ∈ zs, (Lit.int k n).wf = true) :
    len ≤ 9223372036854775807 ∧ ∃ b, ∃ f : Nat → Int, Rd k w b a len f ∧ ∀ i, i < len → (Lit.int k (f i)).wf = true := by
  rcases h with ⟨rfl, rfl, rfl, rfl⟩ | ⟨x, rfl, hl, hm, hz, hc, hw⟩
  · exact ⟨by omega, 0, fun _ => 0, .inl rfl, fun i hi => by omega⟩
  · unfold maxLen at hm
    refine ⟨by omega, ?_⟩
    by_cases h0 : len = 0
    · exact ⟨0, fun _ => 0, .inl h0, fun i hi => by omega⟩
    · obtain ⟨b, off, rfl, hcell⟩ := ints_at hc (by omega)
      refine ⟨b, fun i => zs.getD i 0, .inr ⟨off, rfl, fun i hi => hcell i (by omega)⟩, fun i hi => ?_⟩
      have hi' : i < zs.length := by omega
      have e : zs.getD i 0 = zs[i] := by simp [hi']
      show (Lit.int k (zs.getD i 0)).wf = true
      rw [e]
      exact hw _ (List.getElem_mem hi')

def mkByteS (k0 : Int) : Nat → Int := fun j => IntKind.u8.wrap (k0 + j)
def mkIntS (k0 : Int) : Nat → Int := fun j => k0 + j
end Go.Proofs.Ytdcgobngmdhmaad
namespace Go.Proofs.Ytdcgobngmdhmaad
open Go.ChangeShapes Go.WideShapes Go.ChangeAt Go.RowKit
set_option maxRecDepth 100000
set_option linter.unusedVariables false
set_option linter.unusedSimpArgs false

structure Ev where
  (kd sr pi si nn zo : Int)
  (be : Bool)
/-- each of its numbers is one that an int can be -/
def Ev.wf (e : Ev) : Prop := ∀ x ∈ [e.kd, e.sr, e.pi, e.si, e.nn, e.zo], (Lit.int .i64 x).wf = true
theorem list7 {α : Type} : ∀ {l : List α}, l.length = 7 → ∃ a b c d e f g, l = [a, b, c, d, e, f, g]
  | [a, b, c, d, e, f, g], _ => ⟨a, b, c, d, e, f, g, rfl⟩
/-- block b holds a thing -/
def BoxE (w : World) (b t : Nat) (e : Ev) : Prop := w.heap[b]? = some (.cells #[.int .i64 e.kd, .int .i64 e.sr, .int .i64 e.pi, .int .i64 e.si, .int .i64 e.nn, .int .i64 e.zo, .bool e.be] t (0, 0))
theorem boxE_new (w : World) (t : Nat) (e : Ev) : BoxE (w.alloc (.cells #[.int .i64 e.kd, .int .i64 e.sr, .int .i64 e.pi, .int .i64 e.si, .int .i64 e.nn, .int .i64 e.zo, .bool e.be] t)) w.heap.size t e := heap_alloc_new w _
theorem BoxE.lt {w : World} {b t : Nat} {e : Ev} (h : BoxE w b t e) : b < w.heap.size := (Array.getElem?_eq_some_iff.1 h).1
theorem BoxE.grew {w w' : World} {b t : Nat} {e : Ev} (h : BoxE w b t e) (hb : Below w.heap.size w w') : BoxE w' b t e := (hb.block b h.lt).trans h
theorem BoxE.alloc {w : World} {b t : Nat} {e : Ev} (h : BoxE w b t e) (o : Obj) : BoxE (w.alloc o) b t e := (Below.heap_alloc w o b h.lt).trans h
/-- its cells, one by one -/
def Cells7 (w : World) (b : Nat) (e : Ev) : Prop :=
  w.cell? ⟨b, 0, none⟩ = some (.int .i64 e.kd) ∧ w.cell? ⟨b, 1, none⟩ = some (.int .i64 e.sr) ∧ w.cell? ⟨b, 2, none⟩ = some (.int .i64 e.pi) ∧ w.cell? ⟨b, 3, none⟩ = some (.int .i64 e.si) ∧ w.cell? ⟨b, 4, none⟩ = some (.int .i64 e.nn) ∧ w.cell? ⟨b, 5, none⟩ = some (.int .i64 e.zo) ∧ w.cell? ⟨b, 6, none⟩ = some (.bool e.be)
theorem BoxE.cells {w : World} {b t : Nat} {e : Ev} (h : BoxE w b t e) : Cells7 w b e :=
  ⟨cell_of_row w b 0 _ t (0, 0) h, cell_of_row w b 1 _ t (0, 0) h, cell_of_row w b 2 _ t (0, 0) h, cell_of_row w b 3 _ t (0, 0) h, cell_of_row w b 4 _ t (0, 0) h, cell_of_row w b 5 _ t (0, 0) h, cell_of_row w b 6 _ t (0, 0) h⟩
theorem BoxE.cells7 {w w' : World} {b t : Nat} {e : Ev} (h : BoxE w b t e) (hb : Below w.heap.size w w') : Cells7 w' b e := (h.grew hb).cells
/-- whether two things are the same in all their parts -/
def smE (p q : Ev) : Bool := decide (p.kd = q.kd) && decide (p.sr = q.sr) && decide (p.pi = q.pi) && decide (p.si = q.si) && decide (p.nn = q.nn) && decide (p.zo = q.zo) && (p.be == q.be)
theorem smE_self (e : Ev) : smE e e = true := by unfold smE; simp
theorem eqFields_stepE {P : Program} {d : Nat} {xs ys : Array Value} {f : Field} {fs : List Field} {a b : Value} {r r' : Bool} (w : World) (hn : (f.name == "_") = false) (h1 : (part f.type xs f.offset).run P w = .ok a w) (h2 : (part f.type ys f.offset).run P w = .ok b w) (h3 : (Op.equalIn d f.type a b).run P w = .ok r w) (h4 : (Op.eqFields d xs ys fs).run P w = .ok r' w) : (Op.eqFields d xs ys (f :: fs)).run P w = .ok (r && r') w := by
  have hn' : f.name ≠ "_" := by simpa using hn
  simp only [Op.eqFields, hn', ne_eq, not_false_eq_true, if_true, Sem.run_bind, h1, h2, h3, Result.andThen_ok]
  cases r
  · simp
  · simpa using h4
theorem list_of_mapE {α β : Type} {g : α → β} : ∀ {l : List α} {b : β} {bs : List β}, l.map g = b :: bs → ∃ a l', l = a :: l' ∧ g a = b ∧ l'.map g = bs
  | a :: l, _, _, h => by
    simp only [List.map_cons, List.cons.injEq] at h
    exact ⟨a, l, rfl, h.1, h.2⟩
theorem Try.fieldsEv : (Try.prog.fieldsOf 51).toList.map (fun f => (f.name == "_", f.type, f.offset)) = [(false, 3, 0), (false, 3, 1), (false, 3, 2), (false, 3, 3), (false, 3, 4), (false, 3, 5), (false, 4, 6)] := by kernel_rfl
theorem run_eq_ev (p q : Ev) (w : World) : (Op.equalIn 10000 51 (.agg #[.int .i64 p.kd, .int .i64 p.sr, .int .i64 p.pi, .int .i64 p.si, .int .i64 p.nn, .int .i64 p.zo, .bool p.be]) (.agg #[.int .i64 q.kd, .int .i64 q.sr, .int .i64 q.pi, .int .i64 q.si, .int .i64 q.nn, .int .i64 q.zo, .bool q.be])).run Try.prog w = .ok (smE p q) w := by
  rw [run_equalIn_struct w 9999 _ _ _ (by kernel_rfl) (by kernel_rfl)]
  have hL := Try.fieldsEv
  generalize (Try.prog.fieldsOf 51).toList = L at hL ⊢
  obtain ⟨f0, L0, rfl, e0, hL⟩ := list_of_mapE hL
  obtain ⟨f1, L1, rfl, e1, hL⟩ := list_of_mapE hL
  obtain ⟨f2, L2, rfl, e2, hL⟩ := list_of_mapE hL
  obtain ⟨f3, L3, rfl, e3, hL⟩ := list_of_mapE hL
  obtain ⟨f4, L4, rfl, e4, hL⟩ := list_of_mapE hL
  obtain ⟨f5, L5, rfl, e5, hL⟩ := list_of_mapE hL
  obtain ⟨f6, L6, rfl, e6, hL⟩ := list_of_mapE hL
  rw [List.map_eq_nil_iff] at hL
  subst hL
  simp only [Prod.mk.injEq] at e0
  obtain ⟨n0, t0, o0⟩ := e0
  simp only [Prod.mk.injEq] at e1
  obtain ⟨n1, t1, o1⟩ := e1
  simp only [Prod.mk.injEq] at e2
  obtain ⟨n2, t2, o2⟩ := e2
  simp only [Prod.mk.injEq] at e3
  obtain ⟨n3, t3, o3⟩ := e3
  simp only [Prod.mk.injEq] at e4
  obtain ⟨n4, t4, o4⟩ := e4
  simp only [Prod.mk.injEq] at e5
  obtain ⟨n5, t5, o5⟩ := e5
  simp only [Prod.mk.injEq] at e6
  obtain ⟨n6, t6, o6⟩ := e6
  have h : (Op.eqFields 9999 #[.int .i64 p.kd, .int .i64 p.sr, .int .i64 p.pi, .int .i64 p.si, .int .i64 p.nn, .int .i64 p.zo, .bool p.be] #[.int .i64 q.kd, .int .i64 q.sr, .int .i64 q.pi, .int .i64 q.si, .int .i64 q.nn, .int .i64 q.zo, .bool q.be] []).run Try.prog w = .ok true w := by simp [Op.eqFields]
  replace h := eqFields_stepE (f := f6) w n6 (by rw [t6, o6]; exact run_part_plain w (by kernel_rfl) rfl) (by rw [t6, o6]; exact run_part_plain w (by kernel_rfl) rfl) (by rw [t6]; exact run_equalIn_bool' w 9998 4 _ _ Try.underlying4) h
  replace h := eqFields_stepE (f := f5) w n5 (by rw [t5, o5]; exact run_part_plain w (by kernel_rfl) rfl) (by rw [t5, o5]; exact run_part_plain w (by kernel_rfl) rfl) (by rw [t5]; exact run_equalIn_int w 9998 3 .i64 .i64 _ _ Try.underlying3) h
  replace h := eqFields_stepE (f := f4) w n4 (by rw [t4, o4]; exact run_part_plain w (by kernel_rfl) rfl) (by rw [t4, o4]; exact run_part_plain w (by kernel_rfl) rfl) (by rw [t4]; exact run_equalIn_int w 9998 3 .i64 .i64 _ _ Try.underlying3) h
  replace h := eqFields_stepE (f := f3) w n3 (by rw [t3, o3]; exact run_part_plain w (by kernel_rfl) rfl) (by rw [t3, o3]; exact run_part_plain w (by kernel_rfl) rfl) (by rw [t3]; exact run_equalIn_int w 9998 3 .i64 .i64 _ _ Try.underlying3) h
  replace h := eqFields_stepE (f := f2) w n2 (by rw [t2, o2]; exact run_part_plain w (by kernel_rfl) rfl) (by rw [t2, o2]; exact run_part_plain w (by kernel_rfl) rfl) (by rw [t2]; exact run_equalIn_int w 9998 3 .i64 .i64 _ _ Try.underlying3) h
  replace h := eqFields_stepE (f := f1) w n1 (by rw [t1, o1]; exact run_part_plain w (by kernel_rfl) rfl) (by rw [t1, o1]; exact run_part_plain w (by kernel_rfl) rfl) (by rw [t1]; exact run_equalIn_int w 9998 3 .i64 .i64 _ _ Try.underlying3) h
  replace h := eqFields_stepE (f := f0) w n0 (by rw [t0, o0]; exact run_part_plain w (by kernel_rfl) rfl) (by rw [t0, o0]; exact run_part_plain w (by kernel_rfl) rfl) (by rw [t0]; exact run_equalIn_int w 9998 3 .i64 .i64 _ _ Try.underlying3) h
  rw [h]
  congr 1
  unfold smE
  simp only [Bool.and_true, Bool.and_assoc]
  rfl
end Go.Proofs.Ytdcgobngmdhmaad
