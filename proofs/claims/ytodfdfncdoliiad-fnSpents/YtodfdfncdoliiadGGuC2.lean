/-
  Chapter 8: the specification's counts: l8Many (mnG), BentOf (bnG). Written by tools/gu.gen.py. Structs, and rows of them, held against each other: what '==' answers (run_eq_pc, run_eq_sd, run_eq_row). Written by a script. Own work.
-/
import Derived.Test.YtodfdfncdoliiadGPaB2
import Derived.Test.YtodfdfncdoliiadGEfD2
import Derived.Test.YtodfdfncdoliiadGRegBelow3
import Derived.DeepKeys
namespace Go.Proofs.Ytodfdfncdoliiad
open Go.ChangeShapes Go.WideShapes Go.ChangeAt Go.RowKit
set_option maxRecDepth 100000
set_option linter.unusedVariables false
set_option linter.unusedSimpArgs false

def mnP (side : Int) (p : Pc) : Bool := decide (p.zo = 2) && decide (p.si = side)
def bnP (side : Int) (p : Pc) : Bool := decide (p.zo = 2) && decide (p.si = side) && p.be
/-- how many of the first n are so -/
def cnG (f : Pc → Bool) (n : Nat) (ps : Nat → Pc) : Nat := ((List.range n).filter (fun i => f (ps i))).length
theorem cnG_yes {f : Pc → Bool} {k : Nat} {ps : Nat → Pc} (h : f (ps k) = true) : cnG f (k + 1) ps = cnG f k ps + 1 := by unfold cnG; rw [List.range_succ, List.filter_append]; simp [h]
theorem cnG_no {f : Pc → Bool} {k : Nat} {ps : Nat → Pc} (h : f (ps k) = false) : cnG f (k + 1) ps = cnG f k ps := by unfold cnG; rw [List.range_succ, List.filter_append]; simp [h]
theorem cnG_le (f : Pc → Bool) (n : Nat) (ps : Nat → Pc) : cnG f n ps ≤ n := by unfold cnG; exact Nat.le_trans (List.length_filter_le _ _) (by simp)
/-- how many pieces this side has on the field; how many of them are bent -/
def mnG (s : Stt) (side : Int) : Nat := cnG (mnP side) s.pn s.ps
def bnG (s : Stt) (side : Int) : Nat := cnG (bnP side) s.pn s.ps
end Go.Proofs.Ytodfdfncdoliiad
namespace Go.Proofs.Ytodfdfncdoliiad
open Go.ChangeShapes Go.WideShapes Go.ChangeAt Go.RowKit
set_option maxRecDepth 100000
set_option linter.unusedVariables false
set_option linter.unusedSimpArgs false
/-- whether two sides are the same -/
def smD (s t : Sd) : Bool := decide (s.li = t.li) && decide (s.po = t.po) && (s.lo == t.lo)
theorem Try.fieldsPc : (Try.prog.fieldsOf 78).toList.map (fun f => (f.name == "_", f.type, f.offset)) = [(false, 3, 0), (false, 3, 1), (false, 3, 2), (false, 3, 3), (false, 3, 4), (false, 3, 5), (false, 3, 6), (false, 3, 7), (false, 3, 8), (false, 3, 9), (false, 3, 10), (false, 4, 11), (false, 4, 12)] := by kernel_rfl
theorem Try.fieldsSd : (Try.prog.fieldsOf 76).toList.map (fun f => (f.name == "_", f.type, f.offset)) = [(false, 3, 0), (false, 3, 1), (false, 4, 2)] := by kernel_rfl
theorem eqFields_step {P : Program} {d : Nat} {xs ys : Array Value} {f : Field} {fs : List Field} {a b : Value} {r r' : Bool} (w : World) (hn : (f.name == "_") = false) (h1 : (part f.type xs f.offset).run P w = .ok a w) (h2 : (part f.type ys f.offset).run P w = .ok b w) (h3 : (Op.equalIn d f.type a b).run P w = .ok r w) (h4 : (Op.eqFields d xs ys fs).run P w = .ok r' w) : (Op.eqFields d xs ys (f :: fs)).run P w = .ok (r && r') w := by
  have hn' : f.name ≠ "_" := by simpa using hn
  simp only [Op.eqFields, hn', ne_eq, not_false_eq_true, if_true, Sem.run_bind, h1, h2, h3, Result.andThen_ok]
  cases r
  · simp
  · simpa using h4
theorem eqFields_nil {P : Program} {d : Nat} {xs ys : Array Value} (w : World) : (Op.eqFields d xs ys []).run P w = .ok true w := by simp [Op.eqFields]
theorem list_of_map {α β : Type} {g : α → β} : ∀ {l : List α} {b : β} {bs : List β}, l.map g = b :: bs → ∃ a l', l = a :: l' ∧ g a = b ∧ l'.map g = bs
  | a :: l, _, _, h => by
    simp only [List.map_cons, List.cons.injEq] at h
    exact ⟨a, l, rfl, h.1, h.2⟩
theorem run_eq_pc (p q : Pc) (w : World) : (Op.equalIn 10000 78 (.agg #[.int .i64 p.id, .int .i64 p.ow, .int .i64 p.si, .int .i64 p.zo, .int .i64 p.st, .int .i64 p.po, .int .i64 p.to, .int .i64 p.tr, .int .i64 p.pl, .int .i64 p.mi, .int .i64 p.ma, .bool p.de, .bool p.be]) (.agg #[.int .i64 q.id, .int .i64 q.ow, .int .i64 q.si, .int .i64 q.zo, .int .i64 q.st, .int .i64 q.po, .int .i64 q.to, .int .i64 q.tr, .int .i64 q.pl, .int .i64 q.mi, .int .i64 q.ma, .bool q.de, .bool q.be])).run Try.prog w = .ok (smP p q) w := by
  rw [run_equalIn_struct w 9999 _ _ _ (by kernel_rfl) (by kernel_rfl)]
  have hL := Try.fieldsPc
  generalize (Try.prog.fieldsOf 78).toList = L at hL ⊢
  obtain ⟨f0, L0, rfl, e0, hL⟩ := list_of_map hL
  obtain ⟨f1, L1, rfl, e1, hL⟩ := list_of_map hL
  obtain ⟨f2, L2, rfl, e2, hL⟩ := list_of_map hL
  obtain ⟨f3, L3, rfl, e3, hL⟩ := list_of_map hL
  obtain ⟨f4, L4, rfl, e4, hL⟩ := list_of_map hL
  obtain ⟨f5, L5, rfl, e5, hL⟩ := list_of_map hL
  obtain ⟨f6, L6, rfl, e6, hL⟩ := list_of_map hL
  obtain ⟨f7, L7, rfl, e7, hL⟩ := list_of_map hL
  obtain ⟨f8, L8, rfl, e8, hL⟩ := list_of_map hL
  obtain ⟨f9, L9, rfl, e9, hL⟩ := list_of_map hL
  obtain ⟨f10, L10, rfl, e10, hL⟩ := list_of_map hL
  obtain ⟨f11, L11, rfl, e11, hL⟩ := list_of_map hL
  obtain ⟨f12, L12, rfl, e12, hL⟩ := list_of_map hL
  rw [List.map_eq_nil_iff] at hL
  subst hL
  simp only [Prod.mk.injEq] at e0
  obtain ⟨n0, t0, o0⟩ := e0
  simp only [Prod.mk.injEq] at e1
  obtain ⟨n1, t1, o1⟩ := e1
  simp only [Prod.mk.injEq] at e2
  obtain ⟨n2, t2, o2⟩ := e2
  simp only [Prod.mk.injEq] at e3
  obtain ⟨n3, t3, o3⟩ := e3
  simp only [Prod.mk.injEq] at e4
  obtain ⟨n4, t4, o4⟩ := e4
  simp only [Prod.mk.injEq] at e5
  obtain ⟨n5, t5, o5⟩ := e5
  simp only [Prod.mk.injEq] at e6
  obtain ⟨n6, t6, o6⟩ := e6
  simp only [Prod.mk.injEq] at e7
  obtain ⟨n7, t7, o7⟩ := e7
  simp only [Prod.mk.injEq] at e8
  obtain ⟨n8, t8, o8⟩ := e8
  simp only [Prod.mk.injEq] at e9
  obtain ⟨n9, t9, o9⟩ := e9
  simp only [Prod.mk.injEq] at e10
  obtain ⟨n10, t10, o10⟩ := e10
  simp only [Prod.mk.injEq] at e11
  obtain ⟨n11, t11, o11⟩ := e11
  simp only [Prod.mk.injEq] at e12
  obtain ⟨n12, t12, o12⟩ := e12
  have h := eqFields_nil (P := Try.prog) (d := 9999) (xs := #[.int .i64 p.id, .int .i64 p.ow, .int .i64 p.si, .int .i64 p.zo, .int .i64 p.st, .int .i64 p.po, .int .i64 p.to, .int .i64 p.tr, .int .i64 p.pl, .int .i64 p.mi, .int .i64 p.ma, .bool p.de, .bool p.be]) (ys := #[.int .i64 q.id, .int .i64 q.ow, .int .i64 q.si, .int .i64 q.zo, .int .i64 q.st, .int .i64 q.po, .int .i64 q.to, .int .i64 q.tr, .int .i64 q.pl, .int .i64 q.mi, .int .i64 q.ma, .bool q.de, .bool q.be]) w
  replace h := eqFields_step (f := f12) w n12 (by rw [t12, o12]; exact run_part_plain w (by kernel_rfl) rfl) (by rw [t12, o12]; exact run_part_plain w (by kernel_rfl) rfl) (by rw [t12]; exact run_equalIn_bool' w 9998 4 _ _ Try.underlying4) h
  replace h := eqFields_step (f := f11) w n11 (by rw [t11, o11]; exact run_part_plain w (by kernel_rfl) rfl) (by rw [t11, o11]; exact run_part_plain w (by kernel_rfl) rfl) (by rw [t11]; exact run_equalIn_bool' w 9998 4 _ _ Try.underlying4) h
  replace h := eqFields_step (f := f10) w n10 (by rw [t10, o10]; exact run_part_plain w (by kernel_rfl) rfl) (by rw [t10, o10]; exact run_part_plain w (by kernel_rfl) rfl) (by rw [t10]; exact run_equalIn_int w 9998 3 .i64 .i64 _ _ Try.underlying3) h
  replace h := eqFields_step (f := f9) w n9 (by rw [t9, o9]; exact run_part_plain w (by kernel_rfl) rfl) (by rw [t9, o9]; exact run_part_plain w (by kernel_rfl) rfl) (by rw [t9]; exact run_equalIn_int w 9998 3 .i64 .i64 _ _ Try.underlying3) h
  replace h := eqFields_step (f := f8) w n8 (by rw [t8, o8]; exact run_part_plain w (by kernel_rfl) rfl) (by rw [t8, o8]; exact run_part_plain w (by kernel_rfl) rfl) (by rw [t8]; exact run_equalIn_int w 9998 3 .i64 .i64 _ _ Try.underlying3) h
  replace h := eqFields_step (f := f7) w n7 (by rw [t7, o7]; exact run_part_plain w (by kernel_rfl) rfl) (by rw [t7, o7]; exact run_part_plain w (by kernel_rfl) rfl) (by rw [t7]; exact run_equalIn_int w 9998 3 .i64 .i64 _ _ Try.underlying3) h
  replace h := eqFields_step (f := f6) w n6 (by rw [t6, o6]; exact run_part_plain w (by kernel_rfl) rfl) (by rw [t6, o6]; exact run_part_plain w (by kernel_rfl) rfl) (by rw [t6]; exact run_equalIn_int w 9998 3 .i64 .i64 _ _ Try.underlying3) h
  replace h := eqFields_step (f := f5) w n5 (by rw [t5, o5]; exact run_part_plain w (by kernel_rfl) rfl) (by rw [t5, o5]; exact run_part_plain w (by kernel_rfl) rfl) (by rw [t5]; exact run_equalIn_int w 9998 3 .i64 .i64 _ _ Try.underlying3) h
  replace h := eqFields_step (f := f4) w n4 (by rw [t4, o4]; exact run_part_plain w (by kernel_rfl) rfl) (by rw [t4, o4]; exact run_part_plain w (by kernel_rfl) rfl) (by rw [t4]; exact run_equalIn_int w 9998 3 .i64 .i64 _ _ Try.underlying3) h
  replace h := eqFields_step (f := f3) w n3 (by rw [t3, o3]; exact run_part_plain w (by kernel_rfl) rfl) (by rw [t3, o3]; exact run_part_plain w (by kernel_rfl) rfl) (by rw [t3]; exact run_equalIn_int w 9998 3 .i64 .i64 _ _ Try.underlying3) h
  replace h := eqFields_step (f := f2) w n2 (by rw [t2, o2]; exact run_part_plain w (by kernel_rfl) rfl) (by rw [t2, o2]; exact run_part_plain w (by kernel_rfl) rfl) (by rw [t2]; exact run_equalIn_int w 9998 3 .i64 .i64 _ _ Try.underlying3) h
  replace h := eqFields_step (f := f1) w n1 (by rw [t1, o1]; exact run_part_plain w (by kernel_rfl) rfl) (by rw [t1, o1]; exact run_part_plain w (by kernel_rfl) rfl) (by rw [t1]; exact run_equalIn_int w 9998 3 .i64 .i64 _ _ Try.underlying3) h
  replace h := eqFields_step (f := f0) w n0 (by rw [t0, o0]; exact run_part_plain w (by kernel_rfl) rfl) (by rw [t0, o0]; exact run_part_plain w (by kernel_rfl) rfl) (by rw [t0]; exact run_equalIn_int w 9998 3 .i64 .i64 _ _ Try.underlying3) h
  rw [h]
  congr 1
  unfold smP
  simp only [Bool.and_true, Bool.and_assoc]
  rfl
theorem run_eq_sd (s t : Sd) (w : World) : (Op.equalIn 10000 76 (.agg #[.int .i64 s.li, .int .i64 s.po, .bool s.lo]) (.agg #[.int .i64 t.li, .int .i64 t.po, .bool t.lo])).run Try.prog w = .ok (smD s t) w := by
  rw [run_equalIn_struct w 9999 _ _ _ (by kernel_rfl) (by kernel_rfl)]
  have hL := Try.fieldsSd
  generalize (Try.prog.fieldsOf 76).toList = L at hL ⊢
  obtain ⟨f0, L0, rfl, e0, hL⟩ := list_of_map hL
  obtain ⟨f1, L1, rfl, e1, hL⟩ := list_of_map hL
  obtain ⟨f2, L2, rfl, e2, hL⟩ := list_of_map hL
  rw [List.map_eq_nil_iff] at hL
  subst hL
  simp only [Prod.mk.injEq] at e0
  obtain ⟨n0, t0, o0⟩ := e0
  simp only [Prod.mk.injEq] at e1
  obtain ⟨n1, t1, o1⟩ := e1
  simp only [Prod.mk.injEq] at e2
  obtain ⟨n2, t2, o2⟩ := e2
  have h := eqFields_nil (P := Try.prog) (d := 9999) (xs := #[.int .i64 s.li, .int .i64 s.po, .bool s.lo]) (ys := #[.int .i64 t.li, .int .i64 t.po, .bool t.lo]) w
  replace h := eqFields_step (f := f2) w n2 (by rw [t2, o2]; exact run_part_plain w (by kernel_rfl) rfl) (by rw [t2, o2]; exact run_part_plain w (by kernel_rfl) rfl) (by rw [t2]; exact run_equalIn_bool' w 9998 4 _ _ Try.underlying4) h
  replace h := eqFields_step (f := f1) w n1 (by rw [t1, o1]; exact run_part_plain w (by kernel_rfl) rfl) (by rw [t1, o1]; exact run_part_plain w (by kernel_rfl) rfl) (by rw [t1]; exact run_equalIn_int w 9998 3 .i64 .i64 _ _ Try.underlying3) h
  replace h := eqFields_step (f := f0) w n0 (by rw [t0, o0]; exact run_part_plain w (by kernel_rfl) rfl) (by rw [t0, o0]; exact run_part_plain w (by kernel_rfl) rfl) (by rw [t0]; exact run_equalIn_int w 9998 3 .i64 .i64 _ _ Try.underlying3) h
  rw [h]
  congr 1
  unfold smD
  simp only [Bool.and_true, Bool.and_assoc]
  rfl
theorem run_eq_sd1 (s t : Sd) (w : World) : (Op.equalIn 9999 76 (.agg #[.int .i64 s.li, .int .i64 s.po, .bool s.lo]) (.agg #[.int .i64 t.li, .int .i64 t.po, .bool t.lo])).run Try.prog w = .ok (smD s t) w := by
  rw [run_equalIn_struct w 9998 _ _ _ (by kernel_rfl) (by kernel_rfl)]
  have hL := Try.fieldsSd
  generalize (Try.prog.fieldsOf 76).toList = L at hL ⊢
  obtain ⟨f0, L0, rfl, e0, hL⟩ := list_of_map hL
  obtain ⟨f1, L1, rfl, e1, hL⟩ := list_of_map hL
  obtain ⟨f2, L2, rfl, e2, hL⟩ := list_of_map hL
  rw [List.map_eq_nil_iff] at hL
  subst hL
  simp only [Prod.mk.injEq] at e0
  obtain ⟨n0, t0, o0⟩ := e0
  simp only [Prod.mk.injEq] at e1
  obtain ⟨n1, t1, o1⟩ := e1
  simp only [Prod.mk.injEq] at e2
  obtain ⟨n2, t2, o2⟩ := e2
  have h := eqFields_nil (P := Try.prog) (d := 9998) (xs := #[.int .i64 s.li, .int .i64 s.po, .bool s.lo]) (ys := #[.int .i64 t.li, .int .i64 t.po, .bool t.lo]) w
  replace h := eqFields_step (f := f2) w n2 (by rw [t2, o2]; exact run_part_plain w (by kernel_rfl) rfl) (by rw [t2, o2]; exact run_part_plain w (by kernel_rfl) rfl) (by rw [t2]; exact run_equalIn_bool' w 9997 4 _ _ Try.underlying4) h
  replace h := eqFields_step (f := f1) w n1 (by rw [t1, o1]; exact run_part_plain w (by kernel_rfl) rfl) (by rw [t1, o1]; exact run_part_plain w (by kernel_rfl) rfl) (by rw [t1]; exact run_equalIn_int w 9997 3 .i64 .i64 _ _ Try.underlying3) h
  replace h := eqFields_step (f := f0) w n0 (by rw [t0, o0]; exact run_part_plain w (by kernel_rfl) rfl) (by rw [t0, o0]; exact run_part_plain w (by kernel_rfl) rfl) (by rw [t0]; exact run_equalIn_int w 9997 3 .i64 .i64 _ _ Try.underlying3) h
  rw [h]
  congr 1
  unfold smD
  simp only [Bool.and_true, Bool.and_assoc]
  rfl
/-- the cells of a row of three sides -/
def rwC (a b c : Sd) : List Value := sdC a ++ sdC b ++ sdC c
theorem run_part_sd (xs : Array Value) (off : Nat) (w : World) : (part 76 xs off).run Try.prog w = .ok (.agg (xs.extract off (off + 3))) w := by
  obtain ⟨i0, hi, hz0, hz1, hz2⟩ := info_parts Try.infoSd
  have hce : Try.prog.cellsOf 76 = 3 := by kernel_rfl
  simp [part, isAgg, run_underlying Try.underlying76, run_sizeOf w hi, hce]
theorem smD_self (s : Sd) : smD s s = true := by unfold smD; simp
theorem smD_eq {s t : Sd} (h : smD s t = true) : s = t := by
  obtain ⟨a, b, c⟩ := s
  obtain ⟨x, y, z⟩ := t
  unfold smD at h
  simp only [Bool.and_eq_true, decide_eq_true_eq, beq_iff_eq] at h
  obtain ⟨⟨rfl, rfl⟩, rfl⟩ := h
  rfl
theorem smP_eq {p q : Pc} (h : smP p q = true) : p = q := by
  unfold smP at h
  simp only [Bool.and_eq_true, decide_eq_true_eq, beq_iff_eq, and_assoc] at h
  obtain ⟨h0, h1, h2, h3, h4, h5, h6, h7, h8, h9, h10, h11, h12⟩ := h
  cases p; cases q
  simp only at h0 h1 h2 h3 h4 h5 h6 h7 h8 h9 h10 h11 h12
  subst h0 h1 h2 h3 h4 h5 h6 h7 h8 h9 h10 h11 h12
  rfl
end Go.Proofs.Ytodfdfncdoliiad
