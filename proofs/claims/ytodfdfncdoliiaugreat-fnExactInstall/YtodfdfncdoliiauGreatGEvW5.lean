/-
  Chapter 6: the specification's EventOk (okE). Written by tools/ev.gen.py. Chapter 6: the specification's EventOk, going on. Written by tools/ev.gen.py. Chapter 6: the specification's EventOk, going on. Written by tools/ev.gen.py. Chapter 6: the specification's EventOk, going on. Written by tools/ev.gen.py. Chapter 9: the specification's l9Part, l9Plain, ActFits (fiA), Amount (amA). Written by tools/ac.gen.py. Own work.
-/
import Derived.Test.YtodfdfncdoliiauGreatGEvA3
import Derived.Test.YtodfdfncdoliiauGreatAcA
namespace Go.Proofs.YtodfdfncdoliiauGreat
open Go.ChangeShapes Go.WideShapes Go.ChangeAt Go.RowKit
set_option maxRecDepth 100000
set_option linter.unusedVariables false
set_option linter.unusedSimpArgs false

/-- of a piece; of a side -/
def pcE (e : Ev) : Bool := ib e.pi 1 99 && decide (e.si = -1)
def sdE (e : Ev) : Bool := decide (e.pi = 0) && ib e.si 0 2
def ok1 (e : Ev) : Bool := ib e.sr 1 99 && (pcE e || sdE e) && decide (e.zo = 0) && !e.be
def ok2 (e : Ev) : Bool := decide (e.sr = 0) && pcE e && ib e.zo 1 4 && decide (e.nn ≤ 99) && (decide (e.zo = 2) || decide (e.nn = 0) && !e.be)
def ok3 (e : Ev) : Bool := decide (e.sr = 0) && sdE e && decide (e.zo = 0) && !e.be
def ok5 (e : Ev) : Bool := decide (e.sr = 0) && pcE e && decide (e.zo = 0) && !e.be
/-- whether it may be -/
def okE (e : Ev) : Bool := ib e.nn 0 2147483647 && (if e.kd = 1 then ok1 e else if e.kd = 2 then ok2 e else if e.kd = 3 ∨ e.kd = 4 then ok3 e else if e.kd = 5 ∨ e.kd = 6 then ok5 e else false)
end Go.Proofs.YtodfdfncdoliiauGreat
namespace Go.Proofs.YtodfdfncdoliiauGreat
open Go.ChangeShapes Go.WideShapes Go.ChangeAt Go.RowKit
set_option maxRecDepth 100000
set_option linter.unusedVariables false
set_option linter.unusedSimpArgs false

set_option maxHeartbeats 4000000 in
theorem eok_1 (e : Ev) (w : World) (hk : e.kd = 1) :
    Calls Tryz.prog 80 #[(.agg #[.int .i64 e.kd, .int .i64 e.sr, .int .i64 e.pi, .int .i64 e.si, .int .i64 e.nn, .int .i64 e.zo, .bool e.be])] w fun r w' => r = .returned (.bool (okE e)) ∧ Below w.heap.size w w' := by
  go_enter Tryz.func80, Tryz.ntmps80
  try simp only [List.append_eq, List.cons_append, List.nil_append]
  go_wp2_with (go_at_call 55; refine (l1In_any _ _ _ _).mono ?_; rintro r w' ⟨rfl, rfl⟩)
  all_goals go_ret
  all_goals refine ⟨ret_bool' ?_, (Below.refl _ w).alloc (Nat.le_refl _) _⟩
  all_goals (unfold okE; unfold ok1 pcE sdE; simp_all)
end Go.Proofs.YtodfdfncdoliiauGreat
namespace Go.Proofs.YtodfdfncdoliiauGreat
open Go.ChangeShapes Go.WideShapes Go.ChangeAt Go.RowKit
set_option maxRecDepth 100000
set_option linter.unusedVariables false
set_option linter.unusedSimpArgs false

set_option maxHeartbeats 4000000 in
theorem eok_2 (e : Ev) (w : World) (hk : e.kd = 2) :
    Calls Tryz.prog 80 #[(.agg #[.int .i64 e.kd, .int .i64 e.sr, .int .i64 e.pi, .int .i64 e.si, .int .i64 e.nn, .int .i64 e.zo, .bool e.be])] w fun r w' => r = .returned (.bool (okE e)) ∧ Below w.heap.size w w' := by
  go_enter Tryz.func80, Tryz.ntmps80
  try simp only [List.append_eq, List.cons_append, List.nil_append]
  go_wp2_with (go_at_call 55; refine (l1In_any _ _ _ _).mono ?_; rintro r w' ⟨rfl, rfl⟩)
  all_goals go_ret
  all_goals refine ⟨ret_bool' ?_, (Below.refl _ w).alloc (Nat.le_refl _) _⟩
  all_goals (unfold okE; unfold ok2 pcE; simp_all <;> (intro; omega))
end Go.Proofs.YtodfdfncdoliiauGreat
namespace Go.Proofs.YtodfdfncdoliiauGreat
open Go.ChangeShapes Go.WideShapes Go.ChangeAt Go.RowKit
set_option maxRecDepth 100000
set_option linter.unusedVariables false
set_option linter.unusedSimpArgs false

set_option maxHeartbeats 4000000 in
theorem eok_3 (e : Ev) (w : World) (hk : e.kd = 3) :
    Calls Tryz.prog 80 #[(.agg #[.int .i64 e.kd, .int .i64 e.sr, .int .i64 e.pi, .int .i64 e.si, .int .i64 e.nn, .int .i64 e.zo, .bool e.be])] w fun r w' => r = .returned (.bool (okE e)) ∧ Below w.heap.size w w' := by
  go_enter Tryz.func80, Tryz.ntmps80
  try simp only [List.append_eq, List.cons_append, List.nil_append]
  go_wp2_with (go_at_call 55; refine (l1In_any _ _ _ _).mono ?_; rintro r w' ⟨rfl, rfl⟩)
  all_goals go_ret
  all_goals refine ⟨ret_bool' ?_, (Below.refl _ w).alloc (Nat.le_refl _) _⟩
  all_goals (unfold okE; unfold ok3 sdE; simp_all)
set_option maxHeartbeats 4000000 in
theorem eok_4 (e : Ev) (w : World) (hk : e.kd = 4) :
    Calls Tryz.prog 80 #[(.agg #[.int .i64 e.kd, .int .i64 e.sr, .int .i64 e.pi, .int .i64 e.si, .int .i64 e.nn, .int .i64 e.zo, .bool e.be])] w fun r w' => r = .returned (.bool (okE e)) ∧ Below w.heap.size w w' := by
  go_enter Tryz.func80, Tryz.ntmps80
  try simp only [List.append_eq, List.cons_append, List.nil_append]
  go_wp2_with (go_at_call 55; refine (l1In_any _ _ _ _).mono ?_; rintro r w' ⟨rfl, rfl⟩)
  all_goals go_ret
  all_goals refine ⟨ret_bool' ?_, (Below.refl _ w).alloc (Nat.le_refl _) _⟩
  all_goals (unfold okE; unfold ok3 sdE; simp_all)
set_option maxHeartbeats 4000000 in
theorem eok_5 (e : Ev) (w : World) (hk : e.kd = 5) :
    Calls Tryz.prog 80 #[(.agg #[.int .i64 e.kd, .int .i64 e.sr, .int .i64 e.pi, .int .i64 e.si, .int .i64 e.nn, .int .i64 e.zo, .bool e.be])] w fun r w' => r = .returned (.bool (okE e)) ∧ Below w.heap.size w w' := by
  go_enter Tryz.func80, Tryz.ntmps80
  try simp only [List.append_eq, List.cons_append, List.nil_append]
  go_wp2_with (go_at_call 55; refine (l1In_any _ _ _ _).mono ?_; rintro r w' ⟨rfl, rfl⟩)
  all_goals go_ret
  all_goals refine ⟨ret_bool' ?_, (Below.refl _ w).alloc (Nat.le_refl _) _⟩
  all_goals (unfold okE; unfold ok5 pcE; simp_all)
set_option maxHeartbeats 4000000 in
theorem eok_6 (e : Ev) (w : World) (hk : e.kd = 6) :
    Calls Tryz.prog 80 #[(.agg #[.int .i64 e.kd, .int .i64 e.sr, .int .i64 e.pi, .int .i64 e.si, .int .i64 e.nn, .int .i64 e.zo, .bool e.be])] w fun r w' => r = .returned (.bool (okE e)) ∧ Below w.heap.size w w' := by
  go_enter Tryz.func80, Tryz.ntmps80
  try simp only [List.append_eq, List.cons_append, List.nil_append]
  go_wp2_with (go_at_call 55; refine (l1In_any _ _ _ _).mono ?_; rintro r w' ⟨rfl, rfl⟩)
  all_goals go_ret
  all_goals refine ⟨ret_bool' ?_, (Below.refl _ w).alloc (Nat.le_refl _) _⟩
  all_goals (unfold okE; unfold ok5 pcE; simp_all)
set_option maxHeartbeats 4000000 in
theorem eok_0 (e : Ev) (w : World) (h1 : ¬ e.kd = 1) (h2 : ¬ e.kd = 2) (h3 : ¬ e.kd = 3) (h4 : ¬ e.kd = 4) (h5 : ¬ e.kd = 5) (h6 : ¬ e.kd = 6) :
    Calls Tryz.prog 80 #[(.agg #[.int .i64 e.kd, .int .i64 e.sr, .int .i64 e.pi, .int .i64 e.si, .int .i64 e.nn, .int .i64 e.zo, .bool e.be])] w fun r w' => r = .returned (.bool (okE e)) ∧ Below w.heap.size w w' := by
  go_enter Tryz.func80, Tryz.ntmps80
  try simp only [List.append_eq, List.cons_append, List.nil_append]
  go_wp2_with (go_at_call 55; refine (l1In_any _ _ _ _).mono ?_; rintro r w' ⟨rfl, rfl⟩)
  all_goals go_ret
  all_goals refine ⟨ret_bool' ?_, (Below.refl _ w).alloc (Nat.le_refl _) _⟩
  all_goals (unfold okE; skip; simp_all)
theorem specEventOk_any (e : Ev) (w : World) :
    Calls Tryz.prog 80 #[(.agg #[.int .i64 e.kd, .int .i64 e.sr, .int .i64 e.pi, .int .i64 e.si, .int .i64 e.nn, .int .i64 e.zo, .bool e.be])] w fun r w' => r = .returned (.bool (okE e)) ∧ Below w.heap.size w w' := by
  by_cases h1 : e.kd = 1
  · exact eok_1 e w h1
  by_cases h2 : e.kd = 2
  · exact eok_2 e w h2
  by_cases h3 : e.kd = 3
  · exact eok_3 e w h3
  by_cases h4 : e.kd = 4
  · exact eok_4 e w h4
  by_cases h5 : e.kd = 5
  · exact eok_5 e w h5
  by_cases h6 : e.kd = 6
  · exact eok_6 e w h6
  exact eok_0 e w h1 h2 h3 h4 h5 h6
end Go.Proofs.YtodfdfncdoliiauGreat
namespace Go.Proofs.YtodfdfncdoliiauGreat
open Go.ChangeShapes Go.WideShapes Go.ChangeAt Go.RowKit
set_option maxRecDepth 100000
set_option linter.unusedVariables false
set_option linter.unusedSimpArgs false

/-- whether a part is right: as it stands, or with another amount -/
def ptE (e : Ev) : Bool := okE (bif decide (e.nn = -1) && !decide (e.kd = 2) then { e with nn := 0 } else e)
/-- whether an act names nothing but its kind, and perhaps an amount -/
def plA (a : Ac) : Bool := decide (a.pi = 0) && decide (a.si = -1) && decide (a.zo = 0) && !a.be && decide (a.ln = 0)
def fiA (a : Ac) (k : Int) : Bool := ib k 1 6 && (bif decide (a.kd = 2) || decide (a.kd = 6) then decide (k = 1) else bif decide (a.kd = 3) || decide (a.kd = 4) || decide (a.kd = 5) then !decide (k = 2) else bif decide (a.kd = 7) || decide (a.kd = 8) then decide (k = 2) else decide (a.kd = 1) || decide (a.kd = 9))
def amA (a : Ac) (n : Int) : Int := if a.kd = 1 then 0 else if a.kd = 3 then pl (up n 2147483647) a.nn else if a.kd = 4 then tw (up n 2147483647) else if a.kd = 5 then hf (up n 2147483647) else up n 2147483647
set_option maxHeartbeats 2000000 in
theorem l9Plain_any (a : Ac) (w : World) (hn : a.ln ≤ 1048577) : Calls Tryz.prog 72 #[(.agg #[.int .i64 a.kd, .int .i64 a.nn, .int .i64 a.pi, .int .i64 a.si, .int .i64 a.zo, .bool a.be, .slice a.la a.ln a.lcap])] w fun e w' => e = .returned (.bool (plA a)) ∧ Below w.heap.size w w' := by
  have HB := (Below.refl _ w).alloc (Nat.le_refl _) (.cells #[.int .i64 a.kd, .int .i64 a.nn, .int .i64 a.pi, .int .i64 a.si, .int .i64 a.zo, .bool a.be, .slice a.la a.ln a.lcap] 42)
  have bx := boxR_new w 42 #[.int .i64 a.kd, .int .i64 a.nn, .int .i64 a.pi, .int .i64 a.si, .int .i64 a.zo, .bool a.be, .slice a.la a.ln a.lcap]
  generalize hW : w.alloc (.cells #[.int .i64 a.kd, .int .i64 a.nn, .int .i64 a.pi, .int .i64 a.si, .int .i64 a.zo, .bool a.be, .slice a.la a.ln a.lcap] 42) = W at HB bx
  have c0 := bx.cell 0
  have c1 := bx.cell 1
  have c2 := bx.cell 2
  have c3 := bx.cell 3
  have c4 := bx.cell 4
  have c5 := bx.cell 5
  have c6 := bx.cell 6
  simp at c0 c1 c2 c3 c4 c5 c6
  go_enter Tryz.func72, Tryz.ntmps72
  go_wp2
  all_goals go_ret
  all_goals exact ⟨ret_bool' (by unfold plA; first | (simp_all; done) | (simp_all; omega) | (rw [Bool.eq_iff_iff]; simp_all)), HB⟩
set_option maxHeartbeats 2000000 in
theorem specActFits_any (a : Ac) (k : Int) (w : World) : Calls Tryz.prog 59 #[(.agg #[.int .i64 a.kd, .int .i64 a.nn, .int .i64 a.pi, .int .i64 a.si, .int .i64 a.zo, .bool a.be, .slice a.la a.ln a.lcap]), .int .i64 k] w fun e w' => e = .returned (.bool (fiA a k)) ∧ Below w.heap.size w w' := by
  have HB := (Below.refl _ w).alloc (Nat.le_refl _) (.cells #[.int .i64 a.kd, .int .i64 a.nn, .int .i64 a.pi, .int .i64 a.si, .int .i64 a.zo, .bool a.be, .slice a.la a.ln a.lcap] 42)
  have bx := boxR_new w 42 #[.int .i64 a.kd, .int .i64 a.nn, .int .i64 a.pi, .int .i64 a.si, .int .i64 a.zo, .bool a.be, .slice a.la a.ln a.lcap]
  generalize hW : w.alloc (.cells #[.int .i64 a.kd, .int .i64 a.nn, .int .i64 a.pi, .int .i64 a.si, .int .i64 a.zo, .bool a.be, .slice a.la a.ln a.lcap] 42) = W at HB bx
  have c0 := bx.cell 0
  have c1 := bx.cell 1
  have c2 := bx.cell 2
  have c3 := bx.cell 3
  have c4 := bx.cell 4
  have c5 := bx.cell 5
  have c6 := bx.cell 6
  simp at c0 c1 c2 c3 c4 c5 c6
  go_enter Tryz.func59, Tryz.ntmps59
  go_wp2_with (go_at_call 55; refine (l1In_any _ _ _ _).mono ?_; rintro e w' ⟨rfl, rfl⟩)
  all_goals go_ret
  all_goals exact ⟨ret_bool' (by unfold fiA; first | (simp_all; done) | (rw [Bool.eq_iff_iff]; simp_all)), HB⟩
set_option maxHeartbeats 2000000 in
theorem l9Part_any (e : Ev) (w : World) : Calls Tryz.prog 73 #[(.agg #[.int .i64 e.kd, .int .i64 e.sr, .int .i64 e.pi, .int .i64 e.si, .int .i64 e.nn, .int .i64 e.zo, .bool e.be])] w fun r w' => r = .returned (.bool (ptE e)) ∧ Below w.heap.size w w' := by
  have HB := (Below.refl _ w).alloc (Nat.le_refl _) (.cells #[.int .i64 e.kd, .int .i64 e.sr, .int .i64 e.pi, .int .i64 e.si, .int .i64 e.nn, .int .i64 e.zo, .bool e.be] 102)
  have bx := boxR_new w 102 #[.int .i64 e.kd, .int .i64 e.sr, .int .i64 e.pi, .int .i64 e.si, .int .i64 e.nn, .int .i64 e.zo, .bool e.be]
  generalize hW : w.alloc (.cells #[.int .i64 e.kd, .int .i64 e.sr, .int .i64 e.pi, .int .i64 e.si, .int .i64 e.nn, .int .i64 e.zo, .bool e.be] 102) = W at HB bx
  have c0 := bx.cell 0
  have c1 := bx.cell 1
  have c2 := bx.cell 2
  have c3 := bx.cell 3
  have c4 := bx.cell 4
  have c5 := bx.cell 5
  have c6 := bx.cell 6
  simp at c0 c1 c2 c3 c4 c5 c6
  have f4 := bx.froz 4
  have by_ := bx.put 4 (.int .i64 0)
  have hb4 := HB.setCell (p := ⟨w.heap.size, 4, none⟩) (Nat.le_refl _) (.int .i64 0)
  generalize hV : W.setCell ⟨w.heap.size, 4, none⟩ (.int .i64 0) = V at by_ hb4
  have d0 := by_.cell 0
  have d1 := by_.cell 1
  have d2 := by_.cell 2
  have d3 := by_.cell 3
  have d4 := by_.cell 4
  have d5 := by_.cell 5
  have d6 := by_.cell 6
  simp at d0 d1 d2 d3 d4 d5 d6
  cases q1 : (e.nn == -1)
  case false =>
    have HP : Hid (ptE e = okE e) := by
      show ptE e = okE e
      unfold ptE
      simp_all
    clear hV d0 d1 d2 d3 d4 d5 d6 by_ hb4
    go_enter Tryz.func73, Tryz.ntmps73
    go_wp2_with fail
    refine (specEventOk_any e _).mono ?_
    rintro r w1 ⟨rfl, hb1⟩
    go_wp2
    go_ret
    exact ⟨ret_bool' HP.out.symm, below_app HB hb1 HB.size⟩
  case true =>
    cases q2 : (e.kd == 2)
    case true =>
      have q3 : (e.kd != 2) = false := by rw [bne, q2]; rfl
      have HP : Hid (ptE e = okE e) := by
        show ptE e = okE e
        unfold ptE
        simp_all
      clear hV d0 d1 d2 d3 d4 d5 d6 by_ hb4
      go_enter Tryz.func73, Tryz.ntmps73
      go_wp2_with fail
      refine (specEventOk_any e _).mono ?_
      rintro r w1 ⟨rfl, hb1⟩
      go_wp2
      go_ret
      exact ⟨ret_bool' HP.out.symm, below_app HB hb1 HB.size⟩
    case false =>
      have q3 : (e.kd != 2) = true := by rw [bne, q2]; rfl
      have HP : Hid (ptE e = okE { e with nn := 0 }) := by
        show ptE e = okE _
        unfold ptE
        simp_all
      go_enter Tryz.func73, Tryz.ntmps73
      go_wp2_with fail
      refine (specEventOk_any { e with nn := 0 } _).mono ?_
      rintro r w1 ⟨rfl, hb1⟩
      go_wp2
      go_ret
      exact ⟨ret_bool' HP.out.symm, below_app hb4 hb1 hb4.size⟩
end Go.Proofs.YtodfdfncdoliiauGreat
