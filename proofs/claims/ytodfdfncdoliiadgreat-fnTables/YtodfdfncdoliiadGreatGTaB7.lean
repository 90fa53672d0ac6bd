/-
  Chapter 11: rows of effects: how a law takes one over (toEffectS), measures it (szEffectS). Written by tools/tab.gen.py. Chapter 11: rows of effects: how a law compares two (eqEffectS). Written by tools/tab.gen.py. Chapter 6: the specification's EventOk (okE). Written by tools/ev.gen.py. Chapter 6: the specification's EventOk, going on. Written by tools/ev.gen.py. Chapter 6: the specification's EventOk, going on. Written by tools/ev.gen.py. Chapter 6: the specification's EventOk, going on. Written by tools/ev.gen.py. Chapter 9: the specification's l9Part, l9Plain, ActFits (fiA), Amount (amA). Written by tools/ac.gen.py. Own work.
-/
import Derived.Test.YtodfdfncdoliiadGreatGEfC3
import Derived.Deep.RegionHeld
import Derived.Deep.MidRow
import Derived.Test.YtodfdfncdoliiadGreatGEvA3
import Derived.Test.YtodfdfncdoliiadGreatGAcR2
namespace Go.Proofs.YtodfdfncdoliiadGreat
open Go.ChangeShapes Go.WideShapes Go.ChangeAt Go.RowKit
set_option maxRecDepth 100000
set_option linter.unusedVariables false
set_option linter.unusedSimpArgs false

theorem OwnF.down {w : World} {B B' : Nat} {t : Ef} (h : OwnF w B t) (hB : B' ≤ B) : OwnF w B' t := ⟨h.1, h.2.1, Nat.le_trans hB h.2.2.1, h.2.2.2⟩
theorem OwnF.lt {w : World} {B : Nat} {t : Ef} (h : OwnF w B t) : B ≤ t.ac.lb ∧ t.ac.lb < w.heap.size := ⟨h.2.2.1, h.2.2.2.1⟩
theorem RdE.rangeD {w : World} {b o n : Nat} {f : Nat → Ef} (h : ∀ i, i < n → ∀ j v, (efC (f i))[j]? = some v → w.cell? ⟨b, o + i * 22 + j, none⟩ = some v) {i : Nat} (hi : i < n) : w.rangeAt b (o + i * 22) (efC (f i)) := fun j v hv => h i hi j v hv
/-- one more is laid into a row of the call's own -/
def LaidF (w : World) (B r k : Nat) (g f : Nat → Ef) : Prop := (∀ i, i < k → OwnF w B (g i) ∧ (g i).ac.lb ≠ r ∧ AlikeF (g i) (f i)) ∧ ∀ i j, i < j → j < k → (g i).ac.lb ≠ (g j).ac.lb
theorem LaidF.next {w w' : World} {B r k : Nat} {g f : Nat → Ef} {y : Ef} (h : LaidF w B r k g f) (hB : B ≤ w.heap.size) (hr : r < w.heap.size) (hb : Below w.heap.size w w') (oy : OwnF w' w.heap.size y) (ky : AlikeF y (f k)) (o : Nat) (L : List Value) :
    LaidF (w'.setCells r o L) B r (k + 1) (fun i => if i = k then y else g i) f := by
  have hy := oy.lt
  refine ⟨fun i hi => ?_, fun i j hij hj => ?_⟩
  · by_cases hk : i = k
    · subst hk
      simp only [if_true]
      exact ⟨OwnF.down (OwnA.setL oy (by omega) o L) hB, by omega, ky⟩
    · simp only [if_neg hk]
      obtain ⟨h1, h2, h3⟩ := h.1 i (by omega)
      exact ⟨OwnA.setL (OwnF.grew h1 hb) h2 o L, h2, h3⟩
  · have hi : i ≠ k := by omega
    simp only [if_neg hi]
    by_cases hk : j = k
    · subst hk
      simp only [if_true]
      have := (h.1 i (by omega)).1.lt
      omega
    · simp only [if_neg hk]
      exact h.2 i j hij (by omega)
theorem tilE_put {α : Type} (k : Nat) (y : α) (g z : Nat → α) : (fun i => if i = k then y else tilE k g z i) = tilE (k + 1) (fun i => if i = k then y else g i) z := by
  funext i
  unfold tilE
  by_cases h : i = k
  · subst h; simp
  · simp only [if_neg h]
    by_cases h2 : i < k
    · rw [if_pos h2, if_pos (by omega)]
    · rw [if_neg h2, if_neg (by omega)]
end Go.Proofs.YtodfdfncdoliiadGreat
namespace Go.Proofs.YtodfdfncdoliiadGreat
open Go.ChangeShapes Go.WideShapes Go.ChangeAt Go.RowKit
set_option maxRecDepth 100000
set_option linter.unusedVariables false
set_option linter.unusedSimpArgs false

theorem rangeAt_below {w w' : World} {b o : Nat} {cs : List Value} (h : w.rangeAt b o cs) (hb : Below w.heap.size w w') : w'.rangeAt b o cs := fun j v hv =>
  (World.cell?_of_block (w := w) (a := ⟨b, o + j, none⟩) (hb.block b (World.block_lt_of_cell? w _ (h j v hv)))).trans (h j v hv)
theorem cell_below {w w' : World} {a : Addr} {v : Value} (h : w.cell? a = some v) (hb : Below w.heap.size w w') : w'.cell? a = some v := (World.cell?_of_block (w := w) (a := a) (hb.block a.block (World.block_lt_of_cell? w _ h))).trans h
end Go.Proofs.YtodfdfncdoliiadGreat
namespace Go.Proofs.YtodfdfncdoliiadGreat
open Go.ChangeShapes Go.WideShapes Go.ChangeAt Go.RowKit
set_option maxRecDepth 100000
set_option linter.unusedVariables false
set_option linter.unusedSimpArgs false

/-- of a piece; of a side -/
def pcE (e : Ev) : Bool := ib e.pi 1 99 && decide (e.si = -1)
def sdE (e : Ev) : Bool := decide (e.pi = 0) && ib e.si 0 2
def ok1 (e : Ev) : Bool := ib e.sr 1 99 && (pcE e || sdE e) && decide (e.zo = 0) && !e.be
def ok2 (e : Ev) : Bool := decide (e.sr = 0) && pcE e && ib e.zo 1 4 && decide (e.nn ≤ 99) && (decide (e.zo = 2) || decide (e.nn = 0) && !e.be)
def ok3 (e : Ev) : Bool := decide (e.sr = 0) && sdE e && decide (e.zo = 0) && !e.be
def ok5 (e : Ev) : Bool := decide (e.sr = 0) && pcE e && decide (e.zo = 0) && !e.be
/-- whether it may be -/
def okE (e : Ev) : Bool := ib e.nn 0 2147483647 && (if e.kd = 1 then ok1 e else if e.kd = 2 then ok2 e else if e.kd = 3 ∨ e.kd = 4 then ok3 e else if e.kd = 5 ∨ e.kd = 6 then ok5 e else false)
end Go.Proofs.YtodfdfncdoliiadGreat
namespace Go.Proofs.YtodfdfncdoliiadGreat
open Go.ChangeShapes Go.WideShapes Go.ChangeAt Go.RowKit
set_option maxRecDepth 100000
set_option linter.unusedVariables false
set_option linter.unusedSimpArgs false

set_option maxHeartbeats 4000000 in
theorem eok_1 (e : Ev) (w : World) (hk : e.kd = 1) :
    Calls Tryz.prog 114 #[(.agg #[.int .i64 e.kd, .int .i64 e.sr, .int .i64 e.pi, .int .i64 e.si, .int .i64 e.nn, .int .i64 e.zo, .bool e.be])] w fun r w' => r = .returned (.bool (okE e)) ∧ Below w.heap.size w w' := by
  go_enter Tryz.func114, Tryz.ntmps114
  try simp only [List.append_eq, List.cons_append, List.nil_append]
  go_wp2_with (go_at_call 63; refine (l1In_any _ _ _ _).mono ?_; rintro r w' ⟨rfl, rfl⟩)
  all_goals go_ret
  all_goals refine ⟨ret_bool' ?_, (Below.refl _ w).alloc (Nat.le_refl _) _⟩
  all_goals (unfold okE; unfold ok1 pcE sdE; simp_all)
end Go.Proofs.YtodfdfncdoliiadGreat
namespace Go.Proofs.YtodfdfncdoliiadGreat
open Go.ChangeShapes Go.WideShapes Go.ChangeAt Go.RowKit
set_option maxRecDepth 100000
set_option linter.unusedVariables false
set_option linter.unusedSimpArgs false

set_option maxHeartbeats 4000000 in
theorem eok_2 (e : Ev) (w : World) (hk : e.kd = 2) :
    Calls Tryz.prog 114 #[(.agg #[.int .i64 e.kd, .int .i64 e.sr, .int .i64 e.pi, .int .i64 e.si, .int .i64 e.nn, .int .i64 e.zo, .bool e.be])] w fun r w' => r = .returned (.bool (okE e)) ∧ Below w.heap.size w w' := by
  go_enter Tryz.func114, Tryz.ntmps114
  try simp only [List.append_eq, List.cons_append, List.nil_append]
  go_wp2_with (go_at_call 63; refine (l1In_any _ _ _ _).mono ?_; rintro r w' ⟨rfl, rfl⟩)
  all_goals go_ret
  all_goals refine ⟨ret_bool' ?_, (Below.refl _ w).alloc (Nat.le_refl _) _⟩
  all_goals (unfold okE; unfold ok2 pcE; simp_all <;> (intro; omega))
end Go.Proofs.YtodfdfncdoliiadGreat
namespace Go.Proofs.YtodfdfncdoliiadGreat
open Go.ChangeShapes Go.WideShapes Go.ChangeAt Go.RowKit
set_option maxRecDepth 100000
set_option linter.unusedVariables false
set_option linter.unusedSimpArgs false

set_option maxHeartbeats 4000000 in
theorem eok_3 (e : Ev) (w : World) (hk : e.kd = 3) :
    Calls Tryz.prog 114 #[(.agg #[.int .i64 e.kd, .int .i64 e.sr, .int .i64 e.pi, .int .i64 e.si, .int .i64 e.nn, .int .i64 e.zo, .bool e.be])] w fun r w' => r = .returned (.bool (okE e)) ∧ Below w.heap.size w w' := by
  go_enter Tryz.func114, Tryz.ntmps114
  try simp only [List.append_eq, List.cons_append, List.nil_append]
  go_wp2_with (go_at_call 63; refine (l1In_any _ _ _ _).mono ?_; rintro r w' ⟨rfl, rfl⟩)
  all_goals go_ret
  all_goals refine ⟨ret_bool' ?_, (Below.refl _ w).alloc (Nat.le_refl _) _⟩
  all_goals (unfold okE; unfold ok3 sdE; simp_all)
set_option maxHeartbeats 4000000 in
theorem eok_4 (e : Ev) (w : World) (hk : e.kd = 4) :
    Calls Tryz.prog 114 #[(.agg #[.int .i64 e.kd, .int .i64 e.sr, .int .i64 e.pi, .int .i64 e.si, .int .i64 e.nn, .int .i64 e.zo, .bool e.be])] w fun r w' => r = .returned (.bool (okE e)) ∧ Below w.heap.size w w' := by
  go_enter Tryz.func114, Tryz.ntmps114
  try simp only [List.append_eq, List.cons_append, List.nil_append]
  go_wp2_with (go_at_call 63; refine (l1In_any _ _ _ _).mono ?_; rintro r w' ⟨rfl, rfl⟩)
  all_goals go_ret
  all_goals refine ⟨ret_bool' ?_, (Below.refl _ w).alloc (Nat.le_refl _) _⟩
  all_goals (unfold okE; unfold ok3 sdE; simp_all)
set_option maxHeartbeats 4000000 in
theorem eok_5 (e : Ev) (w : World) (hk : e.kd = 5) :
    Calls Tryz.prog 114 #[(.agg #[.int .i64 e.kd, .int .i64 e.sr, .int .i64 e.pi, .int .i64 e.si, .int .i64 e.nn, .int .i64 e.zo, .bool e.be])] w fun r w' => r = .returned (.bool (okE e)) ∧ Below w.heap.size w w' := by
  go_enter Tryz.func114, Tryz.ntmps114
  try simp only [List.append_eq, List.cons_append, List.nil_append]
  go_wp2_with (go_at_call 63; refine (l1In_any _ _ _ _).mono ?_; rintro r w' ⟨rfl, rfl⟩)
  all_goals go_ret
  all_goals refine ⟨ret_bool' ?_, (Below.refl _ w).alloc (Nat.le_refl _) _⟩
  all_goals (unfold okE; unfold ok5 pcE; simp_all)
set_option maxHeartbeats 4000000 in
theorem eok_6 (e : Ev) (w : World) (hk : e.kd = 6) :
    Calls Tryz.prog 114 #[(.agg #[.int .i64 e.kd, .int .i64 e.sr, .int .i64 e.pi, .int .i64 e.si, .int .i64 e.nn, .int .i64 e.zo, .bool e.be])] w fun r w' => r = .returned (.bool (okE e)) ∧ Below w.heap.size w w' := by
  go_enter Tryz.func114, Tryz.ntmps114
  try simp only [List.append_eq, List.cons_append, List.nil_append]
  go_wp2_with (go_at_call 63; refine (l1In_any _ _ _ _).mono ?_; rintro r w' ⟨rfl, rfl⟩)
  all_goals go_ret
  all_goals refine ⟨ret_bool' ?_, (Below.refl _ w).alloc (Nat.le_refl _) _⟩
  all_goals (unfold okE; unfold ok5 pcE; simp_all)
set_option maxHeartbeats 4000000 in
theorem eok_0 (e : Ev) (w : World) (h1 : ¬ e.kd = 1) (h2 : ¬ e.kd = 2) (h3 : ¬ e.kd = 3) (h4 : ¬ e.kd = 4) (h5 : ¬ e.kd = 5) (h6 : ¬ e.kd = 6) :
    Calls Tryz.prog 114 #[(.agg #[.int .i64 e.kd, .int .i64 e.sr, .int .i64 e.pi, .int .i64 e.si, .int .i64 e.nn, .int .i64 e.zo, .bool e.be])] w fun r w' => r = .returned (.bool (okE e)) ∧ Below w.heap.size w w' := by
  go_enter Tryz.func114, Tryz.ntmps114
  try simp only [List.append_eq, List.cons_append, List.nil_append]
  go_wp2_with (go_at_call 63; refine (l1In_any _ _ _ _).mono ?_; rintro r w' ⟨rfl, rfl⟩)
  all_goals go_ret
  all_goals refine ⟨ret_bool' ?_, (Below.refl _ w).alloc (Nat.le_refl _) _⟩
  all_goals (unfold okE; skip; simp_all)
theorem specEventOk_any (e : Ev) (w : World) :
    Calls Tryz.prog 114 #[(.agg #[.int .i64 e.kd, .int .i64 e.sr, .int .i64 e.pi, .int .i64 e.si, .int .i64 e.nn, .int .i64 e.zo, .bool e.be])] w fun r w' => r = .returned (.bool (okE e)) ∧ Below w.heap.size w w' := by
  by_cases h1 : e.kd = 1
  · exact eok_1 e w h1
  by_cases h2 : e.kd = 2
  · exact eok_2 e w h2
  by_cases h3 : e.kd = 3
  · exact eok_3 e w h3
  by_cases h4 : e.kd = 4
  · exact eok_4 e w h4
  by_cases h5 : e.kd = 5
  · exact eok_5 e w h5
  by_cases h6 : e.kd = 6
  · exact eok_6 e w h6
  exact eok_0 e w h1 h2 h3 h4 h5 h6
end Go.Proofs.YtodfdfncdoliiadGreat
namespace Go.Proofs.YtodfdfncdoliiadGreat
open Go.ChangeShapes Go.WideShapes Go.ChangeAt Go.RowKit
set_option maxRecDepth 100000
set_option linter.unusedVariables false
set_option linter.unusedSimpArgs false

/-- whether a part is right: as it stands, or with another amount -/
def ptE (e : Ev) : Bool := okE (bif decide (e.nn = -1) && !decide (e.kd = 2) then { e with nn := 0 } else e)
/-- whether an act names nothing but its kind, and perhaps an amount -/
def plA (a : Ac) : Bool := decide (a.pi = 0) && decide (a.si = -1) && decide (a.zo = 0) && !a.be && decide (a.ln = 0)
def fiA (a : Ac) (k : Int) : Bool := ib k 1 6 && (bif decide (a.kd = 2) || decide (a.kd = 6) then decide (k = 1) else bif decide (a.kd = 3) || decide (a.kd = 4) || decide (a.kd = 5) then !decide (k = 2) else bif decide (a.kd = 7) || decide (a.kd = 8) then decide (k = 2) else decide (a.kd = 1) || decide (a.kd = 9))
def amA (a : Ac) (n : Int) : Int := if a.kd = 1 then 0 else if a.kd = 3 then pl (up n 2147483647) a.nn else if a.kd = 4 then tw (up n 2147483647) else if a.kd = 5 then hf (up n 2147483647) else up n 2147483647
set_option maxHeartbeats 2000000 in
theorem l9Plain_any (a : Ac) (w : World) (hn : a.ln ≤ 1048577) : Calls Tryz.prog 110 #[(.agg #[.int .i64 a.kd, .int .i64 a.nn, .int .i64 a.pi, .int .i64 a.si, .int .i64 a.zo, .bool a.be, .slice a.la a.ln a.lcap])] w fun e w' => e = .returned (.bool (plA a)) ∧ Below w.heap.size w w' := by
  have HB := (Below.refl _ w).alloc (Nat.le_refl _) (.cells #[.int .i64 a.kd, .int .i64 a.nn, .int .i64 a.pi, .int .i64 a.si, .int .i64 a.zo, .bool a.be, .slice a.la a.ln a.lcap] 30)
  have bx := boxR_new w 30 #[.int .i64 a.kd, .int .i64 a.nn, .int .i64 a.pi, .int .i64 a.si, .int .i64 a.zo, .bool a.be, .slice a.la a.ln a.lcap]
  generalize hW : w.alloc (.cells #[.int .i64 a.kd, .int .i64 a.nn, .int .i64 a.pi, .int .i64 a.si, .int .i64 a.zo, .bool a.be, .slice a.la a.ln a.lcap] 30) = W at HB bx
  have c0 := bx.cell 0
  have c1 := bx.cell 1
  have c2 := bx.cell 2
  have c3 := bx.cell 3
  have c4 := bx.cell 4
  have c5 := bx.cell 5
  have c6 := bx.cell 6
  simp at c0 c1 c2 c3 c4 c5 c6
  go_enter Tryz.func110, Tryz.ntmps110
  go_wp2
  all_goals go_ret
  all_goals exact ⟨ret_bool' (by unfold plA; first | (simp_all; done) | (simp_all; omega) | (rw [Bool.eq_iff_iff]; simp_all)), HB⟩
set_option maxHeartbeats 2000000 in
theorem specActFits_any (a : Ac) (k : Int) (w : World) : Calls Tryz.prog 67 #[(.agg #[.int .i64 a.kd, .int .i64 a.nn, .int .i64 a.pi, .int .i64 a.si, .int .i64 a.zo, .bool a.be, .slice a.la a.ln a.lcap]), .int .i64 k] w fun e w' => e = .returned (.bool (fiA a k)) ∧ Below w.heap.size w w' := by
  have HB := (Below.refl _ w).alloc (Nat.le_refl _) (.cells #[.int .i64 a.kd, .int .i64 a.nn, .int .i64 a.pi, .int .i64 a.si, .int .i64 a.zo, .bool a.be, .slice a.la a.ln a.lcap] 30)
  have bx := boxR_new w 30 #[.int .i64 a.kd, .int .i64 a.nn, .int .i64 a.pi, .int .i64 a.si, .int .i64 a.zo, .bool a.be, .slice a.la a.ln a.lcap]
  generalize hW : w.alloc (.cells #[.int .i64 a.kd, .int .i64 a.nn, .int .i64 a.pi, .int .i64 a.si, .int .i64 a.zo, .bool a.be, .slice a.la a.ln a.lcap] 30) = W at HB bx
  have c0 := bx.cell 0
  have c1 := bx.cell 1
  have c2 := bx.cell 2
  have c3 := bx.cell 3
  have c4 := bx.cell 4
  have c5 := bx.cell 5
  have c6 := bx.cell 6
  simp at c0 c1 c2 c3 c4 c5 c6
  go_enter Tryz.func67, Tryz.ntmps67
  go_wp2_with (go_at_call 63; refine (l1In_any _ _ _ _).mono ?_; rintro e w' ⟨rfl, rfl⟩)
  all_goals go_ret
  all_goals exact ⟨ret_bool' (by unfold fiA; first | (simp_all; done) | (rw [Bool.eq_iff_iff]; simp_all)), HB⟩
set_option maxHeartbeats 2000000 in
theorem l9Part_any (e : Ev) (w : World) : Calls Tryz.prog 111 #[(.agg #[.int .i64 e.kd, .int .i64 e.sr, .int .i64 e.pi, .int .i64 e.si, .int .i64 e.nn, .int .i64 e.zo, .bool e.be])] w fun r w' => r = .returned (.bool (ptE e)) ∧ Below w.heap.size w w' := by
  have HB := (Below.refl _ w).alloc (Nat.le_refl _) (.cells #[.int .i64 e.kd, .int .i64 e.sr, .int .i64 e.pi, .int .i64 e.si, .int .i64 e.nn, .int .i64 e.zo, .bool e.be] 39)
  have bx := boxR_new w 39 #[.int .i64 e.kd, .int .i64 e.sr, .int .i64 e.pi, .int .i64 e.si, .int .i64 e.nn, .int .i64 e.zo, .bool e.be]
  generalize hW : w.alloc (.cells #[.int .i64 e.kd, .int .i64 e.sr, .int .i64 e.pi, .int .i64 e.si, .int .i64 e.nn, .int .i64 e.zo, .bool e.be] 39) = W at HB bx
  have c0 := bx.cell 0
  have c1 := bx.cell 1
  have c2 := bx.cell 2
  have c3 := bx.cell 3
  have c4 := bx.cell 4
  have c5 := bx.cell 5
  have c6 := bx.cell 6
  simp at c0 c1 c2 c3 c4 c5 c6
  have f4 := bx.froz 4
  have by_ := bx.put 4 (.int .i64 0)
  have hb4 := HB.setCell (p := ⟨w.heap.size, 4, none⟩) (Nat.le_refl _) (.int .i64 0)
  generalize hV : W.setCell ⟨w.heap.size, 4, none⟩ (.int .i64 0) = V at by_ hb4
  have d0 := by_.cell 0
  have d1 := by_.cell 1
  have d2 := by_.cell 2
  have d3 := by_.cell 3
  have d4 := by_.cell 4
  have d5 := by_.cell 5
  have d6 := by_.cell 6
  simp at d0 d1 d2 d3 d4 d5 d6
  cases q1 : (e.nn == -1)
  case false =>
    have HP : Hid (ptE e = okE e) := by
      show ptE e = okE e
      unfold ptE
      simp_all
    clear hV d0 d1 d2 d3 d4 d5 d6 by_ hb4
    go_enter Tryz.func111, Tryz.ntmps111
    go_wp2_with fail
    refine (specEventOk_any e _).mono ?_
    rintro r w1 ⟨rfl, hb1⟩
    go_wp2
    go_ret
    exact ⟨ret_bool' HP.out.symm, below_app HB hb1 HB.size⟩
  case true =>
    cases q2 : (e.kd == 2)
    case true =>
      have q3 : (e.kd != 2) = false := by rw [bne, q2]; rfl
      have HP : Hid (ptE e = okE e) := by
        show ptE e = okE e
        unfold ptE
        simp_all
      clear hV d0 d1 d2 d3 d4 d5 d6 by_ hb4
      go_enter Tryz.func111, Tryz.ntmps111
      go_wp2_with fail
      refine (specEventOk_any e _).mono ?_
      rintro r w1 ⟨rfl, hb1⟩
      go_wp2
      go_ret
      exact ⟨ret_bool' HP.out.symm, below_app HB hb1 HB.size⟩
    case false =>
      have q3 : (e.kd != 2) = true := by rw [bne, q2]; rfl
      have HP : Hid (ptE e = okE { e with nn := 0 }) := by
        show ptE e = okE _
        unfold ptE
        simp_all
      go_enter Tryz.func111, Tryz.ntmps111
      go_wp2_with fail
      refine (specEventOk_any { e with nn := 0 } _).mono ?_
      rintro r w1 ⟨rfl, hb1⟩
      go_wp2
      go_ret
      exact ⟨ret_bool' HP.out.symm, below_app hb4 hb1 hb4.size⟩
end Go.Proofs.YtodfdfncdoliiadGreat
