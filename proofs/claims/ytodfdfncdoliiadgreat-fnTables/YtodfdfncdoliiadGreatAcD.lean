/-
  Chapter 9: the specification's ActOk (okAc). Written by tools/ac.gen.py. Own work.
-/
import Derived.Test.YtodfdfncdoliiadGreatGTaB7
namespace Go.Proofs.YtodfdfncdoliiadGreat
open Go.ChangeShapes Go.WideShapes Go.ChangeAt Go.RowKit
set_option maxRecDepth 100000
set_option linter.unusedVariables false
set_option linter.unusedSimpArgs false

/-- whether each of the first n parts is right -/
def apL (n : Nat) (f : Nat → Ev) : Bool := (List.range n).all (fun i => ptE (f i))
theorem apL_no {n k : Nat} {f : Nat → Ev} (hk : k < n) (h : ptE (f k) = false) : apL n f = false := by unfold apL; rw [List.all_eq_false]; exact ⟨k, List.mem_range.2 hk, by simp [h]⟩
theorem apL_yes {n : Nat} {f : Nat → Ev} (h : ∀ k, k < n → ptE (f k) = true) : apL n f = true := by unfold apL; rw [List.all_eq_true]; exact fun k hk => h k (List.mem_range.1 hk)
def ac6 (a : Ac) : Bool := decide (a.nn = 0) && decide (a.zo = 0) && !a.be && decide (a.ln = 0) && ((ib a.pi 1 99 && decide (a.si = -1)) || (decide (a.pi = 0) && ib a.si 0 2))
def ac7 (a : Ac) : Bool := decide (a.nn = 0) && decide (a.pi = 0) && decide (a.si = -1) && !a.be && decide (a.ln = 0) && ib a.zo 1 4
def ac8 (a : Ac) : Bool := ib a.nn 0 99 && decide (a.pi = 0) && decide (a.si = -1) && decide (a.zo = 0) && decide (a.ln = 0)
def ac9 (a : Ac) : Bool := decide (a.nn = 0) && decide (a.pi = 0) && decide (a.si = -1) && decide (a.zo = 0) && !a.be && ib a.ln 1 3
/-- whether an act may be -/
def okAc (a : Ac) : Bool :=
  if a.kd = 1 ∨ a.kd = 2 ∨ a.kd = 4 ∨ a.kd = 5 then plA a && decide (a.nn = 0)
  else if a.kd = 3 then plA a && ib a.nn 1 2147483647
  else if a.kd = 6 then ac6 a else if a.kd = 7 then ac7 a else if a.kd = 8 then ac8 a
  else if a.kd = 9 then apL a.ln a.es && ac9 a else false
set_option maxHeartbeats 2000000 in
theorem aok_1f (a : Ac) (w : World) (h : a.kd = 1) (hn : a.ln ≤ 1048577) (hp : plA a = false) : Calls Tryz.prog 66 #[(.agg #[.int .i64 1, .int .i64 a.nn, .int .i64 a.pi, .int .i64 a.si, .int .i64 a.zo, .bool a.be, .slice a.la a.ln a.lcap])] w fun e w' => e = .returned (.bool (okAc a)) ∧ Below w.heap.size w w' := by
  have HA : Hid (okAc a = false) := by show okAc a = _; unfold okAc; simp [h, hp]
  have HP : Hid (∀ w : World, Calls Tryz.prog 110 #[(.agg #[.int .i64 1, .int .i64 a.nn, .int .i64 a.pi, .int .i64 a.si, .int .i64 a.zo, .bool a.be, .slice a.la a.ln a.lcap])] w fun e w' => e = .returned (.bool false) ∧ Below w.heap.size w w') := fun w => by have := l9Plain_any { a with kd := 1 } w hn; rw [show plA { a with kd := 1 } = false from hp] at this; exact this
  have HB := (Below.refl _ w).alloc (Nat.le_refl _) (.cells #[.int .i64 1, .int .i64 a.nn, .int .i64 a.pi, .int .i64 a.si, .int .i64 a.zo, .bool a.be, .slice a.la a.ln a.lcap] 30)
  have bx := boxR_new w 30 #[.int .i64 1, .int .i64 a.nn, .int .i64 a.pi, .int .i64 a.si, .int .i64 a.zo, .bool a.be, .slice a.la a.ln a.lcap]
  generalize hW : w.alloc (.cells #[.int .i64 1, .int .i64 a.nn, .int .i64 a.pi, .int .i64 a.si, .int .i64 a.zo, .bool a.be, .slice a.la a.ln a.lcap] 30) = W at HB bx
  have c0 := bx.cell 0
  have c1 := bx.cell 1
  have c2 := bx.cell 2
  have c3 := bx.cell 3
  have c4 := bx.cell 4
  have c5 := bx.cell 5
  have c6 := bx.cell 6
  simp at c0 c1 c2 c3 c4 c5 c6
  go_enter Tryz.func66, Tryz.ntmps66
  go_wp2_with fail
  refine (HP.out _).mono ?_
  rintro e v1 ⟨rfl, hb1⟩
  have bx1 := bx.grew hb1
  have d1 := bx1.cell 1
  simp at d1
  clear hW c0 c1 c2 c3 c4 c5 c6
  go_wp2
  all_goals go_ret
  all_goals exact ⟨ret_bool' (by rw [HA.out] <;> first | rfl | (rw [Bool.eq_iff_iff]; simp)), below_app HB hb1 HB.size⟩
set_option maxHeartbeats 2000000 in
theorem aok_1t (a : Ac) (w : World) (h : a.kd = 1) (hn : a.ln ≤ 1048577) (hp : plA a = true) : Calls Tryz.prog 66 #[(.agg #[.int .i64 1, .int .i64 a.nn, .int .i64 a.pi, .int .i64 a.si, .int .i64 a.zo, .bool a.be, .slice a.la a.ln a.lcap])] w fun e w' => e = .returned (.bool (okAc a)) ∧ Below w.heap.size w w' := by
  have HA : Hid (okAc a = decide (a.nn = 0)) := by show okAc a = _; unfold okAc; simp [h, hp]
  have HP : Hid (∀ w : World, Calls Tryz.prog 110 #[(.agg #[.int .i64 1, .int .i64 a.nn, .int .i64 a.pi, .int .i64 a.si, .int .i64 a.zo, .bool a.be, .slice a.la a.ln a.lcap])] w fun e w' => e = .returned (.bool true) ∧ Below w.heap.size w w') := fun w => by have := l9Plain_any { a with kd := 1 } w hn; rw [show plA { a with kd := 1 } = true from hp] at this; exact this
  have HB := (Below.refl _ w).alloc (Nat.le_refl _) (.cells #[.int .i64 1, .int .i64 a.nn, .int .i64 a.pi, .int .i64 a.si, .int .i64 a.zo, .bool a.be, .slice a.la a.ln a.lcap] 30)
  have bx := boxR_new w 30 #[.int .i64 1, .int .i64 a.nn, .int .i64 a.pi, .int .i64 a.si, .int .i64 a.zo, .bool a.be, .slice a.la a.ln a.lcap]
  generalize hW : w.alloc (.cells #[.int .i64 1, .int .i64 a.nn, .int .i64 a.pi, .int .i64 a.si, .int .i64 a.zo, .bool a.be, .slice a.la a.ln a.lcap] 30) = W at HB bx
  have c0 := bx.cell 0
  have c1 := bx.cell 1
  have c2 := bx.cell 2
  have c3 := bx.cell 3
  have c4 := bx.cell 4
  have c5 := bx.cell 5
  have c6 := bx.cell 6
  simp at c0 c1 c2 c3 c4 c5 c6
  go_enter Tryz.func66, Tryz.ntmps66
  go_wp2_with fail
  refine (HP.out _).mono ?_
  rintro e v1 ⟨rfl, hb1⟩
  have bx1 := bx.grew hb1
  have d1 := bx1.cell 1
  simp at d1
  clear hW c0 c1 c2 c3 c4 c5 c6
  go_wp2
  all_goals go_ret
  all_goals exact ⟨ret_bool' (by rw [HA.out] <;> first | rfl | (rw [Bool.eq_iff_iff]; simp)), below_app HB hb1 HB.size⟩
set_option maxHeartbeats 2000000 in
theorem aok_2f (a : Ac) (w : World) (h : a.kd = 2) (hn : a.ln ≤ 1048577) (hp : plA a = false) : Calls Tryz.prog 66 #[(.agg #[.int .i64 2, .int .i64 a.nn, .int .i64 a.pi, .int .i64 a.si, .int .i64 a.zo, .bool a.be, .slice a.la a.ln a.lcap])] w fun e w' => e = .returned (.bool (okAc a)) ∧ Below w.heap.size w w' := by
  have HA : Hid (okAc a = false) := by show okAc a = _; unfold okAc; simp [h, hp]
  have HP : Hid (∀ w : World, Calls Tryz.prog 110 #[(.agg #[.int .i64 2, .int .i64 a.nn, .int .i64 a.pi, .int .i64 a.si, .int .i64 a.zo, .bool a.be, .slice a.la a.ln a.lcap])] w fun e w' => e = .returned (.bool false) ∧ Below w.heap.size w w') := fun w => by have := l9Plain_any { a with kd := 2 } w hn; rw [show plA { a with kd := 2 } = false from hp] at this; exact this
  have HB := (Below.refl _ w).alloc (Nat.le_refl _) (.cells #[.int .i64 2, .int .i64 a.nn, .int .i64 a.pi, .int .i64 a.si, .int .i64 a.zo, .bool a.be, .slice a.la a.ln a.lcap] 30)
  have bx := boxR_new w 30 #[.int .i64 2, .int .i64 a.nn, .int .i64 a.pi, .int .i64 a.si, .int .i64 a.zo, .bool a.be, .slice a.la a.ln a.lcap]
  generalize hW : w.alloc (.cells #[.int .i64 2, .int .i64 a.nn, .int .i64 a.pi, .int .i64 a.si, .int .i64 a.zo, .bool a.be, .slice a.la a.ln a.lcap] 30) = W at HB bx
  have c0 := bx.cell 0
  have c1 := bx.cell 1
  have c2 := bx.cell 2
  have c3 := bx.cell 3
  have c4 := bx.cell 4
  have c5 := bx.cell 5
  have c6 := bx.cell 6
  simp at c0 c1 c2 c3 c4 c5 c6
  go_enter Tryz.func66, Tryz.ntmps66
  go_wp2_with fail
  refine (HP.out _).mono ?_
  rintro e v1 ⟨rfl, hb1⟩
  have bx1 := bx.grew hb1
  have d1 := bx1.cell 1
  simp at d1
  clear hW c0 c1 c2 c3 c4 c5 c6
  go_wp2
  all_goals go_ret
  all_goals exact ⟨ret_bool' (by rw [HA.out] <;> first | rfl | (rw [Bool.eq_iff_iff]; simp)), below_app HB hb1 HB.size⟩
set_option maxHeartbeats 2000000 in
theorem aok_2t (a : Ac) (w : World) (h : a.kd = 2) (hn : a.ln ≤ 1048577) (hp : plA a = true) : Calls Tryz.prog 66 #[(.agg #[.int .i64 2, .int .i64 a.nn, .int .i64 a.pi, .int .i64 a.si, .int .i64 a.zo, .bool a.be, .slice a.la a.ln a.lcap])] w fun e w' => e = .returned (.bool (okAc a)) ∧ Below w.heap.size w w' := by
  have HA : Hid (okAc a = decide (a.nn = 0)) := by show okAc a = _; unfold okAc; simp [h, hp]
  have HP : Hid (∀ w : World, Calls Tryz.prog 110 #[(.agg #[.int .i64 2, .int .i64 a.nn, .int .i64 a.pi, .int .i64 a.si, .int .i64 a.zo, .bool a.be, .slice a.la a.ln a.lcap])] w fun e w' => e = .returned (.bool true) ∧ Below w.heap.size w w') := fun w => by have := l9Plain_any { a with kd := 2 } w hn; rw [show plA { a with kd := 2 } = true from hp] at this; exact this
  have HB := (Below.refl _ w).alloc (Nat.le_refl _) (.cells #[.int .i64 2, .int .i64 a.nn, .int .i64 a.pi, .int .i64 a.si, .int .i64 a.zo, .bool a.be, .slice a.la a.ln a.lcap] 30)
  have bx := boxR_new w 30 #[.int .i64 2, .int .i64 a.nn, .int .i64 a.pi, .int .i64 a.si, .int .i64 a.zo, .bool a.be, .slice a.la a.ln a.lcap]
  generalize hW : w.alloc (.cells #[.int .i64 2, .int .i64 a.nn, .int .i64 a.pi, .int .i64 a.si, .int .i64 a.zo, .bool a.be, .slice a.la a.ln a.lcap] 30) = W at HB bx
  have c0 := bx.cell 0
  have c1 := bx.cell 1
  have c2 := bx.cell 2
  have c3 := bx.cell 3
  have c4 := bx.cell 4
  have c5 := bx.cell 5
  have c6 := bx.cell 6
  simp at c0 c1 c2 c3 c4 c5 c6
  go_enter Tryz.func66, Tryz.ntmps66
  go_wp2_with fail
  refine (HP.out _).mono ?_
  rintro e v1 ⟨rfl, hb1⟩
  have bx1 := bx.grew hb1
  have d1 := bx1.cell 1
  simp at d1
  clear hW c0 c1 c2 c3 c4 c5 c6
  go_wp2
  all_goals go_ret
  all_goals exact ⟨ret_bool' (by rw [HA.out] <;> first | rfl | (rw [Bool.eq_iff_iff]; simp)), below_app HB hb1 HB.size⟩
set_option maxHeartbeats 2000000 in
theorem aok_3f (a : Ac) (w : World) (h : a.kd = 3) (hn : a.ln ≤ 1048577) (hp : plA a = false) : Calls Tryz.prog 66 #[(.agg #[.int .i64 3, .int .i64 a.nn, .int .i64 a.pi, .int .i64 a.si, .int .i64 a.zo, .bool a.be, .slice a.la a.ln a.lcap])] w fun e w' => e = .returned (.bool (okAc a)) ∧ Below w.heap.size w w' := by
  have HA : Hid (okAc a = false) := by show okAc a = _; unfold okAc; simp [h, hp]
  have HP : Hid (∀ w : World, Calls Tryz.prog 110 #[(.agg #[.int .i64 3, .int .i64 a.nn, .int .i64 a.pi, .int .i64 a.si, .int .i64 a.zo, .bool a.be, .slice a.la a.ln a.lcap])] w fun e w' => e = .returned (.bool false) ∧ Below w.heap.size w w') := fun w => by have := l9Plain_any { a with kd := 3 } w hn; rw [show plA { a with kd := 3 } = false from hp] at this; exact this
  have HB := (Below.refl _ w).alloc (Nat.le_refl _) (.cells #[.int .i64 3, .int .i64 a.nn, .int .i64 a.pi, .int .i64 a.si, .int .i64 a.zo, .bool a.be, .slice a.la a.ln a.lcap] 30)
  have bx := boxR_new w 30 #[.int .i64 3, .int .i64 a.nn, .int .i64 a.pi, .int .i64 a.si, .int .i64 a.zo, .bool a.be, .slice a.la a.ln a.lcap]
  generalize hW : w.alloc (.cells #[.int .i64 3, .int .i64 a.nn, .int .i64 a.pi, .int .i64 a.si, .int .i64 a.zo, .bool a.be, .slice a.la a.ln a.lcap] 30) = W at HB bx
  have c0 := bx.cell 0
  have c1 := bx.cell 1
  have c2 := bx.cell 2
  have c3 := bx.cell 3
  have c4 := bx.cell 4
  have c5 := bx.cell 5
  have c6 := bx.cell 6
  simp at c0 c1 c2 c3 c4 c5 c6
  go_enter Tryz.func66, Tryz.ntmps66
  go_wp2_with fail
  refine (HP.out _).mono ?_
  rintro e v1 ⟨rfl, hb1⟩
  have bx1 := bx.grew hb1
  have d1 := bx1.cell 1
  simp at d1
  clear hW c0 c1 c2 c3 c4 c5 c6
  go_wp2
  all_goals go_ret
  all_goals exact ⟨ret_bool' (by rw [HA.out] <;> first | rfl | (rw [Bool.eq_iff_iff]; simp)), below_app HB hb1 HB.size⟩
set_option maxHeartbeats 2000000 in
theorem aok_3t (a : Ac) (w : World) (h : a.kd = 3) (hn : a.ln ≤ 1048577) (hp : plA a = true) : Calls Tryz.prog 66 #[(.agg #[.int .i64 3, .int .i64 a.nn, .int .i64 a.pi, .int .i64 a.si, .int .i64 a.zo, .bool a.be, .slice a.la a.ln a.lcap])] w fun e w' => e = .returned (.bool (okAc a)) ∧ Below w.heap.size w w' := by
  have HA : Hid (okAc a = ib a.nn 1 2147483647) := by show okAc a = _; unfold okAc; simp [h, hp]
  have HP : Hid (∀ w : World, Calls Tryz.prog 110 #[(.agg #[.int .i64 3, .int .i64 a.nn, .int .i64 a.pi, .int .i64 a.si, .int .i64 a.zo, .bool a.be, .slice a.la a.ln a.lcap])] w fun e w' => e = .returned (.bool true) ∧ Below w.heap.size w w') := fun w => by have := l9Plain_any { a with kd := 3 } w hn; rw [show plA { a with kd := 3 } = true from hp] at this; exact this
  have HB := (Below.refl _ w).alloc (Nat.le_refl _) (.cells #[.int .i64 3, .int .i64 a.nn, .int .i64 a.pi, .int .i64 a.si, .int .i64 a.zo, .bool a.be, .slice a.la a.ln a.lcap] 30)
  have bx := boxR_new w 30 #[.int .i64 3, .int .i64 a.nn, .int .i64 a.pi, .int .i64 a.si, .int .i64 a.zo, .bool a.be, .slice a.la a.ln a.lcap]
  generalize hW : w.alloc (.cells #[.int .i64 3, .int .i64 a.nn, .int .i64 a.pi, .int .i64 a.si, .int .i64 a.zo, .bool a.be, .slice a.la a.ln a.lcap] 30) = W at HB bx
  have c0 := bx.cell 0
  have c1 := bx.cell 1
  have c2 := bx.cell 2
  have c3 := bx.cell 3
  have c4 := bx.cell 4
  have c5 := bx.cell 5
  have c6 := bx.cell 6
  simp at c0 c1 c2 c3 c4 c5 c6
  go_enter Tryz.func66, Tryz.ntmps66
  go_wp2_with fail
  refine (HP.out _).mono ?_
  rintro e v1 ⟨rfl, hb1⟩
  have bx1 := bx.grew hb1
  have d1 := bx1.cell 1
  simp at d1
  clear hW c0 c1 c2 c3 c4 c5 c6
  go_wp2_with (go_at_call 63; refine (l1In_any _ _ _ _).mono ?_; rintro e w' ⟨rfl, rfl⟩)
  all_goals go_ret
  all_goals exact ⟨ret_bool' (by rw [HA.out] <;> first | rfl | (rw [Bool.eq_iff_iff]; simp)), below_app HB hb1 HB.size⟩
set_option maxHeartbeats 2000000 in
theorem aok_4f (a : Ac) (w : World) (h : a.kd = 4) (hn : a.ln ≤ 1048577) (hp : plA a = false) : Calls Tryz.prog 66 #[(.agg #[.int .i64 4, .int .i64 a.nn, .int .i64 a.pi, .int .i64 a.si, .int .i64 a.zo, .bool a.be, .slice a.la a.ln a.lcap])] w fun e w' => e = .returned (.bool (okAc a)) ∧ Below w.heap.size w w' := by
  have HA : Hid (okAc a = false) := by show okAc a = _; unfold okAc; simp [h, hp]
  have HP : Hid (∀ w : World, Calls Tryz.prog 110 #[(.agg #[.int .i64 4, .int .i64 a.nn, .int .i64 a.pi, .int .i64 a.si, .int .i64 a.zo, .bool a.be, .slice a.la a.ln a.lcap])] w fun e w' => e = .returned (.bool false) ∧ Below w.heap.size w w') := fun w => by have := l9Plain_any { a with kd := 4 } w hn; rw [show plA { a with kd := 4 } = false from hp] at this; exact this
  have HB := (Below.refl _ w).alloc (Nat.le_refl _) (.cells #[.int .i64 4, .int .i64 a.nn, .int .i64 a.pi, .int .i64 a.si, .int .i64 a.zo, .bool a.be, .slice a.la a.ln a.lcap] 30)
  have bx := boxR_new w 30 #[.int .i64 4, .int .i64 a.nn, .int .i64 a.pi, .int .i64 a.si, .int .i64 a.zo, .bool a.be, .slice a.la a.ln a.lcap]
  generalize hW : w.alloc (.cells #[.int .i64 4, .int .i64 a.nn, .int .i64 a.pi, .int .i64 a.si, .int .i64 a.zo, .bool a.be, .slice a.la a.ln a.lcap] 30) = W at HB bx
  have c0 := bx.cell 0
  have c1 := bx.cell 1
  have c2 := bx.cell 2
  have c3 := bx.cell 3
  have c4 := bx.cell 4
  have c5 := bx.cell 5
  have c6 := bx.cell 6
  simp at c0 c1 c2 c3 c4 c5 c6
  go_enter Tryz.func66, Tryz.ntmps66
  go_wp2_with fail
  refine (HP.out _).mono ?_
  rintro e v1 ⟨rfl, hb1⟩
  have bx1 := bx.grew hb1
  have d1 := bx1.cell 1
  simp at d1
  clear hW c0 c1 c2 c3 c4 c5 c6
  go_wp2
  all_goals go_ret
  all_goals exact ⟨ret_bool' (by rw [HA.out] <;> first | rfl | (rw [Bool.eq_iff_iff]; simp)), below_app HB hb1 HB.size⟩
set_option maxHeartbeats 2000000 in
theorem aok_4t (a : Ac) (w : World) (h : a.kd = 4) (hn : a.ln ≤ 1048577) (hp : plA a = true) : Calls Tryz.prog 66 #[(.agg #[.int .i64 4, .int .i64 a.nn, .int .i64 a.pi, .int .i64 a.si, .int .i64 a.zo, .bool a.be, .slice a.la a.ln a.lcap])] w fun e w' => e = .returned (.bool (okAc a)) ∧ Below w.heap.size w w' := by
  have HA : Hid (okAc a = decide (a.nn = 0)) := by show okAc a = _; unfold okAc; simp [h, hp]
  have HP : Hid (∀ w : World, Calls Tryz.prog 110 #[(.agg #[.int .i64 4, .int .i64 a.nn, .int .i64 a.pi, .int .i64 a.si, .int .i64 a.zo, .bool a.be, .slice a.la a.ln a.lcap])] w fun e w' => e = .returned (.bool true) ∧ Below w.heap.size w w') := fun w => by have := l9Plain_any { a with kd := 4 } w hn; rw [show plA { a with kd := 4 } = true from hp] at this; exact this
  have HB := (Below.refl _ w).alloc (Nat.le_refl _) (.cells #[.int .i64 4, .int .i64 a.nn, .int .i64 a.pi, .int .i64 a.si, .int .i64 a.zo, .bool a.be, .slice a.la a.ln a.lcap] 30)
  have bx := boxR_new w 30 #[.int .i64 4, .int .i64 a.nn, .int .i64 a.pi, .int .i64 a.si, .int .i64 a.zo, .bool a.be, .slice a.la a.ln a.lcap]
  generalize hW : w.alloc (.cells #[.int .i64 4, .int .i64 a.nn, .int .i64 a.pi, .int .i64 a.si, .int .i64 a.zo, .bool a.be, .slice a.la a.ln a.lcap] 30) = W at HB bx
  have c0 := bx.cell 0
  have c1 := bx.cell 1
  have c2 := bx.cell 2
  have c3 := bx.cell 3
  have c4 := bx.cell 4
  have c5 := bx.cell 5
  have c6 := bx.cell 6
  simp at c0 c1 c2 c3 c4 c5 c6
  go_enter Tryz.func66, Tryz.ntmps66
  go_wp2_with fail
  refine (HP.out _).mono ?_
  rintro e v1 ⟨rfl, hb1⟩
  have bx1 := bx.grew hb1
  have d1 := bx1.cell 1
  simp at d1
  clear hW c0 c1 c2 c3 c4 c5 c6
  go_wp2
  all_goals go_ret
  all_goals exact ⟨ret_bool' (by rw [HA.out] <;> first | rfl | (rw [Bool.eq_iff_iff]; simp)), below_app HB hb1 HB.size⟩
set_option maxHeartbeats 2000000 in
theorem aok_5f (a : Ac) (w : World) (h : a.kd = 5) (hn : a.ln ≤ 1048577) (hp : plA a = false) : Calls Tryz.prog 66 #[(.agg #[.int .i64 5, .int .i64 a.nn, .int .i64 a.pi, .int .i64 a.si, .int .i64 a.zo, .bool a.be, .slice a.la a.ln a.lcap])] w fun e w' => e = .returned (.bool (okAc a)) ∧ Below w.heap.size w w' := by
  have HA : Hid (okAc a = false) := by show okAc a = _; unfold okAc; simp [h, hp]
  have HP : Hid (∀ w : World, Calls Tryz.prog 110 #[(.agg #[.int .i64 5, .int .i64 a.nn, .int .i64 a.pi, .int .i64 a.si, .int .i64 a.zo, .bool a.be, .slice a.la a.ln a.lcap])] w fun e w' => e = .returned (.bool false) ∧ Below w.heap.size w w') := fun w => by have := l9Plain_any { a with kd := 5 } w hn; rw [show plA { a with kd := 5 } = false from hp] at this; exact this
  have HB := (Below.refl _ w).alloc (Nat.le_refl _) (.cells #[.int .i64 5, .int .i64 a.nn, .int .i64 a.pi, .int .i64 a.si, .int .i64 a.zo, .bool a.be, .slice a.la a.ln a.lcap] 30)
  have bx := boxR_new w 30 #[.int .i64 5, .int .i64 a.nn, .int .i64 a.pi, .int .i64 a.si, .int .i64 a.zo, .bool a.be, .slice a.la a.ln a.lcap]
  generalize hW : w.alloc (.cells #[.int .i64 5, .int .i64 a.nn, .int .i64 a.pi, .int .i64 a.si, .int .i64 a.zo, .bool a.be, .slice a.la a.ln a.lcap] 30) = W at HB bx
  have c0 := bx.cell 0
  have c1 := bx.cell 1
  have c2 := bx.cell 2
  have c3 := bx.cell 3
  have c4 := bx.cell 4
  have c5 := bx.cell 5
  have c6 := bx.cell 6
  simp at c0 c1 c2 c3 c4 c5 c6
  go_enter Tryz.func66, Tryz.ntmps66
  go_wp2_with fail
  refine (HP.out _).mono ?_
  rintro e v1 ⟨rfl, hb1⟩
  have bx1 := bx.grew hb1
  have d1 := bx1.cell 1
  simp at d1
  clear hW c0 c1 c2 c3 c4 c5 c6
  go_wp2
  all_goals go_ret
  all_goals exact ⟨ret_bool' (by rw [HA.out] <;> first | rfl | (rw [Bool.eq_iff_iff]; simp)), below_app HB hb1 HB.size⟩
set_option maxHeartbeats 2000000 in
theorem aok_5t (a : Ac) (w : World) (h : a.kd = 5) (hn : a.ln ≤ 1048577) (hp : plA a = true) : Calls Tryz.prog 66 #[(.agg #[.int .i64 5, .int .i64 a.nn, .int .i64 a.pi, .int .i64 a.si, .int .i64 a.zo, .bool a.be, .slice a.la a.ln a.lcap])] w fun e w' => e = .returned (.bool (okAc a)) ∧ Below w.heap.size w w' := by
  have HA : Hid (okAc a = decide (a.nn = 0)) := by show okAc a = _; unfold okAc; simp [h, hp]
  have HP : Hid (∀ w : World, Calls Tryz.prog 110 #[(.agg #[.int .i64 5, .int .i64 a.nn, .int .i64 a.pi, .int .i64 a.si, .int .i64 a.zo, .bool a.be, .slice a.la a.ln a.lcap])] w fun e w' => e = .returned (.bool true) ∧ Below w.heap.size w w') := fun w => by have := l9Plain_any { a with kd := 5 } w hn; rw [show plA { a with kd := 5 } = true from hp] at this; exact this
  have HB := (Below.refl _ w).alloc (Nat.le_refl _) (.cells #[.int .i64 5, .int .i64 a.nn, .int .i64 a.pi, .int .i64 a.si, .int .i64 a.zo, .bool a.be, .slice a.la a.ln a.lcap] 30)
  have bx := boxR_new w 30 #[.int .i64 5, .int .i64 a.nn, .int .i64 a.pi, .int .i64 a.si, .int .i64 a.zo, .bool a.be, .slice a.la a.ln a.lcap]
  generalize hW : w.alloc (.cells #[.int .i64 5, .int .i64 a.nn, .int .i64 a.pi, .int .i64 a.si, .int .i64 a.zo, .bool a.be, .slice a.la a.ln a.lcap] 30) = W at HB bx
  have c0 := bx.cell 0
  have c1 := bx.cell 1
  have c2 := bx.cell 2
  have c3 := bx.cell 3
  have c4 := bx.cell 4
  have c5 := bx.cell 5
  have c6 := bx.cell 6
  simp at c0 c1 c2 c3 c4 c5 c6
  go_enter Tryz.func66, Tryz.ntmps66
  go_wp2_with fail
  refine (HP.out _).mono ?_
  rintro e v1 ⟨rfl, hb1⟩
  have bx1 := bx.grew hb1
  have d1 := bx1.cell 1
  simp at d1
  clear hW c0 c1 c2 c3 c4 c5 c6
  go_wp2
  all_goals go_ret
  all_goals exact ⟨ret_bool' (by rw [HA.out] <;> first | rfl | (rw [Bool.eq_iff_iff]; simp)), below_app HB hb1 HB.size⟩
set_option maxHeartbeats 4000000 in
theorem aok_6 (a : Ac) (w : World) (h : a.kd = 6) (hn : a.ln ≤ 1048577) : Calls Tryz.prog 66 #[(.agg #[.int .i64 6, .int .i64 a.nn, .int .i64 a.pi, .int .i64 a.si, .int .i64 a.zo, .bool a.be, .slice a.la a.ln a.lcap])] w fun e w' => e = .returned (.bool (okAc a)) ∧ Below w.heap.size w w' := by
  have HA : Hid (okAc a = ac6 a) := by show okAc a = _; unfold okAc; simp [h]
  clear h
  have HB := (Below.refl _ w).alloc (Nat.le_refl _) (.cells #[.int .i64 6, .int .i64 a.nn, .int .i64 a.pi, .int .i64 a.si, .int .i64 a.zo, .bool a.be, .slice a.la a.ln a.lcap] 30)
  have bx := boxR_new w 30 #[.int .i64 6, .int .i64 a.nn, .int .i64 a.pi, .int .i64 a.si, .int .i64 a.zo, .bool a.be, .slice a.la a.ln a.lcap]
  generalize hW : w.alloc (.cells #[.int .i64 6, .int .i64 a.nn, .int .i64 a.pi, .int .i64 a.si, .int .i64 a.zo, .bool a.be, .slice a.la a.ln a.lcap] 30) = W at HB bx
  have c0 := bx.cell 0
  have c1 := bx.cell 1
  have c2 := bx.cell 2
  have c3 := bx.cell 3
  have c4 := bx.cell 4
  have c5 := bx.cell 5
  have c6 := bx.cell 6
  simp at c0 c1 c2 c3 c4 c5 c6
  go_enter Tryz.func66, Tryz.ntmps66
  go_wp2_with (go_at_call 63; refine (l1In_any _ _ _ _).mono ?_; rintro e w' ⟨rfl, rfl⟩)
  all_goals go_ret
  all_goals exact ⟨ret_bool' (by rw [HA.out]; unfold ac6; first | (simp_all; done) | (simp_all; omega) | (rw [Bool.eq_iff_iff]; simp_all)), HB⟩
set_option maxHeartbeats 4000000 in
theorem aok_7 (a : Ac) (w : World) (h : a.kd = 7) (hn : a.ln ≤ 1048577) : Calls Tryz.prog 66 #[(.agg #[.int .i64 7, .int .i64 a.nn, .int .i64 a.pi, .int .i64 a.si, .int .i64 a.zo, .bool a.be, .slice a.la a.ln a.lcap])] w fun e w' => e = .returned (.bool (okAc a)) ∧ Below w.heap.size w w' := by
  have HA : Hid (okAc a = ac7 a) := by show okAc a = _; unfold okAc; simp [h]
  clear h
  have HB := (Below.refl _ w).alloc (Nat.le_refl _) (.cells #[.int .i64 7, .int .i64 a.nn, .int .i64 a.pi, .int .i64 a.si, .int .i64 a.zo, .bool a.be, .slice a.la a.ln a.lcap] 30)
  have bx := boxR_new w 30 #[.int .i64 7, .int .i64 a.nn, .int .i64 a.pi, .int .i64 a.si, .int .i64 a.zo, .bool a.be, .slice a.la a.ln a.lcap]
  generalize hW : w.alloc (.cells #[.int .i64 7, .int .i64 a.nn, .int .i64 a.pi, .int .i64 a.si, .int .i64 a.zo, .bool a.be, .slice a.la a.ln a.lcap] 30) = W at HB bx
  have c0 := bx.cell 0
  have c1 := bx.cell 1
  have c2 := bx.cell 2
  have c3 := bx.cell 3
  have c4 := bx.cell 4
  have c5 := bx.cell 5
  have c6 := bx.cell 6
  simp at c0 c1 c2 c3 c4 c5 c6
  go_enter Tryz.func66, Tryz.ntmps66
  go_wp2_with (go_at_call 63; refine (l1In_any _ _ _ _).mono ?_; rintro e w' ⟨rfl, rfl⟩)
  all_goals go_ret
  all_goals exact ⟨ret_bool' (by rw [HA.out]; unfold ac7; first | (simp_all; done) | (simp_all; omega) | (rw [Bool.eq_iff_iff]; simp_all)), HB⟩
set_option maxHeartbeats 4000000 in
theorem aok_8 (a : Ac) (w : World) (h : a.kd = 8) (hn : a.ln ≤ 1048577) : Calls Tryz.prog 66 #[(.agg #[.int .i64 8, .int .i64 a.nn, .int .i64 a.pi, .int .i64 a.si, .int .i64 a.zo, .bool a.be, .slice a.la a.ln a.lcap])] w fun e w' => e = .returned (.bool (okAc a)) ∧ Below w.heap.size w w' := by
  have HA : Hid (okAc a = ac8 a) := by show okAc a = _; unfold okAc; simp [h]
  clear h
  have HB := (Below.refl _ w).alloc (Nat.le_refl _) (.cells #[.int .i64 8, .int .i64 a.nn, .int .i64 a.pi, .int .i64 a.si, .int .i64 a.zo, .bool a.be, .slice a.la a.ln a.lcap] 30)
  have bx := boxR_new w 30 #[.int .i64 8, .int .i64 a.nn, .int .i64 a.pi, .int .i64 a.si, .int .i64 a.zo, .bool a.be, .slice a.la a.ln a.lcap]
  generalize hW : w.alloc (.cells #[.int .i64 8, .int .i64 a.nn, .int .i64 a.pi, .int .i64 a.si, .int .i64 a.zo, .bool a.be, .slice a.la a.ln a.lcap] 30) = W at HB bx
  have c0 := bx.cell 0
  have c1 := bx.cell 1
  have c2 := bx.cell 2
  have c3 := bx.cell 3
  have c4 := bx.cell 4
  have c5 := bx.cell 5
  have c6 := bx.cell 6
  simp at c0 c1 c2 c3 c4 c5 c6
  go_enter Tryz.func66, Tryz.ntmps66
  go_wp2_with (go_at_call 63; refine (l1In_any _ _ _ _).mono ?_; rintro e w' ⟨rfl, rfl⟩)
  all_goals go_ret
  all_goals exact ⟨ret_bool' (by rw [HA.out]; unfold ac8; first | (simp_all; done) | (simp_all; omega) | (rw [Bool.eq_iff_iff]; simp_all)), HB⟩
set_option maxHeartbeats 4000000 in
theorem aok_9 (a : Ac) (w : World) (h : a.kd = 9) (hok : a.ok w) (hn : a.ln ≤ 1048577) : Calls Tryz.prog 66 #[(.agg #[.int .i64 9, .int .i64 a.nn, .int .i64 a.pi, .int .i64 a.si, .int .i64 a.zo, .bool a.be, .slice a.la a.ln a.lcap])] w fun e w' => e = .returned (.bool (okAc a)) ∧ Below w.heap.size w w' := by
  have HA : Hid (okAc a = (apL a.ln a.es && ac9 a)) := by show okAc a = _; unfold okAc; simp [h]
  obtain ⟨_, _, r1, _⟩ := hok
  clear h
  have HB := (Below.refl _ w).alloc (Nat.le_refl _) (.cells #[.int .i64 9, .int .i64 a.nn, .int .i64 a.pi, .int .i64 a.si, .int .i64 a.zo, .bool a.be, .slice a.la a.ln a.lcap] 30)
  have bx := boxR_new w 30 #[.int .i64 9, .int .i64 a.nn, .int .i64 a.pi, .int .i64 a.si, .int .i64 a.zo, .bool a.be, .slice a.la a.ln a.lcap]
  generalize hW : w.alloc (.cells #[.int .i64 9, .int .i64 a.nn, .int .i64 a.pi, .int .i64 a.si, .int .i64 a.zo, .bool a.be, .slice a.la a.ln a.lcap] 30) = W at HB bx
  have c0 := bx.cell 0
  have c1 := bx.cell 1
  have c2 := bx.cell 2
  have c3 := bx.cell 3
  have c4 := bx.cell 4
  have c5 := bx.cell 5
  have c6 := bx.cell 6
  simp at c0 c1 c2 c3 c4 c5 c6
  go_enter Tryz.func66, Tryz.ntmps66
  go_wp2
  clear hW c0 c1 c2 c3 c4 c5 c6
  have hsz := HB.size
  go_loopw [3] (fun i wr => ∃ k : Nat, k ≤ a.ln ∧ i = .int .i64 k ∧ Hid (∀ j, j < k → ptE (a.es j) = true) ∧ Below W.heap.size W wr) (fun i _ => a.ln - (intOf i).toNat)
  case atStart => exact ⟨0, Nat.zero_le _, rfl, fun j hj => by omega, Below.refl _ _⟩
  case round =>
    obtain ⟨k, hk, rfl, hall, hb⟩ := hrel
    have by_ := bx.grew hb
    have hB := below_app HB hb hsz
    have c1 := by_.cell 1
    have c2 := by_.cell 2
    have c3 := by_.cell 3
    have c4 := by_.cell 4
    have c5 := by_.cell 5
    have c6 := by_.cell 6
    simp at c1 c2 c3 c4 c5 c6
    by_cases hlt : k < a.ln
    · rcases r1.grew evC_ne hB with g1 | ⟨o1, hpa, g1⟩
      · omega
      rw [hpa] at c6
      obtain ⟨k0, k1, k2, k3, k4, k5, k6⟩ : AtEv wr a.lb (o1 + k * 7) (a.es k) := AtEv_of (g1 k hlt)
      clear hpa g1
      have y1 : (0 : Int) ≤ (k : Int) := by omega
      have y2 : (k : Int) < (a.ln : Int) := by omega
      cases hp : ptE (a.es k)
      case false =>
        have HR : Hid (okAc a = false) := by show okAc a = false; rw [HA.out, apL_no hlt hp]; rfl
        have HP : Hid (∀ w : World, Calls Tryz.prog 111 #[(.agg #[.int .i64 (a.es k).kd, .int .i64 (a.es k).sr, .int .i64 (a.es k).pi, .int .i64 (a.es k).si, .int .i64 (a.es k).nn, .int .i64 (a.es k).zo, .bool (a.es k).be])] w fun r w' => r = .returned (.bool false) ∧ Below w.heap.size w w') := fun w => by have := l9Part_any (a.es k) w; rw [hp] at this; exact this
        go_wp2_with fail
        refine (HP.out _).mono ?_
        rintro r w1 ⟨rfl, hb1⟩
        go_wp2
        go_ret
        exact ⟨ret_bool' HR.out.symm, below_app hB hb1 hB.size⟩
      case true =>
        have HN : Hid (∀ j, j < k + 1 → ptE (a.es j) = true) := fun j hj => by
          by_cases ej : j = k
          · rw [ej]; exact hp
          · exact hall.out j (by omega)
        have HP : Hid (∀ w : World, Calls Tryz.prog 111 #[(.agg #[.int .i64 (a.es k).kd, .int .i64 (a.es k).sr, .int .i64 (a.es k).pi, .int .i64 (a.es k).si, .int .i64 (a.es k).nn, .int .i64 (a.es k).zo, .bool (a.es k).be])] w fun r w' => r = .returned (.bool true) ∧ Below w.heap.size w w') := fun w => by have := l9Part_any (a.es k) w; rw [hp] at this; exact this
        go_wp2_with fail
        refine (HP.out _).mono ?_
        rintro r w1 ⟨rfl, hb1⟩
        have hb2 := below_app hb hb1 hb.size
        clear c1 c2 c3 c4 c5 c6 k0 k1 k2 k3 k4 k5 k6 hb
        go_wp2
        go_roundw
        case rel => first | exact ⟨k + 1, by omega, by go_num, HN, hb2⟩ | ((repeat apply Exists.intro); exact ⟨⟨k + 1, by omega, by go_num, HN, hb2⟩, rfl⟩)
        case measure => simp [intOf]; omega
    · have HL : Hid (okAc a = ac9 a) := by show okAc a = _; rw [HA.out, apL_yes (fun j hj => hall.out j (by omega))]; rfl
      obtain rfl : k = a.ln := by omega
      clear hall hk hlt
      go_wp2_with (go_at_call 63; refine (l1In_any _ _ _ _).mono ?_; rintro e w' ⟨rfl, rfl⟩)
      all_goals go_ret
      all_goals exact ⟨ret_bool' (by rw [HL.out]; unfold ac9; first | (simp_all; done) | (simp_all; omega) | (rw [Bool.eq_iff_iff]; simp_all)), hB⟩
set_option maxHeartbeats 4000000 in
theorem aok_x (a : Ac) (w : World) (h : ∀ k : Int, 1 ≤ k → k ≤ 9 → a.kd ≠ k) : Calls Tryz.prog 66 #[(.agg #[.int .i64 a.kd, .int .i64 a.nn, .int .i64 a.pi, .int .i64 a.si, .int .i64 a.zo, .bool a.be, .slice a.la a.ln a.lcap])] w fun e w' => e = .returned (.bool (okAc a)) ∧ Below w.heap.size w w' := by
  have HA : Hid (okAc a = false) := by
    show okAc a = false
    unfold okAc
    simp [h 1, h 2, h 3, h 4, h 5, h 6, h 7, h 8, h 9]
  have n1 : (a.kd == 1) = false := by simpa using h 1 (by omega) (by omega)
  have n2 : (a.kd == 2) = false := by simpa using h 2 (by omega) (by omega)
  have n3 : (a.kd == 3) = false := by simpa using h 3 (by omega) (by omega)
  have n4 : (a.kd == 4) = false := by simpa using h 4 (by omega) (by omega)
  have n5 : (a.kd == 5) = false := by simpa using h 5 (by omega) (by omega)
  have n6 : (a.kd == 6) = false := by simpa using h 6 (by omega) (by omega)
  have n7 : (a.kd == 7) = false := by simpa using h 7 (by omega) (by omega)
  have n8 : (a.kd == 8) = false := by simpa using h 8 (by omega) (by omega)
  have n9 : (a.kd == 9) = false := by simpa using h 9 (by omega) (by omega)
  clear h
  have HB := (Below.refl _ w).alloc (Nat.le_refl _) (.cells #[.int .i64 a.kd, .int .i64 a.nn, .int .i64 a.pi, .int .i64 a.si, .int .i64 a.zo, .bool a.be, .slice a.la a.ln a.lcap] 30)
  have bx := boxR_new w 30 #[.int .i64 a.kd, .int .i64 a.nn, .int .i64 a.pi, .int .i64 a.si, .int .i64 a.zo, .bool a.be, .slice a.la a.ln a.lcap]
  generalize hW : w.alloc (.cells #[.int .i64 a.kd, .int .i64 a.nn, .int .i64 a.pi, .int .i64 a.si, .int .i64 a.zo, .bool a.be, .slice a.la a.ln a.lcap] 30) = W at HB bx
  have c0 := bx.cell 0
  have c1 := bx.cell 1
  have c2 := bx.cell 2
  have c3 := bx.cell 3
  have c4 := bx.cell 4
  have c5 := bx.cell 5
  have c6 := bx.cell 6
  simp at c0 c1 c2 c3 c4 c5 c6
  go_enter Tryz.func66, Tryz.ntmps66
  go_wp2
  go_ret
  exact ⟨ret_bool' HA.out.symm, HB⟩
theorem specActOk_any (a : Ac) (w : World) (hok : a.ok w) (hn : a.ln ≤ 1048577) : Calls Tryz.prog 66 #[(.agg #[.int .i64 a.kd, .int .i64 a.nn, .int .i64 a.pi, .int .i64 a.si, .int .i64 a.zo, .bool a.be, .slice a.la a.ln a.lcap])] w fun e w' => e = .returned (.bool (okAc a)) ∧ Below w.heap.size w w' := by
  by_cases hx : 1 ≤ a.kd ∧ a.kd ≤ 9
  · have hk : a.kd = 1 ∨ a.kd = 2 ∨ a.kd = 3 ∨ a.kd = 4 ∨ a.kd = 5 ∨ a.kd = 6 ∨ a.kd = 7 ∨ a.kd = 8 ∨ a.kd = 9 := by omega
    rcases hk with h | h | h | h | h | h | h | h | h
    · rw [h]; cases hp : plA a
      · exact aok_1f a w h hn hp
      · exact aok_1t a w h hn hp
    · rw [h]; cases hp : plA a
      · exact aok_2f a w h hn hp
      · exact aok_2t a w h hn hp
    · rw [h]; cases hp : plA a
      · exact aok_3f a w h hn hp
      · exact aok_3t a w h hn hp
    · rw [h]; cases hp : plA a
      · exact aok_4f a w h hn hp
      · exact aok_4t a w h hn hp
    · rw [h]; cases hp : plA a
      · exact aok_5f a w h hn hp
      · exact aok_5t a w h hn hp
    · rw [h]; exact aok_6 a w h hn
    · rw [h]; exact aok_7 a w h hn
    · rw [h]; exact aok_8 a w h hn
    · rw [h]; exact aok_9 a w h hok hn
  · exact aok_x a w (fun k h1 h2 e => hx (by omega))
end Go.Proofs.YtodfdfncdoliiadGreat
