/-
  Chapter 6: the program's things, going on. Written by tools/ev.gen.py. Own work.
-/
import Derived.Test.YtodfdfncdoliiatGTbJA4
namespace Go.Proofs.Ytodfdfncdoliiat
open Go.ChangeShapes Go.WideShapes Go.ChangeAt Go.RowKit
set_option maxRecDepth 100000
set_option linter.unusedVariables false
set_option linter.unusedSimpArgs false

def ev_pm (e : Ev) : Ev := ⟨2, 0, e.pi, -1, e.nn, e.zo, e.be⟩
def ok_pm (e : Ev) : Bool := ib e.pi 1 99 && enE e.zo e.nn e.be
set_option maxHeartbeats 2000000 in
theorem event_pm (e : Ev) (w : World) : Calls Try.prog 123 #[(.agg #[.int .i64 e.pi, .int .i64 e.zo, .int .i64 e.nn, .bool e.be])] w fun r w' => r = .returned (.agg #[.int .i64 (ev_pm e).kd, .int .i64 (ev_pm e).sr, .int .i64 (ev_pm e).pi, .int .i64 (ev_pm e).si, .int .i64 (ev_pm e).nn, .int .i64 (ev_pm e).zo, .bool (ev_pm e).be]) ∧ Below w.heap.size w w' := by
  go_enter Try.func123, Try.ntmps123
  go_wp2
  (try simp only [Exit.inBlock, Exit.then]); refine bodyPost_ret (results_cell_row rfl _ _ (w.heap.size + 1) _ _ _ _ rfl (heap_alloc2_new _ _ _) Try.underlying43 rfl (by kernel_rfl)) rfl ?_
  exact ⟨rfl, ((Below.refl _ w).alloc (Nat.le_refl _) _).alloc (by simp) _⟩
set_option maxHeartbeats 4000000 in
theorem thingOk_pm (e : Ev) (w : World) : Calls Try.prog 103 #[(.iface 129 (.agg #[.int .i64 e.pi, .int .i64 e.zo, .int .i64 e.nn, .bool e.be]))] w fun r w' => r = .returned (.bool (ok_pm e)) ∧ Below w.heap.size w w' := by
  have as_ph : ∀ w : World, (Instr.typeAssert (.iface 129 (.agg #[.int .i64 e.pi, .int .i64 e.zo, .int .i64 e.nn, .bool e.be])) 122 137 true).run Try.prog w = .ok (.tuple #[.agg #[.int .i64 0, .int .i64 0, .int .i64 0], .bool false]) w := run_as_no Try.underlying137 (by kernel_rfl) (by decide) _
  have as_sh : ∀ w : World, (Instr.typeAssert (.iface 129 (.agg #[.int .i64 e.pi, .int .i64 e.zo, .int .i64 e.nn, .bool e.be])) 122 139 true).run Try.prog w = .ok (.tuple #[.agg #[.int .i64 0, .int .i64 0, .int .i64 0], .bool false]) w := run_as_no Try.underlying139 (by kernel_rfl) (by decide) _
  have as_pm : ∀ w : World, (Instr.typeAssert (.iface 129 (.agg #[.int .i64 e.pi, .int .i64 e.zo, .int .i64 e.nn, .bool e.be])) 122 129 true).run Try.prog w = .ok (.tuple #[(.agg #[.int .i64 e.pi, .int .i64 e.zo, .int .i64 e.nn, .bool e.be]), .bool true]) w := run_as_yes Try.underlying129 _
  go_enter Try.func103, Try.ntmps103
  go_wp2_with (first | (go_at_call 65; refine (isIdE_any _ _).mono ?_; rintro r w' ⟨rfl, rfl⟩) | (go_at_call 77; refine (isSide_any _ _).mono ?_; rintro r w' ⟨rfl, rfl⟩) | (go_at_call 86; refine (isAmount_any _ _).mono ?_; rintro r w' ⟨rfl, rfl⟩) | (go_at_call 106; refine (entryOk_any _ _ _ _ _).mono ?_; rintro r w' ⟨rfl, hbb⟩))
  all_goals go_ret
  all_goals refine ⟨ret_bool' ?_, ?_⟩
  all_goals first | exact (Below.refl _ w).alloc (Nat.le_refl _) _ | exact below_app ((Below.refl _ w).alloc (Nat.le_refl _) _) hbb (by simp) | (unfold ok_pm; simp_all)
set_option maxHeartbeats 4000000 in
theorem thingOf_pm (e : Ev) (hk : e.kd = 2) (w : World) : Calls Try.prog 102 #[(.agg #[.int .i64 e.kd, .int .i64 e.sr, .int .i64 e.pi, .int .i64 e.si, .int .i64 e.nn, .int .i64 e.zo, .bool e.be])] w fun r w' => r = .returned (.tuple #[(.iface 129 (.agg #[.int .i64 e.pi, .int .i64 e.zo, .int .i64 e.nn, .bool e.be])), .bool true]) ∧ Below w.heap.size w w' := by
  go_enter Try.func102, Try.ntmps102
  go_wp2
  go_ret2
  exact ⟨rfl, (Below.refl _ w).alloc (Nat.le_refl _) _⟩
def rt_pm (e : Ev) : Bool := smE (ev_pm e) e && ok_pm e
def rv_pm (e : Ev) : Value := if rt_pm e then (.iface 129 (.agg #[.int .i64 e.pi, .int .i64 e.zo, .int .i64 e.nn, .bool e.be])) else .nilIface
set_option maxHeartbeats 8000000 in
theorem right_pm (e : Ev) (hk : e.kd = 2) (w : World) : Calls Try.prog 100 #[(.agg #[.int .i64 e.kd, .int .i64 e.sr, .int .i64 e.pi, .int .i64 e.si, .int .i64 e.nn, .int .i64 e.zo, .bool e.be])] w fun r w' => r = .returned (.tuple #[rv_pm e, .bool (rt_pm e)]) ∧ Below w.heap.size w w' := by
  have HB := (Below.refl _ w).alloc (Nat.le_refl _) (.cells #[.int .i64 e.kd, .int .i64 e.sr, .int .i64 e.pi, .int .i64 e.si, .int .i64 e.nn, .int .i64 e.zo, .bool e.be] 43)
  have bx := boxE_new w 43 e
  generalize hW : w.alloc (.cells #[.int .i64 e.kd, .int .i64 e.sr, .int .i64 e.pi, .int .i64 e.si, .int .i64 e.nn, .int .i64 e.zo, .bool e.be] 43) = W at HB bx
  obtain ⟨k0, k1, k2, k3, k4, k5, k6⟩ : Cells7 _ _ _ := bx.cells
  have TH := thingOf_pm e hk
  have HT : Hid (∀ w : World, Calls Try.prog 102 #[(.agg #[.int .i64 e.kd, .int .i64 e.sr, .int .i64 e.pi, .int .i64 e.si, .int .i64 e.nn, .int .i64 e.zo, .bool e.be])] w fun r w' => r = .returned (.tuple #[(.iface 129 (.agg #[.int .i64 e.pi, .int .i64 e.zo, .int .i64 e.nn, .bool e.be])), .bool true]) ∧ Below w.heap.size w w') := TH
  clear TH hk
  have ME : ∀ v : World, (method 258 129 (.agg #[.int .i64 e.pi, .int .i64 e.zo, .int .i64 e.nn, .bool e.be]) "loop.example/g00486/impl.event").run Try.prog v = .ok (123, (.agg #[.int .i64 e.pi, .int .i64 e.zo, .int .i64 e.nn, .bool e.be])) v := fun v => by kernel_rfl
  have EQ := fun v : World => run_eq_ev (ev_pm e) e v
  have RT : Hid (rt_pm e = (smE (ev_pm e) e && ok_pm e)) := rfl
  obtain ⟨b, hb⟩ : ∃ b, b = smE (ev_pm e) e := ⟨_, rfl⟩
  rw [← hb] at EQ RT
  obtain ⟨b', hb'⟩ : ∃ b, b = ok_pm e := ⟨_, rfl⟩
  rw [← hb'] at RT
  clear hb
  have HO : Hid (b' = ok_pm e) := hb'
  clear hb'
  obtain ⟨E, hE⟩ : ∃ E, E = ev_pm e := ⟨_, rfl⟩
  rw [← hE] at EQ
  have HE : Hid (E = ev_pm e) := hE
  clear hE
  go_enter Try.func100, Try.ntmps100
  go_wp2_with fail
  refine (HT.out _).mono ?_
  rintro r w1 ⟨rfl, hb1⟩
  clear k0 k1 k2 k3 k4 k5 k6
  obtain ⟨k0, k1, k2, k3, k4, k5, k6⟩ : Cells7 _ _ _ := bx.cells7 hb1
  replace HB := below_app HB hb1 HB.size
  clear hb1
  have hne := bw_ne w1
  have c0 := fun x : BW w1 => x.cell k0
  have c1 := fun x : BW w1 => x.cell k1
  have c2 := fun x : BW w1 => x.cell k2
  have c3 := fun x : BW w1 => x.cell k3
  have c4 := fun x : BW w1 => x.cell k4
  have c5 := fun x : BW w1 => x.cell k5
  have c6 := fun x : BW w1 => x.cell k6
  clear k0 k1 k2 k3 k4 k5 k6 bx hW
  go_wp2_with fail
  refine wp_region_below_lit (W := w1) 13 (by kernel_rfl) (by kernel_rfl) (by decide) (Below.refl _ _) (by intro c d v a w h; cases d <;> exact h) ?_
  simp only [List.take_succ_cons, List.take_zero, List.drop_succ_cons, List.drop_zero]
  cases b <;> cases b'
  all_goals
    repeat (go_big_quiet_step (first | (go_at_call 123; refine quiet_below ((event_pm e _).mono fun r w' h => ⟨h.1.trans (by rw [← HE.out]), h.2⟩)) | (go_at_call 103; refine quiet_below ((thingOk_pm e _).mono fun r w' h => ⟨h.1.trans (by rw [← HO.out]), h.2⟩))))
    refine wpQuiet_nil ?_
    rintro _ ⟨x, rfl⟩
    clear c0 c1 c2 c3 c4 c5 c6
    go_wp2
    go_ret2
    refine ⟨?_, below_app HB x.h HB.size⟩
    unfold rv_pm
    rw [RT.out]
    rfl
def ev_sg (e : Ev) : Ev := ⟨3, 0, 0, e.si, e.nn, 0, false⟩
def ok_sg (e : Ev) : Bool := ib e.si 0 2 && ib e.nn 0 2147483647
set_option maxHeartbeats 2000000 in
theorem event_sg (e : Ev) (w : World) : Calls Try.prog 124 #[(.agg #[.int .i64 e.si, .int .i64 e.nn])] w fun r w' => r = .returned (.agg #[.int .i64 (ev_sg e).kd, .int .i64 (ev_sg e).sr, .int .i64 (ev_sg e).pi, .int .i64 (ev_sg e).si, .int .i64 (ev_sg e).nn, .int .i64 (ev_sg e).zo, .bool (ev_sg e).be]) ∧ Below w.heap.size w w' := by
  go_enter Try.func124, Try.ntmps124
  go_wp2
  (try simp only [Exit.inBlock, Exit.then]); refine bodyPost_ret (results_cell_row rfl _ _ (w.heap.size + 1) _ _ _ _ rfl (heap_alloc2_new _ _ _) Try.underlying43 rfl (by kernel_rfl)) rfl ?_
  exact ⟨rfl, ((Below.refl _ w).alloc (Nat.le_refl _) _).alloc (by simp) _⟩
set_option maxHeartbeats 4000000 in
theorem thingOk_sg (e : Ev) (w : World) : Calls Try.prog 103 #[(.iface 131 (.agg #[.int .i64 e.si, .int .i64 e.nn]))] w fun r w' => r = .returned (.bool (ok_sg e)) ∧ Below w.heap.size w w' := by
  have as_ph : ∀ w : World, (Instr.typeAssert (.iface 131 (.agg #[.int .i64 e.si, .int .i64 e.nn])) 122 137 true).run Try.prog w = .ok (.tuple #[.agg #[.int .i64 0, .int .i64 0, .int .i64 0], .bool false]) w := run_as_no Try.underlying137 (by kernel_rfl) (by decide) _
  have as_sh : ∀ w : World, (Instr.typeAssert (.iface 131 (.agg #[.int .i64 e.si, .int .i64 e.nn])) 122 139 true).run Try.prog w = .ok (.tuple #[.agg #[.int .i64 0, .int .i64 0, .int .i64 0], .bool false]) w := run_as_no Try.underlying139 (by kernel_rfl) (by decide) _
  have as_pm : ∀ w : World, (Instr.typeAssert (.iface 131 (.agg #[.int .i64 e.si, .int .i64 e.nn])) 122 129 true).run Try.prog w = .ok (.tuple #[.agg #[.int .i64 0, .int .i64 0, .int .i64 0, .bool false], .bool false]) w := run_as_no Try.underlying129 (by kernel_rfl) (by decide) _
  have as_sg : ∀ w : World, (Instr.typeAssert (.iface 131 (.agg #[.int .i64 e.si, .int .i64 e.nn])) 122 131 true).run Try.prog w = .ok (.tuple #[(.agg #[.int .i64 e.si, .int .i64 e.nn]), .bool true]) w := run_as_yes Try.underlying131 _
  go_enter Try.func103, Try.ntmps103
  go_wp2_with (first | (go_at_call 65; refine (isIdE_any _ _).mono ?_; rintro r w' ⟨rfl, rfl⟩) | (go_at_call 77; refine (isSide_any _ _).mono ?_; rintro r w' ⟨rfl, rfl⟩) | (go_at_call 86; refine (isAmount_any _ _).mono ?_; rintro r w' ⟨rfl, rfl⟩) | (go_at_call 106; refine (entryOk_any _ _ _ _ _).mono ?_; rintro r w' ⟨rfl, hbb⟩))
  all_goals go_ret
  all_goals refine ⟨ret_bool' ?_, ?_⟩
  all_goals first | exact (Below.refl _ w).alloc (Nat.le_refl _) _ | exact below_app ((Below.refl _ w).alloc (Nat.le_refl _) _) hbb (by simp) | (unfold ok_sg; simp_all)
set_option maxHeartbeats 4000000 in
theorem thingOf_sg (e : Ev) (hk : e.kd = 3) (w : World) : Calls Try.prog 102 #[(.agg #[.int .i64 e.kd, .int .i64 e.sr, .int .i64 e.pi, .int .i64 e.si, .int .i64 e.nn, .int .i64 e.zo, .bool e.be])] w fun r w' => r = .returned (.tuple #[(.iface 131 (.agg #[.int .i64 e.si, .int .i64 e.nn])), .bool true]) ∧ Below w.heap.size w w' := by
  go_enter Try.func102, Try.ntmps102
  go_wp2
  go_ret2
  exact ⟨rfl, (Below.refl _ w).alloc (Nat.le_refl _) _⟩
def rt_sg (e : Ev) : Bool := smE (ev_sg e) e && ok_sg e
def rv_sg (e : Ev) : Value := if rt_sg e then (.iface 131 (.agg #[.int .i64 e.si, .int .i64 e.nn])) else .nilIface
set_option maxHeartbeats 8000000 in
theorem right_sg (e : Ev) (hk : e.kd = 3) (w : World) : Calls Try.prog 100 #[(.agg #[.int .i64 e.kd, .int .i64 e.sr, .int .i64 e.pi, .int .i64 e.si, .int .i64 e.nn, .int .i64 e.zo, .bool e.be])] w fun r w' => r = .returned (.tuple #[rv_sg e, .bool (rt_sg e)]) ∧ Below w.heap.size w w' := by
  have HB := (Below.refl _ w).alloc (Nat.le_refl _) (.cells #[.int .i64 e.kd, .int .i64 e.sr, .int .i64 e.pi, .int .i64 e.si, .int .i64 e.nn, .int .i64 e.zo, .bool e.be] 43)
  have bx := boxE_new w 43 e
  generalize hW : w.alloc (.cells #[.int .i64 e.kd, .int .i64 e.sr, .int .i64 e.pi, .int .i64 e.si, .int .i64 e.nn, .int .i64 e.zo, .bool e.be] 43) = W at HB bx
  obtain ⟨k0, k1, k2, k3, k4, k5, k6⟩ : Cells7 _ _ _ := bx.cells
  have TH := thingOf_sg e hk
  have HT : Hid (∀ w : World, Calls Try.prog 102 #[(.agg #[.int .i64 e.kd, .int .i64 e.sr, .int .i64 e.pi, .int .i64 e.si, .int .i64 e.nn, .int .i64 e.zo, .bool e.be])] w fun r w' => r = .returned (.tuple #[(.iface 131 (.agg #[.int .i64 e.si, .int .i64 e.nn])), .bool true]) ∧ Below w.heap.size w w') := TH
  clear TH hk
  have ME : ∀ v : World, (method 258 131 (.agg #[.int .i64 e.si, .int .i64 e.nn]) "loop.example/g00486/impl.event").run Try.prog v = .ok (124, (.agg #[.int .i64 e.si, .int .i64 e.nn])) v := fun v => by kernel_rfl
  have EQ := fun v : World => run_eq_ev (ev_sg e) e v
  have RT : Hid (rt_sg e = (smE (ev_sg e) e && ok_sg e)) := rfl
  obtain ⟨b, hb⟩ : ∃ b, b = smE (ev_sg e) e := ⟨_, rfl⟩
  rw [← hb] at EQ RT
  obtain ⟨b', hb'⟩ : ∃ b, b = ok_sg e := ⟨_, rfl⟩
  rw [← hb'] at RT
  clear hb
  have HO : Hid (b' = ok_sg e) := hb'
  clear hb'
  obtain ⟨E, hE⟩ : ∃ E, E = ev_sg e := ⟨_, rfl⟩
  rw [← hE] at EQ
  have HE : Hid (E = ev_sg e) := hE
  clear hE
  go_enter Try.func100, Try.ntmps100
  go_wp2_with fail
  refine (HT.out _).mono ?_
  rintro r w1 ⟨rfl, hb1⟩
  clear k0 k1 k2 k3 k4 k5 k6
  obtain ⟨k0, k1, k2, k3, k4, k5, k6⟩ : Cells7 _ _ _ := bx.cells7 hb1
  replace HB := below_app HB hb1 HB.size
  clear hb1
  have hne := bw_ne w1
  have c0 := fun x : BW w1 => x.cell k0
  have c1 := fun x : BW w1 => x.cell k1
  have c2 := fun x : BW w1 => x.cell k2
  have c3 := fun x : BW w1 => x.cell k3
  have c4 := fun x : BW w1 => x.cell k4
  have c5 := fun x : BW w1 => x.cell k5
  have c6 := fun x : BW w1 => x.cell k6
  clear k0 k1 k2 k3 k4 k5 k6 bx hW
  go_wp2_with fail
  refine wp_region_below_lit (W := w1) 13 (by kernel_rfl) (by kernel_rfl) (by decide) (Below.refl _ _) (by intro c d v a w h; cases d <;> exact h) ?_
  simp only [List.take_succ_cons, List.take_zero, List.drop_succ_cons, List.drop_zero]
  cases b <;> cases b'
  all_goals
    repeat (go_big_quiet_step (first | (go_at_call 124; refine quiet_below ((event_sg e _).mono fun r w' h => ⟨h.1.trans (by rw [← HE.out]), h.2⟩)) | (go_at_call 103; refine quiet_below ((thingOk_sg e _).mono fun r w' h => ⟨h.1.trans (by rw [← HO.out]), h.2⟩))))
    refine wpQuiet_nil ?_
    rintro _ ⟨x, rfl⟩
    clear c0 c1 c2 c3 c4 c5 c6
    go_wp2
    go_ret2
    refine ⟨?_, below_app HB x.h HB.size⟩
    unfold rv_sg
    rw [RT.out]
    rfl
end Go.Proofs.Ytodfdfncdoliiat
