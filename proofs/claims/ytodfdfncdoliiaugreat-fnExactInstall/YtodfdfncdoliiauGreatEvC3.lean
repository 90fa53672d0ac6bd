/-
  Chapter 6: the program's things, going on. Written by tools/ev.gen.py. Own work.
-/
import Derived.Test.YtodfdfncdoliiauGreatGTbL5
namespace Go.Proofs.YtodfdfncdoliiauGreat
open Go.ChangeShapes Go.WideShapes Go.ChangeAt Go.RowKit
set_option maxRecDepth 100000
set_option linter.unusedVariables false
set_option linter.unusedSimpArgs false

def ev_sl (e : Ev) : Ev := ⟨4, 0, 0, e.si, e.nn, 0, false⟩
def ok_sl (e : Ev) : Bool := ib e.si 0 2 && ib e.nn 0 2147483647
set_option maxHeartbeats 2000000 in
theorem event_sl (e : Ev) (w : World) : Calls Tryz.prog 116 #[(.agg #[.int .i64 e.si, .int .i64 e.nn])] w fun r w' => r = .returned (.agg #[.int .i64 (ev_sl e).kd, .int .i64 (ev_sl e).sr, .int .i64 (ev_sl e).pi, .int .i64 (ev_sl e).si, .int .i64 (ev_sl e).nn, .int .i64 (ev_sl e).zo, .bool (ev_sl e).be]) ∧ Below w.heap.size w w' := by
  go_enter Tryz.func116, Tryz.ntmps116
  go_wp2
  (try simp only [Exit.inBlock, Exit.then]); refine bodyPost_ret (results_cell_row rfl _ _ (w.heap.size + 1) _ _ _ _ rfl (heap_alloc2_new _ _ _) Tryz.underlying102 rfl (by kernel_rfl)) rfl ?_
  exact ⟨rfl, ((Below.refl _ w).alloc (Nat.le_refl _) _).alloc (by simp) _⟩
set_option maxHeartbeats 4000000 in
theorem thingOk_sl (e : Ev) (w : World) : Calls Tryz.prog 94 #[(.iface 144 (.agg #[.int .i64 e.si, .int .i64 e.nn]))] w fun r w' => r = .returned (.bool (ok_sl e)) ∧ Below w.heap.size w w' := by
  have as_ph : ∀ w : World, (Instr.typeAssert (.iface 144 (.agg #[.int .i64 e.si, .int .i64 e.nn])) 134 149 true).run Tryz.prog w = .ok (.tuple #[.agg #[.int .i64 0, .int .i64 0, .int .i64 0], .bool false]) w := run_as_no Tryz.underlying149 (by kernel_rfl) (by decide) _
  have as_sh : ∀ w : World, (Instr.typeAssert (.iface 144 (.agg #[.int .i64 e.si, .int .i64 e.nn])) 134 151 true).run Tryz.prog w = .ok (.tuple #[.agg #[.int .i64 0, .int .i64 0, .int .i64 0], .bool false]) w := run_as_no Tryz.underlying151 (by kernel_rfl) (by decide) _
  have as_pm : ∀ w : World, (Instr.typeAssert (.iface 144 (.agg #[.int .i64 e.si, .int .i64 e.nn])) 134 141 true).run Tryz.prog w = .ok (.tuple #[.agg #[.int .i64 0, .int .i64 0, .int .i64 0, .bool false], .bool false]) w := run_as_no Tryz.underlying141 (by kernel_rfl) (by decide) _
  have as_sg : ∀ w : World, (Instr.typeAssert (.iface 144 (.agg #[.int .i64 e.si, .int .i64 e.nn])) 134 143 true).run Tryz.prog w = .ok (.tuple #[.agg #[.int .i64 0, .int .i64 0], .bool false]) w := run_as_no Tryz.underlying143 (by kernel_rfl) (by decide) _
  have as_sl : ∀ w : World, (Instr.typeAssert (.iface 144 (.agg #[.int .i64 e.si, .int .i64 e.nn])) 134 144 true).run Tryz.prog w = .ok (.tuple #[(.agg #[.int .i64 e.si, .int .i64 e.nn]), .bool true]) w := run_as_yes Tryz.underlying144 _
  go_enter Tryz.func94, Tryz.ntmps94
  go_wp2_with (first | (go_at_call 43; refine (isIdE_any _ _).mono ?_; rintro r w' ⟨rfl, rfl⟩) | (go_at_call 62; refine (isSide_any _ _).mono ?_; rintro r w' ⟨rfl, rfl⟩) | (go_at_call 75; refine (isAmount_any _ _).mono ?_; rintro r w' ⟨rfl, rfl⟩) | (go_at_call 97; refine (entryOk_any _ _ _ _ _).mono ?_; rintro r w' ⟨rfl, hbb⟩))
  all_goals go_ret
  all_goals refine ⟨ret_bool' ?_, ?_⟩
  all_goals first | exact (Below.refl _ w).alloc (Nat.le_refl _) _ | exact below_app ((Below.refl _ w).alloc (Nat.le_refl _) _) hbb (by simp) | (unfold ok_sl; simp_all)
set_option maxHeartbeats 4000000 in
theorem thingOf_sl (e : Ev) (hk : e.kd = 4) (w : World) : Calls Tryz.prog 93 #[(.agg #[.int .i64 e.kd, .int .i64 e.sr, .int .i64 e.pi, .int .i64 e.si, .int .i64 e.nn, .int .i64 e.zo, .bool e.be])] w fun r w' => r = .returned (.tuple #[(.iface 144 (.agg #[.int .i64 e.si, .int .i64 e.nn])), .bool true]) ∧ Below w.heap.size w w' := by
  go_enter Tryz.func93, Tryz.ntmps93
  go_wp2
  go_ret2
  exact ⟨rfl, (Below.refl _ w).alloc (Nat.le_refl _) _⟩
def rt_sl (e : Ev) : Bool := smE (ev_sl e) e && ok_sl e
def rv_sl (e : Ev) : Value := if rt_sl e then (.iface 144 (.agg #[.int .i64 e.si, .int .i64 e.nn])) else .nilIface
set_option maxHeartbeats 8000000 in
theorem right_sl (e : Ev) (hk : e.kd = 4) (w : World) : Calls Tryz.prog 91 #[(.agg #[.int .i64 e.kd, .int .i64 e.sr, .int .i64 e.pi, .int .i64 e.si, .int .i64 e.nn, .int .i64 e.zo, .bool e.be])] w fun r w' => r = .returned (.tuple #[rv_sl e, .bool (rt_sl e)]) ∧ Below w.heap.size w w' := by
  have HB := (Below.refl _ w).alloc (Nat.le_refl _) (.cells #[.int .i64 e.kd, .int .i64 e.sr, .int .i64 e.pi, .int .i64 e.si, .int .i64 e.nn, .int .i64 e.zo, .bool e.be] 102)
  have bx := boxE_new w 102 e
  generalize hW : w.alloc (.cells #[.int .i64 e.kd, .int .i64 e.sr, .int .i64 e.pi, .int .i64 e.si, .int .i64 e.nn, .int .i64 e.zo, .bool e.be] 102) = W at HB bx
  obtain ⟨k0, k1, k2, k3, k4, k5, k6⟩ : Cells7 _ _ _ := bx.cells
  have TH := thingOf_sl e hk
  have HT : Hid (∀ w : World, Calls Tryz.prog 93 #[(.agg #[.int .i64 e.kd, .int .i64 e.sr, .int .i64 e.pi, .int .i64 e.si, .int .i64 e.nn, .int .i64 e.zo, .bool e.be])] w fun r w' => r = .returned (.tuple #[(.iface 144 (.agg #[.int .i64 e.si, .int .i64 e.nn])), .bool true]) ∧ Below w.heap.size w w') := TH
  clear TH hk
  have ME : ∀ v : World, (method 270 144 (.agg #[.int .i64 e.si, .int .i64 e.nn]) "loop.example/g00486/impl.event").run Tryz.prog v = .ok (116, (.agg #[.int .i64 e.si, .int .i64 e.nn])) v := fun v => by kernel_rfl
  have EQ := fun v : World => run_eq_ev (ev_sl e) e v
  have RT : Hid (rt_sl e = (smE (ev_sl e) e && ok_sl e)) := rfl
  obtain ⟨b, hb⟩ : ∃ b, b = smE (ev_sl e) e := ⟨_, rfl⟩
  rw [← hb] at EQ RT
  obtain ⟨b', hb'⟩ : ∃ b, b = ok_sl e := ⟨_, rfl⟩
  rw [← hb'] at RT
  clear hb
  have HO : Hid (b' = ok_sl e) := hb'
  clear hb'
  obtain ⟨E, hE⟩ : ∃ E, E = ev_sl e := ⟨_, rfl⟩
  rw [← hE] at EQ
  have HE : Hid (E = ev_sl e) := hE
  clear hE
  go_enter Tryz.func91, Tryz.ntmps91
  go_wp2_with fail
  refine (HT.out _).mono ?_
  rintro r w1 ⟨rfl, hb1⟩
  clear k0 k1 k2 k3 k4 k5 k6
  obtain ⟨k0, k1, k2, k3, k4, k5, k6⟩ : Cells7 _ _ _ := bx.cells7 hb1
  replace HB := below_app HB hb1 HB.size
  clear hb1
  have hne := bw_ne w1
  have c0 := fun x : BW w1 => x.cell k0
  have c1 := fun x : BW w1 => x.cell k1
  have c2 := fun x : BW w1 => x.cell k2
  have c3 := fun x : BW w1 => x.cell k3
  have c4 := fun x : BW w1 => x.cell k4
  have c5 := fun x : BW w1 => x.cell k5
  have c6 := fun x : BW w1 => x.cell k6
  clear k0 k1 k2 k3 k4 k5 k6 bx hW
  go_wp2_with fail
  refine wp_region_below_lit (W := w1) 13 (by kernel_rfl) (by kernel_rfl) (by decide) (Below.refl _ _) (by intro c d v a w h; cases d <;> exact h) ?_
  simp only [List.take_succ_cons, List.take_zero, List.drop_succ_cons, List.drop_zero]
  cases b <;> cases b'
  all_goals
    repeat (go_big_quiet_step (first | (go_at_call 116; refine quiet_below ((event_sl e _).mono fun r w' h => ⟨h.1.trans (by rw [← HE.out]), h.2⟩)) | (go_at_call 94; refine quiet_below ((thingOk_sl e _).mono fun r w' h => ⟨h.1.trans (by rw [← HO.out]), h.2⟩))))
    refine wpQuiet_nil ?_
    rintro _ ⟨x, rfl⟩
    clear c0 c1 c2 c3 c4 c5 c6
    go_wp2
    go_ret2
    refine ⟨?_, below_app HB x.h HB.size⟩
    unfold rv_sl
    rw [RT.out]
    rfl
def ev_pp (e : Ev) : Ev := ⟨5, 0, e.pi, -1, e.nn, 0, false⟩
def ok_pp (e : Ev) : Bool := ib e.pi 1 99 && ib e.nn 0 2147483647
set_option maxHeartbeats 2000000 in
theorem event_pp (e : Ev) (w : World) : Calls Tryz.prog 117 #[(.agg #[.int .i64 e.pi, .int .i64 e.nn])] w fun r w' => r = .returned (.agg #[.int .i64 (ev_pp e).kd, .int .i64 (ev_pp e).sr, .int .i64 (ev_pp e).pi, .int .i64 (ev_pp e).si, .int .i64 (ev_pp e).nn, .int .i64 (ev_pp e).zo, .bool (ev_pp e).be]) ∧ Below w.heap.size w w' := by
  go_enter Tryz.func117, Tryz.ntmps117
  go_wp2
  (try simp only [Exit.inBlock, Exit.then]); refine bodyPost_ret (results_cell_row rfl _ _ (w.heap.size + 1) _ _ _ _ rfl (heap_alloc2_new _ _ _) Tryz.underlying102 rfl (by kernel_rfl)) rfl ?_
  exact ⟨rfl, ((Below.refl _ w).alloc (Nat.le_refl _) _).alloc (by simp) _⟩
set_option maxHeartbeats 4000000 in
theorem thingOk_pp (e : Ev) (w : World) : Calls Tryz.prog 94 #[(.iface 146 (.agg #[.int .i64 e.pi, .int .i64 e.nn]))] w fun r w' => r = .returned (.bool (ok_pp e)) ∧ Below w.heap.size w w' := by
  have as_ph : ∀ w : World, (Instr.typeAssert (.iface 146 (.agg #[.int .i64 e.pi, .int .i64 e.nn])) 134 149 true).run Tryz.prog w = .ok (.tuple #[.agg #[.int .i64 0, .int .i64 0, .int .i64 0], .bool false]) w := run_as_no Tryz.underlying149 (by kernel_rfl) (by decide) _
  have as_sh : ∀ w : World, (Instr.typeAssert (.iface 146 (.agg #[.int .i64 e.pi, .int .i64 e.nn])) 134 151 true).run Tryz.prog w = .ok (.tuple #[.agg #[.int .i64 0, .int .i64 0, .int .i64 0], .bool false]) w := run_as_no Tryz.underlying151 (by kernel_rfl) (by decide) _
  have as_pm : ∀ w : World, (Instr.typeAssert (.iface 146 (.agg #[.int .i64 e.pi, .int .i64 e.nn])) 134 141 true).run Tryz.prog w = .ok (.tuple #[.agg #[.int .i64 0, .int .i64 0, .int .i64 0, .bool false], .bool false]) w := run_as_no Tryz.underlying141 (by kernel_rfl) (by decide) _
  have as_sg : ∀ w : World, (Instr.typeAssert (.iface 146 (.agg #[.int .i64 e.pi, .int .i64 e.nn])) 134 143 true).run Tryz.prog w = .ok (.tuple #[.agg #[.int .i64 0, .int .i64 0], .bool false]) w := run_as_no Tryz.underlying143 (by kernel_rfl) (by decide) _
  have as_sl : ∀ w : World, (Instr.typeAssert (.iface 146 (.agg #[.int .i64 e.pi, .int .i64 e.nn])) 134 144 true).run Tryz.prog w = .ok (.tuple #[.agg #[.int .i64 0, .int .i64 0], .bool false]) w := run_as_no Tryz.underlying144 (by kernel_rfl) (by decide) _
  have as_pp : ∀ w : World, (Instr.typeAssert (.iface 146 (.agg #[.int .i64 e.pi, .int .i64 e.nn])) 134 146 true).run Tryz.prog w = .ok (.tuple #[(.agg #[.int .i64 e.pi, .int .i64 e.nn]), .bool true]) w := run_as_yes Tryz.underlying146 _
  go_enter Tryz.func94, Tryz.ntmps94
  go_wp2_with (first | (go_at_call 43; refine (isIdE_any _ _).mono ?_; rintro r w' ⟨rfl, rfl⟩) | (go_at_call 62; refine (isSide_any _ _).mono ?_; rintro r w' ⟨rfl, rfl⟩) | (go_at_call 75; refine (isAmount_any _ _).mono ?_; rintro r w' ⟨rfl, rfl⟩) | (go_at_call 97; refine (entryOk_any _ _ _ _ _).mono ?_; rintro r w' ⟨rfl, hbb⟩))
  all_goals go_ret
  all_goals refine ⟨ret_bool' ?_, ?_⟩
  all_goals first | exact (Below.refl _ w).alloc (Nat.le_refl _) _ | exact below_app ((Below.refl _ w).alloc (Nat.le_refl _) _) hbb (by simp) | (unfold ok_pp; simp_all)
set_option maxHeartbeats 4000000 in
theorem thingOf_pp (e : Ev) (hk : e.kd = 5) (w : World) : Calls Tryz.prog 93 #[(.agg #[.int .i64 e.kd, .int .i64 e.sr, .int .i64 e.pi, .int .i64 e.si, .int .i64 e.nn, .int .i64 e.zo, .bool e.be])] w fun r w' => r = .returned (.tuple #[(.iface 146 (.agg #[.int .i64 e.pi, .int .i64 e.nn])), .bool true]) ∧ Below w.heap.size w w' := by
  go_enter Tryz.func93, Tryz.ntmps93
  go_wp2
  go_ret2
  exact ⟨rfl, (Below.refl _ w).alloc (Nat.le_refl _) _⟩
def rt_pp (e : Ev) : Bool := smE (ev_pp e) e && ok_pp e
def rv_pp (e : Ev) : Value := if rt_pp e then (.iface 146 (.agg #[.int .i64 e.pi, .int .i64 e.nn])) else .nilIface
set_option maxHeartbeats 8000000 in
theorem right_pp (e : Ev) (hk : e.kd = 5) (w : World) : Calls Tryz.prog 91 #[(.agg #[.int .i64 e.kd, .int .i64 e.sr, .int .i64 e.pi, .int .i64 e.si, .int .i64 e.nn, .int .i64 e.zo, .bool e.be])] w fun r w' => r = .returned (.tuple #[rv_pp e, .bool (rt_pp e)]) ∧ Below w.heap.size w w' := by
  have HB := (Below.refl _ w).alloc (Nat.le_refl _) (.cells #[.int .i64 e.kd, .int .i64 e.sr, .int .i64 e.pi, .int .i64 e.si, .int .i64 e.nn, .int .i64 e.zo, .bool e.be] 102)
  have bx := boxE_new w 102 e
  generalize hW : w.alloc (.cells #[.int .i64 e.kd, .int .i64 e.sr, .int .i64 e.pi, .int .i64 e.si, .int .i64 e.nn, .int .i64 e.zo, .bool e.be] 102) = W at HB bx
  obtain ⟨k0, k1, k2, k3, k4, k5, k6⟩ : Cells7 _ _ _ := bx.cells
  have TH := thingOf_pp e hk
  have HT : Hid (∀ w : World, Calls Tryz.prog 93 #[(.agg #[.int .i64 e.kd, .int .i64 e.sr, .int .i64 e.pi, .int .i64 e.si, .int .i64 e.nn, .int .i64 e.zo, .bool e.be])] w fun r w' => r = .returned (.tuple #[(.iface 146 (.agg #[.int .i64 e.pi, .int .i64 e.nn])), .bool true]) ∧ Below w.heap.size w w') := TH
  clear TH hk
  have ME : ∀ v : World, (method 270 146 (.agg #[.int .i64 e.pi, .int .i64 e.nn]) "loop.example/g00486/impl.event").run Tryz.prog v = .ok (117, (.agg #[.int .i64 e.pi, .int .i64 e.nn])) v := fun v => by kernel_rfl
  have EQ := fun v : World => run_eq_ev (ev_pp e) e v
  have RT : Hid (rt_pp e = (smE (ev_pp e) e && ok_pp e)) := rfl
  obtain ⟨b, hb⟩ : ∃ b, b = smE (ev_pp e) e := ⟨_, rfl⟩
  rw [← hb] at EQ RT
  obtain ⟨b', hb'⟩ : ∃ b, b = ok_pp e := ⟨_, rfl⟩
  rw [← hb'] at RT
  clear hb
  have HO : Hid (b' = ok_pp e) := hb'
  clear hb'
  obtain ⟨E, hE⟩ : ∃ E, E = ev_pp e := ⟨_, rfl⟩
  rw [← hE] at EQ
  have HE : Hid (E = ev_pp e) := hE
  clear hE
  go_enter Tryz.func91, Tryz.ntmps91
  go_wp2_with fail
  refine (HT.out _).mono ?_
  rintro r w1 ⟨rfl, hb1⟩
  clear k0 k1 k2 k3 k4 k5 k6
  obtain ⟨k0, k1, k2, k3, k4, k5, k6⟩ : Cells7 _ _ _ := bx.cells7 hb1
  replace HB := below_app HB hb1 HB.size
  clear hb1
  have hne := bw_ne w1
  have c0 := fun x : BW w1 => x.cell k0
  have c1 := fun x : BW w1 => x.cell k1
  have c2 := fun x : BW w1 => x.cell k2
  have c3 := fun x : BW w1 => x.cell k3
  have c4 := fun x : BW w1 => x.cell k4
  have c5 := fun x : BW w1 => x.cell k5
  have c6 := fun x : BW w1 => x.cell k6
  clear k0 k1 k2 k3 k4 k5 k6 bx hW
  go_wp2_with fail
  refine wp_region_below_lit (W := w1) 13 (by kernel_rfl) (by kernel_rfl) (by decide) (Below.refl _ _) (by intro c d v a w h; cases d <;> exact h) ?_
  simp only [List.take_succ_cons, List.take_zero, List.drop_succ_cons, List.drop_zero]
  cases b <;> cases b'
  all_goals
    repeat (go_big_quiet_step (first | (go_at_call 117; refine quiet_below ((event_pp e _).mono fun r w' h => ⟨h.1.trans (by rw [← HE.out]), h.2⟩)) | (go_at_call 94; refine quiet_below ((thingOk_pp e _).mono fun r w' h => ⟨h.1.trans (by rw [← HO.out]), h.2⟩))))
    refine wpQuiet_nil ?_
    rintro _ ⟨x, rfl⟩
    clear c0 c1 c2 c3 c4 c5 c6
    go_wp2
    go_ret2
    refine ⟨?_, below_app HB x.h HB.size⟩
    unfold rv_pp
    rw [RT.out]
    rfl
def ev_pc (e : Ev) : Ev := ⟨6, 0, e.pi, -1, e.nn, 0, false⟩
def ok_pc (e : Ev) : Bool := ib e.pi 1 99 && ib e.nn 0 2147483647
set_option maxHeartbeats 2000000 in
theorem event_pc (e : Ev) (w : World) : Calls Tryz.prog 118 #[(.agg #[.int .i64 e.pi, .int .i64 e.nn])] w fun r w' => r = .returned (.agg #[.int .i64 (ev_pc e).kd, .int .i64 (ev_pc e).sr, .int .i64 (ev_pc e).pi, .int .i64 (ev_pc e).si, .int .i64 (ev_pc e).nn, .int .i64 (ev_pc e).zo, .bool (ev_pc e).be]) ∧ Below w.heap.size w w' := by
  go_enter Tryz.func118, Tryz.ntmps118
  go_wp2
  (try simp only [Exit.inBlock, Exit.then]); refine bodyPost_ret (results_cell_row rfl _ _ (w.heap.size + 1) _ _ _ _ rfl (heap_alloc2_new _ _ _) Tryz.underlying102 rfl (by kernel_rfl)) rfl ?_
  exact ⟨rfl, ((Below.refl _ w).alloc (Nat.le_refl _) _).alloc (by simp) _⟩
set_option maxHeartbeats 4000000 in
theorem thingOk_pc (e : Ev) (w : World) : Calls Tryz.prog 94 #[(.iface 147 (.agg #[.int .i64 e.pi, .int .i64 e.nn]))] w fun r w' => r = .returned (.bool (ok_pc e)) ∧ Below w.heap.size w w' := by
  have as_ph : ∀ w : World, (Instr.typeAssert (.iface 147 (.agg #[.int .i64 e.pi, .int .i64 e.nn])) 134 149 true).run Tryz.prog w = .ok (.tuple #[.agg #[.int .i64 0, .int .i64 0, .int .i64 0], .bool false]) w := run_as_no Tryz.underlying149 (by kernel_rfl) (by decide) _
  have as_sh : ∀ w : World, (Instr.typeAssert (.iface 147 (.agg #[.int .i64 e.pi, .int .i64 e.nn])) 134 151 true).run Tryz.prog w = .ok (.tuple #[.agg #[.int .i64 0, .int .i64 0, .int .i64 0], .bool false]) w := run_as_no Tryz.underlying151 (by kernel_rfl) (by decide) _
  have as_pm : ∀ w : World, (Instr.typeAssert (.iface 147 (.agg #[.int .i64 e.pi, .int .i64 e.nn])) 134 141 true).run Tryz.prog w = .ok (.tuple #[.agg #[.int .i64 0, .int .i64 0, .int .i64 0, .bool false], .bool false]) w := run_as_no Tryz.underlying141 (by kernel_rfl) (by decide) _
  have as_sg : ∀ w : World, (Instr.typeAssert (.iface 147 (.agg #[.int .i64 e.pi, .int .i64 e.nn])) 134 143 true).run Tryz.prog w = .ok (.tuple #[.agg #[.int .i64 0, .int .i64 0], .bool false]) w := run_as_no Tryz.underlying143 (by kernel_rfl) (by decide) _
  have as_sl : ∀ w : World, (Instr.typeAssert (.iface 147 (.agg #[.int .i64 e.pi, .int .i64 e.nn])) 134 144 true).run Tryz.prog w = .ok (.tuple #[.agg #[.int .i64 0, .int .i64 0], .bool false]) w := run_as_no Tryz.underlying144 (by kernel_rfl) (by decide) _
  have as_pp : ∀ w : World, (Instr.typeAssert (.iface 147 (.agg #[.int .i64 e.pi, .int .i64 e.nn])) 134 146 true).run Tryz.prog w = .ok (.tuple #[.agg #[.int .i64 0, .int .i64 0], .bool false]) w := run_as_no Tryz.underlying146 (by kernel_rfl) (by decide) _
  have as_pc : ∀ w : World, (Instr.typeAssert (.iface 147 (.agg #[.int .i64 e.pi, .int .i64 e.nn])) 134 147 true).run Tryz.prog w = .ok (.tuple #[(.agg #[.int .i64 e.pi, .int .i64 e.nn]), .bool true]) w := run_as_yes Tryz.underlying147 _
  go_enter Tryz.func94, Tryz.ntmps94
  go_wp2_with (first | (go_at_call 43; refine (isIdE_any _ _).mono ?_; rintro r w' ⟨rfl, rfl⟩) | (go_at_call 62; refine (isSide_any _ _).mono ?_; rintro r w' ⟨rfl, rfl⟩) | (go_at_call 75; refine (isAmount_any _ _).mono ?_; rintro r w' ⟨rfl, rfl⟩) | (go_at_call 97; refine (entryOk_any _ _ _ _ _).mono ?_; rintro r w' ⟨rfl, hbb⟩))
  all_goals go_ret
  all_goals refine ⟨ret_bool' ?_, ?_⟩
  all_goals first | exact (Below.refl _ w).alloc (Nat.le_refl _) _ | exact below_app ((Below.refl _ w).alloc (Nat.le_refl _) _) hbb (by simp) | (unfold ok_pc; simp_all)
set_option maxHeartbeats 4000000 in
theorem thingOf_pc (e : Ev) (hk : e.kd = 6) (w : World) : Calls Tryz.prog 93 #[(.agg #[.int .i64 e.kd, .int .i64 e.sr, .int .i64 e.pi, .int .i64 e.si, .int .i64 e.nn, .int .i64 e.zo, .bool e.be])] w fun r w' => r = .returned (.tuple #[(.iface 147 (.agg #[.int .i64 e.pi, .int .i64 e.nn])), .bool true]) ∧ Below w.heap.size w w' := by
  go_enter Tryz.func93, Tryz.ntmps93
  go_wp2
  go_ret2
  exact ⟨rfl, (Below.refl _ w).alloc (Nat.le_refl _) _⟩
def rt_pc (e : Ev) : Bool := smE (ev_pc e) e && ok_pc e
def rv_pc (e : Ev) : Value := if rt_pc e then (.iface 147 (.agg #[.int .i64 e.pi, .int .i64 e.nn])) else .nilIface
set_option maxHeartbeats 8000000 in
theorem right_pc (e : Ev) (hk : e.kd = 6) (w : World) : Calls Tryz.prog 91 #[(.agg #[.int .i64 e.kd, .int .i64 e.sr, .int .i64 e.pi, .int .i64 e.si, .int .i64 e.nn, .int .i64 e.zo, .bool e.be])] w fun r w' => r = .returned (.tuple #[rv_pc e, .bool (rt_pc e)]) ∧ Below w.heap.size w w' := by
  have HB := (Below.refl _ w).alloc (Nat.le_refl _) (.cells #[.int .i64 e.kd, .int .i64 e.sr, .int .i64 e.pi, .int .i64 e.si, .int .i64 e.nn, .int .i64 e.zo, .bool e.be] 102)
  have bx := boxE_new w 102 e
  generalize hW : w.alloc (.cells #[.int .i64 e.kd, .int .i64 e.sr, .int .i64 e.pi, .int .i64 e.si, .int .i64 e.nn, .int .i64 e.zo, .bool e.be] 102) = W at HB bx
  obtain ⟨k0, k1, k2, k3, k4, k5, k6⟩ : Cells7 _ _ _ := bx.cells
  have TH := thingOf_pc e hk
  have HT : Hid (∀ w : World, Calls Tryz.prog 93 #[(.agg #[.int .i64 e.kd, .int .i64 e.sr, .int .i64 e.pi, .int .i64 e.si, .int .i64 e.nn, .int .i64 e.zo, .bool e.be])] w fun r w' => r = .returned (.tuple #[(.iface 147 (.agg #[.int .i64 e.pi, .int .i64 e.nn])), .bool true]) ∧ Below w.heap.size w w') := TH
  clear TH hk
  have ME : ∀ v : World, (method 270 147 (.agg #[.int .i64 e.pi, .int .i64 e.nn]) "loop.example/g00486/impl.event").run Tryz.prog v = .ok (118, (.agg #[.int .i64 e.pi, .int .i64 e.nn])) v := fun v => by kernel_rfl
  have EQ := fun v : World => run_eq_ev (ev_pc e) e v
  have RT : Hid (rt_pc e = (smE (ev_pc e) e && ok_pc e)) := rfl
  obtain ⟨b, hb⟩ : ∃ b, b = smE (ev_pc e) e := ⟨_, rfl⟩
  rw [← hb] at EQ RT
  obtain ⟨b', hb'⟩ : ∃ b, b = ok_pc e := ⟨_, rfl⟩
  rw [← hb'] at RT
  clear hb
  have HO : Hid (b' = ok_pc e) := hb'
  clear hb'
  obtain ⟨E, hE⟩ : ∃ E, E = ev_pc e := ⟨_, rfl⟩
  rw [← hE] at EQ
  have HE : Hid (E = ev_pc e) := hE
  clear hE
  go_enter Tryz.func91, Tryz.ntmps91
  go_wp2_with fail
  refine (HT.out _).mono ?_
  rintro r w1 ⟨rfl, hb1⟩
  clear k0 k1 k2 k3 k4 k5 k6
  obtain ⟨k0, k1, k2, k3, k4, k5, k6⟩ : Cells7 _ _ _ := bx.cells7 hb1
  replace HB := below_app HB hb1 HB.size
  clear hb1
  have hne := bw_ne w1
  have c0 := fun x : BW w1 => x.cell k0
  have c1 := fun x : BW w1 => x.cell k1
  have c2 := fun x : BW w1 => x.cell k2
  have c3 := fun x : BW w1 => x.cell k3
  have c4 := fun x : BW w1 => x.cell k4
  have c5 := fun x : BW w1 => x.cell k5
  have c6 := fun x : BW w1 => x.cell k6
  clear k0 k1 k2 k3 k4 k5 k6 bx hW
  go_wp2_with fail
  refine wp_region_below_lit (W := w1) 13 (by kernel_rfl) (by kernel_rfl) (by decide) (Below.refl _ _) (by intro c d v a w h; cases d <;> exact h) ?_
  simp only [List.take_succ_cons, List.take_zero, List.drop_succ_cons, List.drop_zero]
  cases b <;> cases b'
  all_goals
    repeat (go_big_quiet_step (first | (go_at_call 118; refine quiet_below ((event_pc e _).mono fun r w' h => ⟨h.1.trans (by rw [← HE.out]), h.2⟩)) | (go_at_call 94; refine quiet_below ((thingOk_pc e _).mono fun r w' h => ⟨h.1.trans (by rw [← HO.out]), h.2⟩))))
    refine wpQuiet_nil ?_
    rintro _ ⟨x, rfl⟩
    clear c0 c1 c2 c3 c4 c5 c6
    go_wp2
    go_ret2
    refine ⟨?_, below_app HB x.h HB.size⟩
    unfold rv_pc
    rw [RT.out]
    rfl
end Go.Proofs.YtodfdfncdoliiauGreat
