/-
  Chapter 6: the program's things, going on. Written by tools/ev.gen.py. Chapter 6: the program's rightThing of any thing, EventOk. Written by tools/ev.gen.py. Own work.
-/
import Derived.Test.YtodfdfncdoliiadGreatGTbC5
import Derived.Test.YtodfdfncdoliiadGreatGTaB7
import Derived.Test.YtodfdfncdoliiadGreatGEvC12
namespace Go.Proofs.YtodfdfncdoliiadGreat
open Go.ChangeShapes Go.WideShapes Go.ChangeAt Go.RowKit
set_option maxRecDepth 100000
set_option linter.unusedVariables false
set_option linter.unusedSimpArgs false

def ev_sl (e : Ev) : Ev := ⟨4, 0, 0, e.si, e.nn, 0, false⟩
def ok_sl (e : Ev) : Bool := ib e.si 0 2 && ib e.nn 0 2147483647
set_option maxHeartbeats 2000000 in
theorem event_sl (e : Ev) (w : World) : Calls Tryz.prog 188 #[(.agg #[.int .i64 e.si, .int .i64 e.nn])] w fun r w' => r = .returned (.agg #[.int .i64 (ev_sl e).kd, .int .i64 (ev_sl e).sr, .int .i64 (ev_sl e).pi, .int .i64 (ev_sl e).si, .int .i64 (ev_sl e).nn, .int .i64 (ev_sl e).zo, .bool (ev_sl e).be]) ∧ Below w.heap.size w w' := by
  go_enter Tryz.func188, Tryz.ntmps188
  go_wp2
  (try simp only [Exit.inBlock, Exit.then]); refine bodyPost_ret (results_cell_row rfl _ _ (w.heap.size + 1) _ _ _ _ rfl (heap_alloc2_new _ _ _) Tryz.underlying39 rfl (by kernel_rfl)) rfl ?_
  exact ⟨rfl, ((Below.refl _ w).alloc (Nat.le_refl _) _).alloc (by simp) _⟩
set_option maxHeartbeats 4000000 in
theorem thingOk_sl (e : Ev) (w : World) : Calls Tryz.prog 145 #[(.iface 176 (.agg #[.int .i64 e.si, .int .i64 e.nn]))] w fun r w' => r = .returned (.bool (ok_sl e)) ∧ Below w.heap.size w w' := by
  have as_ph : ∀ w : World, (Instr.typeAssert (.iface 176 (.agg #[.int .i64 e.si, .int .i64 e.nn])) 150 181 true).run Tryz.prog w = .ok (.tuple #[.agg #[.int .i64 0, .int .i64 0, .int .i64 0], .bool false]) w := run_as_no Tryz.underlying181 (by kernel_rfl) (by decide) _
  have as_sh : ∀ w : World, (Instr.typeAssert (.iface 176 (.agg #[.int .i64 e.si, .int .i64 e.nn])) 150 183 true).run Tryz.prog w = .ok (.tuple #[.agg #[.int .i64 0, .int .i64 0, .int .i64 0], .bool false]) w := run_as_no Tryz.underlying183 (by kernel_rfl) (by decide) _
  have as_pm : ∀ w : World, (Instr.typeAssert (.iface 176 (.agg #[.int .i64 e.si, .int .i64 e.nn])) 150 173 true).run Tryz.prog w = .ok (.tuple #[.agg #[.int .i64 0, .int .i64 0, .int .i64 0, .bool false], .bool false]) w := run_as_no Tryz.underlying173 (by kernel_rfl) (by decide) _
  have as_sg : ∀ w : World, (Instr.typeAssert (.iface 176 (.agg #[.int .i64 e.si, .int .i64 e.nn])) 150 175 true).run Tryz.prog w = .ok (.tuple #[.agg #[.int .i64 0, .int .i64 0], .bool false]) w := run_as_no Tryz.underlying175 (by kernel_rfl) (by decide) _
  have as_sl : ∀ w : World, (Instr.typeAssert (.iface 176 (.agg #[.int .i64 e.si, .int .i64 e.nn])) 150 176 true).run Tryz.prog w = .ok (.tuple #[(.agg #[.int .i64 e.si, .int .i64 e.nn]), .bool true]) w := run_as_yes Tryz.underlying176 _
  go_enter Tryz.func145, Tryz.ntmps145
  go_wp2_with (first | (go_at_call 57; refine (isIdE_any _ _).mono ?_; rintro r w' ⟨rfl, rfl⟩) | (go_at_call 105; refine (isSide_any _ _).mono ?_; rintro r w' ⟨rfl, rfl⟩) | (go_at_call 119; refine (isAmount_any _ _).mono ?_; rintro r w' ⟨rfl, rfl⟩) | (go_at_call 163; refine (entryOk_any _ _ _ _ _).mono ?_; rintro r w' ⟨rfl, hbb⟩))
  all_goals go_ret
  all_goals refine ⟨ret_bool' ?_, ?_⟩
  all_goals first | exact (Below.refl _ w).alloc (Nat.le_refl _) _ | exact below_app ((Below.refl _ w).alloc (Nat.le_refl _) _) hbb (by simp) | (unfold ok_sl; simp_all)
set_option maxHeartbeats 4000000 in
theorem thingOf_sl (e : Ev) (hk : e.kd = 4) (w : World) : Calls Tryz.prog 144 #[(.agg #[.int .i64 e.kd, .int .i64 e.sr, .int .i64 e.pi, .int .i64 e.si, .int .i64 e.nn, .int .i64 e.zo, .bool e.be])] w fun r w' => r = .returned (.tuple #[(.iface 176 (.agg #[.int .i64 e.si, .int .i64 e.nn])), .bool true]) ∧ Below w.heap.size w w' := by
  go_enter Tryz.func144, Tryz.ntmps144
  go_wp2
  go_ret2
  exact ⟨rfl, (Below.refl _ w).alloc (Nat.le_refl _) _⟩
def rt_sl (e : Ev) : Bool := smE (ev_sl e) e && ok_sl e
def rv_sl (e : Ev) : Value := if rt_sl e then (.iface 176 (.agg #[.int .i64 e.si, .int .i64 e.nn])) else .nilIface
set_option maxHeartbeats 8000000 in
theorem right_sl (e : Ev) (hk : e.kd = 4) (w : World) : Calls Tryz.prog 120 #[(.agg #[.int .i64 e.kd, .int .i64 e.sr, .int .i64 e.pi, .int .i64 e.si, .int .i64 e.nn, .int .i64 e.zo, .bool e.be])] w fun r w' => r = .returned (.tuple #[rv_sl e, .bool (rt_sl e)]) ∧ Below w.heap.size w w' := by
  have HB := (Below.refl _ w).alloc (Nat.le_refl _) (.cells #[.int .i64 e.kd, .int .i64 e.sr, .int .i64 e.pi, .int .i64 e.si, .int .i64 e.nn, .int .i64 e.zo, .bool e.be] 39)
  have bx := boxE_new w 39 e
  generalize hW : w.alloc (.cells #[.int .i64 e.kd, .int .i64 e.sr, .int .i64 e.pi, .int .i64 e.si, .int .i64 e.nn, .int .i64 e.zo, .bool e.be] 39) = W at HB bx
  obtain ⟨k0, k1, k2, k3, k4, k5, k6⟩ : Cells7 _ _ _ := bx.cells
  have TH := thingOf_sl e hk
  have HT : Hid (∀ w : World, Calls Tryz.prog 144 #[(.agg #[.int .i64 e.kd, .int .i64 e.sr, .int .i64 e.pi, .int .i64 e.si, .int .i64 e.nn, .int .i64 e.zo, .bool e.be])] w fun r w' => r = .returned (.tuple #[(.iface 176 (.agg #[.int .i64 e.si, .int .i64 e.nn])), .bool true]) ∧ Below w.heap.size w w') := TH
  clear TH hk
  have ME : ∀ v : World, (method 306 176 (.agg #[.int .i64 e.si, .int .i64 e.nn]) "loop.example/g00486/impl.event").run Tryz.prog v = .ok (188, (.agg #[.int .i64 e.si, .int .i64 e.nn])) v := fun v => by kernel_rfl
  have EQ := fun v : World => run_eq_ev (ev_sl e) e v
  have RT : Hid (rt_sl e = (smE (ev_sl e) e && ok_sl e)) := rfl
  obtain ⟨b, hb⟩ : ∃ b, b = smE (ev_sl e) e := ⟨_, rfl⟩
  rw [← hb] at EQ RT
  obtain ⟨b', hb'⟩ : ∃ b, b = ok_sl e := ⟨_, rfl⟩
  rw [← hb'] at RT
  clear hb
  have HO : Hid (b' = ok_sl e) := hb'
  clear hb'
  obtain ⟨E, hE⟩ : ∃ E, E = ev_sl e := ⟨_, rfl⟩
  rw [← hE] at EQ
  have HE : Hid (E = ev_sl e) := hE
  clear hE
  go_enter Tryz.func120, Tryz.ntmps120
  go_wp2_with fail
  refine (HT.out _).mono ?_
  rintro r w1 ⟨rfl, hb1⟩
  clear k0 k1 k2 k3 k4 k5 k6
  obtain ⟨k0, k1, k2, k3, k4, k5, k6⟩ : Cells7 _ _ _ := bx.cells7 hb1
  replace HB := below_app HB hb1 HB.size
  clear hb1
  have hne := bw_ne w1
  have c0 := fun x : BW w1 => x.cell k0
  have c1 := fun x : BW w1 => x.cell k1
  have c2 := fun x : BW w1 => x.cell k2
  have c3 := fun x : BW w1 => x.cell k3
  have c4 := fun x : BW w1 => x.cell k4
  have c5 := fun x : BW w1 => x.cell k5
  have c6 := fun x : BW w1 => x.cell k6
  clear k0 k1 k2 k3 k4 k5 k6 bx hW
  go_wp2_with fail
  refine wp_region_below_lit (W := w1) 13 (by kernel_rfl) (by kernel_rfl) (by decide) (Below.refl _ _) (by intro c d v a w h; cases d <;> exact h) ?_
  simp only [List.take_succ_cons, List.take_zero, List.drop_succ_cons, List.drop_zero]
  cases b <;> cases b'
  all_goals
    repeat (go_big_quiet_step (first | (go_at_call 188; refine quiet_below ((event_sl e _).mono fun r w' h => ⟨h.1.trans (by rw [← HE.out]), h.2⟩)) | (go_at_call 145; refine quiet_below ((thingOk_sl e _).mono fun r w' h => ⟨h.1.trans (by rw [← HO.out]), h.2⟩))))
    refine wpQuiet_nil ?_
    rintro _ ⟨x, rfl⟩
    clear c0 c1 c2 c3 c4 c5 c6
    go_wp2
    go_ret2
    refine ⟨?_, below_app HB x.h HB.size⟩
    unfold rv_sl
    rw [RT.out]
    rfl
def ev_pp (e : Ev) : Ev := ⟨5, 0, e.pi, -1, e.nn, 0, false⟩
def ok_pp (e : Ev) : Bool := ib e.pi 1 99 && ib e.nn 0 2147483647
set_option maxHeartbeats 2000000 in
theorem event_pp (e : Ev) (w : World) : Calls Tryz.prog 189 #[(.agg #[.int .i64 e.pi, .int .i64 e.nn])] w fun r w' => r = .returned (.agg #[.int .i64 (ev_pp e).kd, .int .i64 (ev_pp e).sr, .int .i64 (ev_pp e).pi, .int .i64 (ev_pp e).si, .int .i64 (ev_pp e).nn, .int .i64 (ev_pp e).zo, .bool (ev_pp e).be]) ∧ Below w.heap.size w w' := by
  go_enter Tryz.func189, Tryz.ntmps189
  go_wp2
  (try simp only [Exit.inBlock, Exit.then]); refine bodyPost_ret (results_cell_row rfl _ _ (w.heap.size + 1) _ _ _ _ rfl (heap_alloc2_new _ _ _) Tryz.underlying39 rfl (by kernel_rfl)) rfl ?_
  exact ⟨rfl, ((Below.refl _ w).alloc (Nat.le_refl _) _).alloc (by simp) _⟩
set_option maxHeartbeats 4000000 in
theorem thingOk_pp (e : Ev) (w : World) : Calls Tryz.prog 145 #[(.iface 178 (.agg #[.int .i64 e.pi, .int .i64 e.nn]))] w fun r w' => r = .returned (.bool (ok_pp e)) ∧ Below w.heap.size w w' := by
  have as_ph : ∀ w : World, (Instr.typeAssert (.iface 178 (.agg #[.int .i64 e.pi, .int .i64 e.nn])) 150 181 true).run Tryz.prog w = .ok (.tuple #[.agg #[.int .i64 0, .int .i64 0, .int .i64 0], .bool false]) w := run_as_no Tryz.underlying181 (by kernel_rfl) (by decide) _
  have as_sh : ∀ w : World, (Instr.typeAssert (.iface 178 (.agg #[.int .i64 e.pi, .int .i64 e.nn])) 150 183 true).run Tryz.prog w = .ok (.tuple #[.agg #[.int .i64 0, .int .i64 0, .int .i64 0], .bool false]) w := run_as_no Tryz.underlying183 (by kernel_rfl) (by decide) _
  have as_pm : ∀ w : World, (Instr.typeAssert (.iface 178 (.agg #[.int .i64 e.pi, .int .i64 e.nn])) 150 173 true).run Tryz.prog w = .ok (.tuple #[.agg #[.int .i64 0, .int .i64 0, .int .i64 0, .bool false], .bool false]) w := run_as_no Tryz.underlying173 (by kernel_rfl) (by decide) _
  have as_sg : ∀ w : World, (Instr.typeAssert (.iface 178 (.agg #[.int .i64 e.pi, .int .i64 e.nn])) 150 175 true).run Tryz.prog w = .ok (.tuple #[.agg #[.int .i64 0, .int .i64 0], .bool false]) w := run_as_no Tryz.underlying175 (by kernel_rfl) (by decide) _
  have as_sl : ∀ w : World, (Instr.typeAssert (.iface 178 (.agg #[.int .i64 e.pi, .int .i64 e.nn])) 150 176 true).run Tryz.prog w = .ok (.tuple #[.agg #[.int .i64 0, .int .i64 0], .bool false]) w := run_as_no Tryz.underlying176 (by kernel_rfl) (by decide) _
  have as_pp : ∀ w : World, (Instr.typeAssert (.iface 178 (.agg #[.int .i64 e.pi, .int .i64 e.nn])) 150 178 true).run Tryz.prog w = .ok (.tuple #[(.agg #[.int .i64 e.pi, .int .i64 e.nn]), .bool true]) w := run_as_yes Tryz.underlying178 _
  go_enter Tryz.func145, Tryz.ntmps145
  go_wp2_with (first | (go_at_call 57; refine (isIdE_any _ _).mono ?_; rintro r w' ⟨rfl, rfl⟩) | (go_at_call 105; refine (isSide_any _ _).mono ?_; rintro r w' ⟨rfl, rfl⟩) | (go_at_call 119; refine (isAmount_any _ _).mono ?_; rintro r w' ⟨rfl, rfl⟩) | (go_at_call 163; refine (entryOk_any _ _ _ _ _).mono ?_; rintro r w' ⟨rfl, hbb⟩))
  all_goals go_ret
  all_goals refine ⟨ret_bool' ?_, ?_⟩
  all_goals first | exact (Below.refl _ w).alloc (Nat.le_refl _) _ | exact below_app ((Below.refl _ w).alloc (Nat.le_refl _) _) hbb (by simp) | (unfold ok_pp; simp_all)
set_option maxHeartbeats 4000000 in
theorem thingOf_pp (e : Ev) (hk : e.kd = 5) (w : World) : Calls Tryz.prog 144 #[(.agg #[.int .i64 e.kd, .int .i64 e.sr, .int .i64 e.pi, .int .i64 e.si, .int .i64 e.nn, .int .i64 e.zo, .bool e.be])] w fun r w' => r = .returned (.tuple #[(.iface 178 (.agg #[.int .i64 e.pi, .int .i64 e.nn])), .bool true]) ∧ Below w.heap.size w w' := by
  go_enter Tryz.func144, Tryz.ntmps144
  go_wp2
  go_ret2
  exact ⟨rfl, (Below.refl _ w).alloc (Nat.le_refl _) _⟩
def rt_pp (e : Ev) : Bool := smE (ev_pp e) e && ok_pp e
def rv_pp (e : Ev) : Value := if rt_pp e then (.iface 178 (.agg #[.int .i64 e.pi, .int .i64 e.nn])) else .nilIface
set_option maxHeartbeats 8000000 in
theorem right_pp (e : Ev) (hk : e.kd = 5) (w : World) : Calls Tryz.prog 120 #[(.agg #[.int .i64 e.kd, .int .i64 e.sr, .int .i64 e.pi, .int .i64 e.si, .int .i64 e.nn, .int .i64 e.zo, .bool e.be])] w fun r w' => r = .returned (.tuple #[rv_pp e, .bool (rt_pp e)]) ∧ Below w.heap.size w w' := by
  have HB := (Below.refl _ w).alloc (Nat.le_refl _) (.cells #[.int .i64 e.kd, .int .i64 e.sr, .int .i64 e.pi, .int .i64 e.si, .int .i64 e.nn, .int .i64 e.zo, .bool e.be] 39)
  have bx := boxE_new w 39 e
  generalize hW : w.alloc (.cells #[.int .i64 e.kd, .int .i64 e.sr, .int .i64 e.pi, .int .i64 e.si, .int .i64 e.nn, .int .i64 e.zo, .bool e.be] 39) = W at HB bx
  obtain ⟨k0, k1, k2, k3, k4, k5, k6⟩ : Cells7 _ _ _ := bx.cells
  have TH := thingOf_pp e hk
  have HT : Hid (∀ w : World, Calls Tryz.prog 144 #[(.agg #[.int .i64 e.kd, .int .i64 e.sr, .int .i64 e.pi, .int .i64 e.si, .int .i64 e.nn, .int .i64 e.zo, .bool e.be])] w fun r w' => r = .returned (.tuple #[(.iface 178 (.agg #[.int .i64 e.pi, .int .i64 e.nn])), .bool true]) ∧ Below w.heap.size w w') := TH
  clear TH hk
  have ME : ∀ v : World, (method 306 178 (.agg #[.int .i64 e.pi, .int .i64 e.nn]) "loop.example/g00486/impl.event").run Tryz.prog v = .ok (189, (.agg #[.int .i64 e.pi, .int .i64 e.nn])) v := fun v => by kernel_rfl
  have EQ := fun v : World => run_eq_ev (ev_pp e) e v
  have RT : Hid (rt_pp e = (smE (ev_pp e) e && ok_pp e)) := rfl
  obtain ⟨b, hb⟩ : ∃ b, b = smE (ev_pp e) e := ⟨_, rfl⟩
  rw [← hb] at EQ RT
  obtain ⟨b', hb'⟩ : ∃ b, b = ok_pp e := ⟨_, rfl⟩
  rw [← hb'] at RT
  clear hb
  have HO : Hid (b' = ok_pp e) := hb'
  clear hb'
  obtain ⟨E, hE⟩ : ∃ E, E = ev_pp e := ⟨_, rfl⟩
  rw [← hE] at EQ
  have HE : Hid (E = ev_pp e) := hE
  clear hE
  go_enter Tryz.func120, Tryz.ntmps120
  go_wp2_with fail
  refine (HT.out _).mono ?_
  rintro r w1 ⟨rfl, hb1⟩
  clear k0 k1 k2 k3 k4 k5 k6
  obtain ⟨k0, k1, k2, k3, k4, k5, k6⟩ : Cells7 _ _ _ := bx.cells7 hb1
  replace HB := below_app HB hb1 HB.size
  clear hb1
  have hne := bw_ne w1
  have c0 := fun x : BW w1 => x.cell k0
  have c1 := fun x : BW w1 => x.cell k1
  have c2 := fun x : BW w1 => x.cell k2
  have c3 := fun x : BW w1 => x.cell k3
  have c4 := fun x : BW w1 => x.cell k4
  have c5 := fun x : BW w1 => x.cell k5
  have c6 := fun x : BW w1 => x.cell k6
  clear k0 k1 k2 k3 k4 k5 k6 bx hW
  go_wp2_with fail
  refine wp_region_below_lit (W := w1) 13 (by kernel_rfl) (by kernel_rfl) (by decide) (Below.refl _ _) (by intro c d v a w h; cases d <;> exact h) ?_
  simp only [List.take_succ_cons, List.take_zero, List.drop_succ_cons, List.drop_zero]
  cases b <;> cases b'
  all_goals
    repeat (go_big_quiet_step (first | (go_at_call 189; refine quiet_below ((event_pp e _).mono fun r w' h => ⟨h.1.trans (by rw [← HE.out]), h.2⟩)) | (go_at_call 145; refine quiet_below ((thingOk_pp e _).mono fun r w' h => ⟨h.1.trans (by rw [← HO.out]), h.2⟩))))
    refine wpQuiet_nil ?_
    rintro _ ⟨x, rfl⟩
    clear c0 c1 c2 c3 c4 c5 c6
    go_wp2
    go_ret2
    refine ⟨?_, below_app HB x.h HB.size⟩
    unfold rv_pp
    rw [RT.out]
    rfl
def ev_pc (e : Ev) : Ev := ⟨6, 0, e.pi, -1, e.nn, 0, false⟩
def ok_pc (e : Ev) : Bool := ib e.pi 1 99 && ib e.nn 0 2147483647
set_option maxHeartbeats 2000000 in
theorem event_pc (e : Ev) (w : World) : Calls Tryz.prog 190 #[(.agg #[.int .i64 e.pi, .int .i64 e.nn])] w fun r w' => r = .returned (.agg #[.int .i64 (ev_pc e).kd, .int .i64 (ev_pc e).sr, .int .i64 (ev_pc e).pi, .int .i64 (ev_pc e).si, .int .i64 (ev_pc e).nn, .int .i64 (ev_pc e).zo, .bool (ev_pc e).be]) ∧ Below w.heap.size w w' := by
  go_enter Tryz.func190, Tryz.ntmps190
  go_wp2
  (try simp only [Exit.inBlock, Exit.then]); refine bodyPost_ret (results_cell_row rfl _ _ (w.heap.size + 1) _ _ _ _ rfl (heap_alloc2_new _ _ _) Tryz.underlying39 rfl (by kernel_rfl)) rfl ?_
  exact ⟨rfl, ((Below.refl _ w).alloc (Nat.le_refl _) _).alloc (by simp) _⟩
set_option maxHeartbeats 4000000 in
theorem thingOk_pc (e : Ev) (w : World) : Calls Tryz.prog 145 #[(.iface 179 (.agg #[.int .i64 e.pi, .int .i64 e.nn]))] w fun r w' => r = .returned (.bool (ok_pc e)) ∧ Below w.heap.size w w' := by
  have as_ph : ∀ w : World, (Instr.typeAssert (.iface 179 (.agg #[.int .i64 e.pi, .int .i64 e.nn])) 150 181 true).run Tryz.prog w = .ok (.tuple #[.agg #[.int .i64 0, .int .i64 0, .int .i64 0], .bool false]) w := run_as_no Tryz.underlying181 (by kernel_rfl) (by decide) _
  have as_sh : ∀ w : World, (Instr.typeAssert (.iface 179 (.agg #[.int .i64 e.pi, .int .i64 e.nn])) 150 183 true).run Tryz.prog w = .ok (.tuple #[.agg #[.int .i64 0, .int .i64 0, .int .i64 0], .bool false]) w := run_as_no Tryz.underlying183 (by kernel_rfl) (by decide) _
  have as_pm : ∀ w : World, (Instr.typeAssert (.iface 179 (.agg #[.int .i64 e.pi, .int .i64 e.nn])) 150 173 true).run Tryz.prog w = .ok (.tuple #[.agg #[.int .i64 0, .int .i64 0, .int .i64 0, .bool false], .bool false]) w := run_as_no Tryz.underlying173 (by kernel_rfl) (by decide) _
  have as_sg : ∀ w : World, (Instr.typeAssert (.iface 179 (.agg #[.int .i64 e.pi, .int .i64 e.nn])) 150 175 true).run Tryz.prog w = .ok (.tuple #[.agg #[.int .i64 0, .int .i64 0], .bool false]) w := run_as_no Tryz.underlying175 (by kernel_rfl) (by decide) _
  have as_sl : ∀ w : World, (Instr.typeAssert (.iface 179 (.agg #[.int .i64 e.pi, .int .i64 e.nn])) 150 176 true).run Tryz.prog w = .ok (.tuple #[.agg #[.int .i64 0, .int .i64 0], .bool false]) w := run_as_no Tryz.underlying176 (by kernel_rfl) (by decide) _
  have as_pp : ∀ w : World, (Instr.typeAssert (.iface 179 (.agg #[.int .i64 e.pi, .int .i64 e.nn])) 150 178 true).run Tryz.prog w = .ok (.tuple #[.agg #[.int .i64 0, .int .i64 0], .bool false]) w := run_as_no Tryz.underlying178 (by kernel_rfl) (by decide) _
  have as_pc : ∀ w : World, (Instr.typeAssert (.iface 179 (.agg #[.int .i64 e.pi, .int .i64 e.nn])) 150 179 true).run Tryz.prog w = .ok (.tuple #[(.agg #[.int .i64 e.pi, .int .i64 e.nn]), .bool true]) w := run_as_yes Tryz.underlying179 _
  go_enter Tryz.func145, Tryz.ntmps145
  go_wp2_with (first | (go_at_call 57; refine (isIdE_any _ _).mono ?_; rintro r w' ⟨rfl, rfl⟩) | (go_at_call 105; refine (isSide_any _ _).mono ?_; rintro r w' ⟨rfl, rfl⟩) | (go_at_call 119; refine (isAmount_any _ _).mono ?_; rintro r w' ⟨rfl, rfl⟩) | (go_at_call 163; refine (entryOk_any _ _ _ _ _).mono ?_; rintro r w' ⟨rfl, hbb⟩))
  all_goals go_ret
  all_goals refine ⟨ret_bool' ?_, ?_⟩
  all_goals first | exact (Below.refl _ w).alloc (Nat.le_refl _) _ | exact below_app ((Below.refl _ w).alloc (Nat.le_refl _) _) hbb (by simp) | (unfold ok_pc; simp_all)
set_option maxHeartbeats 4000000 in
theorem thingOf_pc (e : Ev) (hk : e.kd = 6) (w : World) : Calls Tryz.prog 144 #[(.agg #[.int .i64 e.kd, .int .i64 e.sr, .int .i64 e.pi, .int .i64 e.si, .int .i64 e.nn, .int .i64 e.zo, .bool e.be])] w fun r w' => r = .returned (.tuple #[(.iface 179 (.agg #[.int .i64 e.pi, .int .i64 e.nn])), .bool true]) ∧ Below w.heap.size w w' := by
  go_enter Tryz.func144, Tryz.ntmps144
  go_wp2
  go_ret2
  exact ⟨rfl, (Below.refl _ w).alloc (Nat.le_refl _) _⟩
def rt_pc (e : Ev) : Bool := smE (ev_pc e) e && ok_pc e
def rv_pc (e : Ev) : Value := if rt_pc e then (.iface 179 (.agg #[.int .i64 e.pi, .int .i64 e.nn])) else .nilIface
set_option maxHeartbeats 8000000 in
theorem right_pc (e : Ev) (hk : e.kd = 6) (w : World) : Calls Tryz.prog 120 #[(.agg #[.int .i64 e.kd, .int .i64 e.sr, .int .i64 e.pi, .int .i64 e.si, .int .i64 e.nn, .int .i64 e.zo, .bool e.be])] w fun r w' => r = .returned (.tuple #[rv_pc e, .bool (rt_pc e)]) ∧ Below w.heap.size w w' := by
  have HB := (Below.refl _ w).alloc (Nat.le_refl _) (.cells #[.int .i64 e.kd, .int .i64 e.sr, .int .i64 e.pi, .int .i64 e.si, .int .i64 e.nn, .int .i64 e.zo, .bool e.be] 39)
  have bx := boxE_new w 39 e
  generalize hW : w.alloc (.cells #[.int .i64 e.kd, .int .i64 e.sr, .int .i64 e.pi, .int .i64 e.si, .int .i64 e.nn, .int .i64 e.zo, .bool e.be] 39) = W at HB bx
  obtain ⟨k0, k1, k2, k3, k4, k5, k6⟩ : Cells7 _ _ _ := bx.cells
  have TH := thingOf_pc e hk
  have HT : Hid (∀ w : World, Calls Tryz.prog 144 #[(.agg #[.int .i64 e.kd, .int .i64 e.sr, .int .i64 e.pi, .int .i64 e.si, .int .i64 e.nn, .int .i64 e.zo, .bool e.be])] w fun r w' => r = .returned (.tuple #[(.iface 179 (.agg #[.int .i64 e.pi, .int .i64 e.nn])), .bool true]) ∧ Below w.heap.size w w') := TH
  clear TH hk
  have ME : ∀ v : World, (method 306 179 (.agg #[.int .i64 e.pi, .int .i64 e.nn]) "loop.example/g00486/impl.event").run Tryz.prog v = .ok (190, (.agg #[.int .i64 e.pi, .int .i64 e.nn])) v := fun v => by kernel_rfl
  have EQ := fun v : World => run_eq_ev (ev_pc e) e v
  have RT : Hid (rt_pc e = (smE (ev_pc e) e && ok_pc e)) := rfl
  obtain ⟨b, hb⟩ : ∃ b, b = smE (ev_pc e) e := ⟨_, rfl⟩
  rw [← hb] at EQ RT
  obtain ⟨b', hb'⟩ : ∃ b, b = ok_pc e := ⟨_, rfl⟩
  rw [← hb'] at RT
  clear hb
  have HO : Hid (b' = ok_pc e) := hb'
  clear hb'
  obtain ⟨E, hE⟩ : ∃ E, E = ev_pc e := ⟨_, rfl⟩
  rw [← hE] at EQ
  have HE : Hid (E = ev_pc e) := hE
  clear hE
  go_enter Tryz.func120, Tryz.ntmps120
  go_wp2_with fail
  refine (HT.out _).mono ?_
  rintro r w1 ⟨rfl, hb1⟩
  clear k0 k1 k2 k3 k4 k5 k6
  obtain ⟨k0, k1, k2, k3, k4, k5, k6⟩ : Cells7 _ _ _ := bx.cells7 hb1
  replace HB := below_app HB hb1 HB.size
  clear hb1
  have hne := bw_ne w1
  have c0 := fun x : BW w1 => x.cell k0
  have c1 := fun x : BW w1 => x.cell k1
  have c2 := fun x : BW w1 => x.cell k2
  have c3 := fun x : BW w1 => x.cell k3
  have c4 := fun x : BW w1 => x.cell k4
  have c5 := fun x : BW w1 => x.cell k5
  have c6 := fun x : BW w1 => x.cell k6
  clear k0 k1 k2 k3 k4 k5 k6 bx hW
  go_wp2_with fail
  refine wp_region_below_lit (W := w1) 13 (by kernel_rfl) (by kernel_rfl) (by decide) (Below.refl _ _) (by intro c d v a w h; cases d <;> exact h) ?_
  simp only [List.take_succ_cons, List.take_zero, List.drop_succ_cons, List.drop_zero]
  cases b <;> cases b'
  all_goals
    repeat (go_big_quiet_step (first | (go_at_call 190; refine quiet_below ((event_pc e _).mono fun r w' h => ⟨h.1.trans (by rw [← HE.out]), h.2⟩)) | (go_at_call 145; refine quiet_below ((thingOk_pc e _).mono fun r w' h => ⟨h.1.trans (by rw [← HO.out]), h.2⟩))))
    refine wpQuiet_nil ?_
    rintro _ ⟨x, rfl⟩
    clear c0 c1 c2 c3 c4 c5 c6
    go_wp2
    go_ret2
    refine ⟨?_, below_app HB x.h HB.size⟩
    unfold rv_pc
    rw [RT.out]
    rfl
end Go.Proofs.YtodfdfncdoliiadGreat
namespace Go.Proofs.YtodfdfncdoliiadGreat
open Go.ChangeShapes Go.WideShapes Go.ChangeAt Go.RowKit
set_option maxRecDepth 100000
set_option linter.unusedVariables false
set_option linter.unusedSimpArgs false

theorem rt_ph_ok (e : Ev) (hk : e.kd = 1) (hp : ¬ e.pi = 0) : rt_ph e = okE e := by
  obtain ⟨kd, sr, pi, si, nn, zo, be⟩ := e
  simp only at hk hp
  subst hk
  unfold rt_ph
  rw [Bool.eq_iff_iff]
  dsimp only [smE, ev_ph, ok_ph, okE, ok1, pcE, sdE, ib, enE]
  cases be <;> simp <;> omega
set_option maxHeartbeats 4000000 in
theorem eoki_ph (e : Ev) (hk : e.kd = 1) (hp : ¬ e.pi = 0) (w : World) : Calls Tryz.prog 72 #[(.agg #[.int .i64 e.kd, .int .i64 e.sr, .int .i64 e.pi, .int .i64 e.si, .int .i64 e.nn, .int .i64 e.zo, .bool e.be])] w fun r w' => r = .returned (.bool (okE e)) ∧ Below w.heap.size w w' := by
  rw [← rt_ph_ok e hk hp]
  have HT : Hid (∀ w : World, Calls Tryz.prog 120 #[(.agg #[.int .i64 e.kd, .int .i64 e.sr, .int .i64 e.pi, .int .i64 e.si, .int .i64 e.nn, .int .i64 e.zo, .bool e.be])] w fun r w' => r = .returned (.tuple #[rv_ph e, .bool (rt_ph e)]) ∧ Below w.heap.size w w') := right_ph e hk hp
  clear hk hp
  have HB := (Below.refl _ w).alloc (Nat.le_refl _) (.cells #[.int .i64 e.kd, .int .i64 e.sr, .int .i64 e.pi, .int .i64 e.si, .int .i64 e.nn, .int .i64 e.zo, .bool e.be] 39)
  go_enter Tryz.func72, Tryz.ntmps72
  go_wp2_with fail
  refine (HT.out _).mono ?_
  rintro r w1 ⟨rfl, hb1⟩
  go_wp2
  go_ret
  exact ⟨rfl, below_app HB hb1 HB.size⟩
theorem rt_sh_ok (e : Ev) (hk : e.kd = 1) (hp : e.pi = 0) : rt_sh e = okE e := by
  obtain ⟨kd, sr, pi, si, nn, zo, be⟩ := e
  simp only at hk hp
  subst hk
  unfold rt_sh
  rw [Bool.eq_iff_iff]
  dsimp only [smE, ev_sh, ok_sh, okE, ok1, pcE, sdE, ib, enE]
  cases be <;> simp <;> omega
set_option maxHeartbeats 4000000 in
theorem eoki_sh (e : Ev) (hk : e.kd = 1) (hp : e.pi = 0) (w : World) : Calls Tryz.prog 72 #[(.agg #[.int .i64 e.kd, .int .i64 e.sr, .int .i64 e.pi, .int .i64 e.si, .int .i64 e.nn, .int .i64 e.zo, .bool e.be])] w fun r w' => r = .returned (.bool (okE e)) ∧ Below w.heap.size w w' := by
  rw [← rt_sh_ok e hk hp]
  have HT : Hid (∀ w : World, Calls Tryz.prog 120 #[(.agg #[.int .i64 e.kd, .int .i64 e.sr, .int .i64 e.pi, .int .i64 e.si, .int .i64 e.nn, .int .i64 e.zo, .bool e.be])] w fun r w' => r = .returned (.tuple #[rv_sh e, .bool (rt_sh e)]) ∧ Below w.heap.size w w') := right_sh e hk hp
  clear hk hp
  have HB := (Below.refl _ w).alloc (Nat.le_refl _) (.cells #[.int .i64 e.kd, .int .i64 e.sr, .int .i64 e.pi, .int .i64 e.si, .int .i64 e.nn, .int .i64 e.zo, .bool e.be] 39)
  go_enter Tryz.func72, Tryz.ntmps72
  go_wp2_with fail
  refine (HT.out _).mono ?_
  rintro r w1 ⟨rfl, hb1⟩
  go_wp2
  go_ret
  exact ⟨rfl, below_app HB hb1 HB.size⟩
theorem rt_pm_ok (e : Ev) (hk : e.kd = 2) : rt_pm e = okE e := by
  obtain ⟨kd, sr, pi, si, nn, zo, be⟩ := e
  simp only at hk
  subst hk
  unfold rt_pm
  rw [Bool.eq_iff_iff]
  dsimp only [smE, ev_pm, ok_pm, okE, ok2, pcE, sdE, ib, enE]
  by_cases hz : zo = 2 <;> cases be <;> simp [hz] <;> omega
set_option maxHeartbeats 4000000 in
theorem eoki_pm (e : Ev) (hk : e.kd = 2) (w : World) : Calls Tryz.prog 72 #[(.agg #[.int .i64 e.kd, .int .i64 e.sr, .int .i64 e.pi, .int .i64 e.si, .int .i64 e.nn, .int .i64 e.zo, .bool e.be])] w fun r w' => r = .returned (.bool (okE e)) ∧ Below w.heap.size w w' := by
  rw [← rt_pm_ok e hk]
  have HT : Hid (∀ w : World, Calls Tryz.prog 120 #[(.agg #[.int .i64 e.kd, .int .i64 e.sr, .int .i64 e.pi, .int .i64 e.si, .int .i64 e.nn, .int .i64 e.zo, .bool e.be])] w fun r w' => r = .returned (.tuple #[rv_pm e, .bool (rt_pm e)]) ∧ Below w.heap.size w w') := right_pm e hk
  clear hk
  have HB := (Below.refl _ w).alloc (Nat.le_refl _) (.cells #[.int .i64 e.kd, .int .i64 e.sr, .int .i64 e.pi, .int .i64 e.si, .int .i64 e.nn, .int .i64 e.zo, .bool e.be] 39)
  go_enter Tryz.func72, Tryz.ntmps72
  go_wp2_with fail
  refine (HT.out _).mono ?_
  rintro r w1 ⟨rfl, hb1⟩
  go_wp2
  go_ret
  exact ⟨rfl, below_app HB hb1 HB.size⟩
theorem rt_sg_ok (e : Ev) (hk : e.kd = 3) : rt_sg e = okE e := by
  obtain ⟨kd, sr, pi, si, nn, zo, be⟩ := e
  simp only at hk
  subst hk
  unfold rt_sg
  rw [Bool.eq_iff_iff]
  dsimp only [smE, ev_sg, ok_sg, okE, ok3, pcE, sdE, ib, enE]
  cases be <;> simp <;> omega
set_option maxHeartbeats 4000000 in
theorem eoki_sg (e : Ev) (hk : e.kd = 3) (w : World) : Calls Tryz.prog 72 #[(.agg #[.int .i64 e.kd, .int .i64 e.sr, .int .i64 e.pi, .int .i64 e.si, .int .i64 e.nn, .int .i64 e.zo, .bool e.be])] w fun r w' => r = .returned (.bool (okE e)) ∧ Below w.heap.size w w' := by
  rw [← rt_sg_ok e hk]
  have HT : Hid (∀ w : World, Calls Tryz.prog 120 #[(.agg #[.int .i64 e.kd, .int .i64 e.sr, .int .i64 e.pi, .int .i64 e.si, .int .i64 e.nn, .int .i64 e.zo, .bool e.be])] w fun r w' => r = .returned (.tuple #[rv_sg e, .bool (rt_sg e)]) ∧ Below w.heap.size w w') := right_sg e hk
  clear hk
  have HB := (Below.refl _ w).alloc (Nat.le_refl _) (.cells #[.int .i64 e.kd, .int .i64 e.sr, .int .i64 e.pi, .int .i64 e.si, .int .i64 e.nn, .int .i64 e.zo, .bool e.be] 39)
  go_enter Tryz.func72, Tryz.ntmps72
  go_wp2_with fail
  refine (HT.out _).mono ?_
  rintro r w1 ⟨rfl, hb1⟩
  go_wp2
  go_ret
  exact ⟨rfl, below_app HB hb1 HB.size⟩
theorem rt_sl_ok (e : Ev) (hk : e.kd = 4) : rt_sl e = okE e := by
  obtain ⟨kd, sr, pi, si, nn, zo, be⟩ := e
  simp only at hk
  subst hk
  unfold rt_sl
  rw [Bool.eq_iff_iff]
  dsimp only [smE, ev_sl, ok_sl, okE, ok3, pcE, sdE, ib, enE]
  cases be <;> simp <;> omega
set_option maxHeartbeats 4000000 in
theorem eoki_sl (e : Ev) (hk : e.kd = 4) (w : World) : Calls Tryz.prog 72 #[(.agg #[.int .i64 e.kd, .int .i64 e.sr, .int .i64 e.pi, .int .i64 e.si, .int .i64 e.nn, .int .i64 e.zo, .bool e.be])] w fun r w' => r = .returned (.bool (okE e)) ∧ Below w.heap.size w w' := by
  rw [← rt_sl_ok e hk]
  have HT : Hid (∀ w : World, Calls Tryz.prog 120 #[(.agg #[.int .i64 e.kd, .int .i64 e.sr, .int .i64 e.pi, .int .i64 e.si, .int .i64 e.nn, .int .i64 e.zo, .bool e.be])] w fun r w' => r = .returned (.tuple #[rv_sl e, .bool (rt_sl e)]) ∧ Below w.heap.size w w') := right_sl e hk
  clear hk
  have HB := (Below.refl _ w).alloc (Nat.le_refl _) (.cells #[.int .i64 e.kd, .int .i64 e.sr, .int .i64 e.pi, .int .i64 e.si, .int .i64 e.nn, .int .i64 e.zo, .bool e.be] 39)
  go_enter Tryz.func72, Tryz.ntmps72
  go_wp2_with fail
  refine (HT.out _).mono ?_
  rintro r w1 ⟨rfl, hb1⟩
  go_wp2
  go_ret
  exact ⟨rfl, below_app HB hb1 HB.size⟩
theorem rt_pp_ok (e : Ev) (hk : e.kd = 5) : rt_pp e = okE e := by
  obtain ⟨kd, sr, pi, si, nn, zo, be⟩ := e
  simp only at hk
  subst hk
  unfold rt_pp
  rw [Bool.eq_iff_iff]
  dsimp only [smE, ev_pp, ok_pp, okE, ok5, pcE, sdE, ib, enE]
  cases be <;> simp <;> omega
set_option maxHeartbeats 4000000 in
theorem eoki_pp (e : Ev) (hk : e.kd = 5) (w : World) : Calls Tryz.prog 72 #[(.agg #[.int .i64 e.kd, .int .i64 e.sr, .int .i64 e.pi, .int .i64 e.si, .int .i64 e.nn, .int .i64 e.zo, .bool e.be])] w fun r w' => r = .returned (.bool (okE e)) ∧ Below w.heap.size w w' := by
  rw [← rt_pp_ok e hk]
  have HT : Hid (∀ w : World, Calls Tryz.prog 120 #[(.agg #[.int .i64 e.kd, .int .i64 e.sr, .int .i64 e.pi, .int .i64 e.si, .int .i64 e.nn, .int .i64 e.zo, .bool e.be])] w fun r w' => r = .returned (.tuple #[rv_pp e, .bool (rt_pp e)]) ∧ Below w.heap.size w w') := right_pp e hk
  clear hk
  have HB := (Below.refl _ w).alloc (Nat.le_refl _) (.cells #[.int .i64 e.kd, .int .i64 e.sr, .int .i64 e.pi, .int .i64 e.si, .int .i64 e.nn, .int .i64 e.zo, .bool e.be] 39)
  go_enter Tryz.func72, Tryz.ntmps72
  go_wp2_with fail
  refine (HT.out _).mono ?_
  rintro r w1 ⟨rfl, hb1⟩
  go_wp2
  go_ret
  exact ⟨rfl, below_app HB hb1 HB.size⟩
theorem rt_pc_ok (e : Ev) (hk : e.kd = 6) : rt_pc e = okE e := by
  obtain ⟨kd, sr, pi, si, nn, zo, be⟩ := e
  simp only at hk
  subst hk
  unfold rt_pc
  rw [Bool.eq_iff_iff]
  dsimp only [smE, ev_pc, ok_pc, okE, ok5, pcE, sdE, ib, enE]
  cases be <;> simp <;> omega
set_option maxHeartbeats 4000000 in
theorem eoki_pc (e : Ev) (hk : e.kd = 6) (w : World) : Calls Tryz.prog 72 #[(.agg #[.int .i64 e.kd, .int .i64 e.sr, .int .i64 e.pi, .int .i64 e.si, .int .i64 e.nn, .int .i64 e.zo, .bool e.be])] w fun r w' => r = .returned (.bool (okE e)) ∧ Below w.heap.size w w' := by
  rw [← rt_pc_ok e hk]
  have HT : Hid (∀ w : World, Calls Tryz.prog 120 #[(.agg #[.int .i64 e.kd, .int .i64 e.sr, .int .i64 e.pi, .int .i64 e.si, .int .i64 e.nn, .int .i64 e.zo, .bool e.be])] w fun r w' => r = .returned (.tuple #[rv_pc e, .bool (rt_pc e)]) ∧ Below w.heap.size w w') := right_pc e hk
  clear hk
  have HB := (Below.refl _ w).alloc (Nat.le_refl _) (.cells #[.int .i64 e.kd, .int .i64 e.sr, .int .i64 e.pi, .int .i64 e.si, .int .i64 e.nn, .int .i64 e.zo, .bool e.be] 39)
  go_enter Tryz.func72, Tryz.ntmps72
  go_wp2_with fail
  refine (HT.out _).mono ?_
  rintro r w1 ⟨rfl, hb1⟩
  go_wp2
  go_ret
  exact ⟨rfl, below_app HB hb1 HB.size⟩
set_option maxHeartbeats 4000000 in
theorem thingOf_no (e : Ev) (h1 : ¬ e.kd = 1) (h2 : ¬ e.kd = 2) (h3 : ¬ e.kd = 3) (h4 : ¬ e.kd = 4) (h5 : ¬ e.kd = 5) (h6 : ¬ e.kd = 6) (w : World) : Calls Tryz.prog 144 #[(.agg #[.int .i64 e.kd, .int .i64 e.sr, .int .i64 e.pi, .int .i64 e.si, .int .i64 e.nn, .int .i64 e.zo, .bool e.be])] w fun r w' => r = .returned (.tuple #[.nilIface, .bool false]) ∧ Below w.heap.size w w' := by
  go_enter Tryz.func144, Tryz.ntmps144
  go_wp2
  go_ret2
  exact ⟨rfl, (Below.refl _ w).alloc (Nat.le_refl _) _⟩
set_option maxHeartbeats 4000000 in
theorem right_no (e : Ev) (h1 : ¬ e.kd = 1) (h2 : ¬ e.kd = 2) (h3 : ¬ e.kd = 3) (h4 : ¬ e.kd = 4) (h5 : ¬ e.kd = 5) (h6 : ¬ e.kd = 6) (w : World) : Calls Tryz.prog 120 #[(.agg #[.int .i64 e.kd, .int .i64 e.sr, .int .i64 e.pi, .int .i64 e.si, .int .i64 e.nn, .int .i64 e.zo, .bool e.be])] w fun r w' => r = .returned (.tuple #[.nilIface, .bool false]) ∧ Below w.heap.size w w' := by
  have HT : Hid (∀ w : World, Calls Tryz.prog 144 #[(.agg #[.int .i64 e.kd, .int .i64 e.sr, .int .i64 e.pi, .int .i64 e.si, .int .i64 e.nn, .int .i64 e.zo, .bool e.be])] w fun r w' => r = .returned (.tuple #[.nilIface, .bool false]) ∧ Below w.heap.size w w') := thingOf_no e h1 h2 h3 h4 h5 h6
  clear h1 h2 h3 h4 h5 h6
  have HB := (Below.refl _ w).alloc (Nat.le_refl _) (.cells #[.int .i64 e.kd, .int .i64 e.sr, .int .i64 e.pi, .int .i64 e.si, .int .i64 e.nn, .int .i64 e.zo, .bool e.be] 39)
  go_enter Tryz.func120, Tryz.ntmps120
  go_wp2_with fail
  refine (HT.out _).mono ?_
  rintro r w1 ⟨rfl, hb1⟩
  have hne := bw_ne w1
  go_wp2_with fail
  refine wp_region_below_lit (W := w1) 13 (by kernel_rfl) (by kernel_rfl) (by decide) (Below.refl _ _) (by intro c d v a w h; cases d <;> exact h) ?_
  simp only [List.take_succ_cons, List.take_zero, List.drop_succ_cons, List.drop_zero]
  repeat (go_big_quiet_step (fail))
  refine wpQuiet_nil ?_
  rintro _ ⟨x, rfl⟩
  go_wp2
  go_ret2
  exact ⟨rfl, below_app (below_app HB hb1 HB.size) x.h (below_app HB hb1 HB.size).size⟩
set_option maxHeartbeats 4000000 in
theorem eoki_no (e : Ev) (h1 : ¬ e.kd = 1) (h2 : ¬ e.kd = 2) (h3 : ¬ e.kd = 3) (h4 : ¬ e.kd = 4) (h5 : ¬ e.kd = 5) (h6 : ¬ e.kd = 6) (w : World) : Calls Tryz.prog 72 #[(.agg #[.int .i64 e.kd, .int .i64 e.sr, .int .i64 e.pi, .int .i64 e.si, .int .i64 e.nn, .int .i64 e.zo, .bool e.be])] w fun r w' => r = .returned (.bool (okE e)) ∧ Below w.heap.size w w' := by
  have HE : Hid (okE e = false) := by
    show okE e = false
    unfold okE; simp [h1, h2, h3, h4, h5, h6]
  have HT : Hid (∀ w : World, Calls Tryz.prog 120 #[(.agg #[.int .i64 e.kd, .int .i64 e.sr, .int .i64 e.pi, .int .i64 e.si, .int .i64 e.nn, .int .i64 e.zo, .bool e.be])] w fun r w' => r = .returned (.tuple #[.nilIface, .bool false]) ∧ Below w.heap.size w w') := right_no e h1 h2 h3 h4 h5 h6
  clear h1 h2 h3 h4 h5 h6
  have HB := (Below.refl _ w).alloc (Nat.le_refl _) (.cells #[.int .i64 e.kd, .int .i64 e.sr, .int .i64 e.pi, .int .i64 e.si, .int .i64 e.nn, .int .i64 e.zo, .bool e.be] 39)
  go_enter Tryz.func72, Tryz.ntmps72
  go_wp2_with fail
  refine (HT.out _).mono ?_
  rintro r w1 ⟨rfl, hb1⟩
  go_wp2
  go_ret
  exact ⟨ret_bool' HE.out.symm, below_app HB hb1 HB.size⟩
theorem implEventOk_any (e : Ev) (w : World) : Calls Tryz.prog 72 #[(.agg #[.int .i64 e.kd, .int .i64 e.sr, .int .i64 e.pi, .int .i64 e.si, .int .i64 e.nn, .int .i64 e.zo, .bool e.be])] w fun r w' => r = .returned (.bool (okE e)) ∧ Below w.heap.size w w' := by
  by_cases h1 : e.kd = 1
  · by_cases hp : e.pi = 0
    · exact eoki_sh e h1 hp w
    · exact eoki_ph e h1 hp w
  by_cases h2 : e.kd = 2
  · exact eoki_pm e h2 w
  by_cases h3 : e.kd = 3
  · exact eoki_sg e h3 w
  by_cases h4 : e.kd = 4
  · exact eoki_sl e h4 w
  by_cases h5 : e.kd = 5
  · exact eoki_pp e h5 w
  by_cases h6 : e.kd = 6
  · exact eoki_pc e h6 w
  exact eoki_no e h1 h2 h3 h4 h5 h6 w
end Go.Proofs.YtodfdfncdoliiadGreat
