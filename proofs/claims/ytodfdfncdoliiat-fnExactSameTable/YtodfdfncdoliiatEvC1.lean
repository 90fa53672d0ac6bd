/-
  Chapter 6: the program's things, going on. Written by tools/ev.gen.py. Own work.
-/
import Derived.Test.YtodfdfncdoliiatGTbJA4
namespace Go.Proofs.Ytodfdfncdoliiat
open Go.ChangeShapes Go.WideShapes Go.ChangeAt Go.RowKit
set_option maxRecDepth 100000
set_option linter.unusedVariables false
set_option linter.unusedSimpArgs false

def ev_ph (e : Ev) : Ev := ⟨1, e.sr, e.pi, -1, e.nn, 0, false⟩
def ok_ph (e : Ev) : Bool := ib e.sr 1 99 && ib e.pi 1 99 && ib e.nn 0 2147483647
set_option maxHeartbeats 2000000 in
theorem event_ph (e : Ev) (w : World) : Calls Try.prog 128 #[(.agg #[.int .i64 e.sr, .int .i64 e.pi, .int .i64 e.nn])] w fun r w' => r = .returned (.agg #[.int .i64 (ev_ph e).kd, .int .i64 (ev_ph e).sr, .int .i64 (ev_ph e).pi, .int .i64 (ev_ph e).si, .int .i64 (ev_ph e).nn, .int .i64 (ev_ph e).zo, .bool (ev_ph e).be]) ∧ Below w.heap.size w w' := by
  go_enter Try.func128, Try.ntmps128
  go_wp2
  (try simp only [Exit.inBlock, Exit.then]); refine bodyPost_ret (results_cell_row rfl _ _ (w.heap.size + 1) _ _ _ _ rfl (heap_alloc2_new _ _ _) Try.underlying43 rfl (by kernel_rfl)) rfl ?_
  exact ⟨rfl, ((Below.refl _ w).alloc (Nat.le_refl _) _).alloc (by simp) _⟩
set_option maxHeartbeats 4000000 in
theorem thingOk_ph (e : Ev) (w : World) : Calls Try.prog 103 #[(.iface 137 (.agg #[.int .i64 e.sr, .int .i64 e.pi, .int .i64 e.nn]))] w fun r w' => r = .returned (.bool (ok_ph e)) ∧ Below w.heap.size w w' := by
  have as_ph : ∀ w : World, (Instr.typeAssert (.iface 137 (.agg #[.int .i64 e.sr, .int .i64 e.pi, .int .i64 e.nn])) 122 137 true).run Try.prog w = .ok (.tuple #[(.agg #[.int .i64 e.sr, .int .i64 e.pi, .int .i64 e.nn]), .bool true]) w := run_as_yes Try.underlying137 _
  go_enter Try.func103, Try.ntmps103
  go_wp2_with (first | (go_at_call 65; refine (isIdE_any _ _).mono ?_; rintro r w' ⟨rfl, rfl⟩) | (go_at_call 77; refine (isSide_any _ _).mono ?_; rintro r w' ⟨rfl, rfl⟩) | (go_at_call 86; refine (isAmount_any _ _).mono ?_; rintro r w' ⟨rfl, rfl⟩) | (go_at_call 106; refine (entryOk_any _ _ _ _ _).mono ?_; rintro r w' ⟨rfl, hbb⟩))
  all_goals go_ret
  all_goals refine ⟨ret_bool' ?_, ?_⟩
  all_goals first | exact (Below.refl _ w).alloc (Nat.le_refl _) _ | exact below_app ((Below.refl _ w).alloc (Nat.le_refl _) _) hbb (by simp) | (unfold ok_ph; simp_all)
set_option maxHeartbeats 4000000 in
theorem hurtOf_ph (e : Ev) (hp : ¬ e.pi = 0) (w : World) : Calls Try.prog 105 #[(.agg #[.int .i64 e.kd, .int .i64 e.sr, .int .i64 e.pi, .int .i64 e.si, .int .i64 e.nn, .int .i64 e.zo, .bool e.be])] w fun r w' => r = .returned (.iface 137 (.agg #[.int .i64 e.sr, .int .i64 e.pi, .int .i64 e.nn])) ∧ Below w.heap.size w w' := by
  go_enter Try.func105, Try.ntmps105
  go_wp2
  go_ret
  exact ⟨rfl, (Below.refl _ w).alloc (Nat.le_refl _) _⟩
set_option maxHeartbeats 4000000 in
theorem thingOf_ph (e : Ev) (hk : e.kd = 1) (hp : ¬ e.pi = 0) (w : World) : Calls Try.prog 102 #[(.agg #[.int .i64 e.kd, .int .i64 e.sr, .int .i64 e.pi, .int .i64 e.si, .int .i64 e.nn, .int .i64 e.zo, .bool e.be])] w fun r w' => r = .returned (.tuple #[(.iface 137 (.agg #[.int .i64 e.sr, .int .i64 e.pi, .int .i64 e.nn])), .bool true]) ∧ Below w.heap.size w w' := by
  obtain ⟨kd, sr, pi, si, nn, zo, be⟩ := e
  have hk' : kd = 1 := hk
  subst hk'
  have HP : Hid (¬ pi = 0) := hp
  clear hp hk
  have HB := (Below.refl _ w).alloc (Nat.le_refl _) (.cells #[.int .i64 1, .int .i64 sr, .int .i64 pi, .int .i64 si, .int .i64 nn, .int .i64 zo, .bool be] 43)
  go_enter Try.func102, Try.ntmps102
  go_wp2_with (go_at_call 105; refine (hurtOf_ph ⟨1, sr, pi, si, nn, zo, be⟩ HP.out _).mono ?_; rintro r w' ⟨rfl, hbb⟩)
  go_ret2
  exact ⟨rfl, below_app HB hbb HB.size⟩
def rt_ph (e : Ev) : Bool := smE (ev_ph e) e && ok_ph e
def rv_ph (e : Ev) : Value := if rt_ph e then (.iface 137 (.agg #[.int .i64 e.sr, .int .i64 e.pi, .int .i64 e.nn])) else .nilIface
set_option maxHeartbeats 8000000 in
theorem right_ph (e : Ev) (hk : e.kd = 1) (hp : ¬ e.pi = 0) (w : World) : Calls Try.prog 100 #[(.agg #[.int .i64 e.kd, .int .i64 e.sr, .int .i64 e.pi, .int .i64 e.si, .int .i64 e.nn, .int .i64 e.zo, .bool e.be])] w fun r w' => r = .returned (.tuple #[rv_ph e, .bool (rt_ph e)]) ∧ Below w.heap.size w w' := by
  have HB := (Below.refl _ w).alloc (Nat.le_refl _) (.cells #[.int .i64 e.kd, .int .i64 e.sr, .int .i64 e.pi, .int .i64 e.si, .int .i64 e.nn, .int .i64 e.zo, .bool e.be] 43)
  have bx := boxE_new w 43 e
  generalize hW : w.alloc (.cells #[.int .i64 e.kd, .int .i64 e.sr, .int .i64 e.pi, .int .i64 e.si, .int .i64 e.nn, .int .i64 e.zo, .bool e.be] 43) = W at HB bx
  obtain ⟨k0, k1, k2, k3, k4, k5, k6⟩ : Cells7 _ _ _ := bx.cells
  have TH := thingOf_ph e hk hp
  have HT : Hid (∀ w : World, Calls Try.prog 102 #[(.agg #[.int .i64 e.kd, .int .i64 e.sr, .int .i64 e.pi, .int .i64 e.si, .int .i64 e.nn, .int .i64 e.zo, .bool e.be])] w fun r w' => r = .returned (.tuple #[(.iface 137 (.agg #[.int .i64 e.sr, .int .i64 e.pi, .int .i64 e.nn])), .bool true]) ∧ Below w.heap.size w w') := TH
  clear TH hk hp
  have ME : ∀ v : World, (method 258 137 (.agg #[.int .i64 e.sr, .int .i64 e.pi, .int .i64 e.nn]) "loop.example/g00486/impl.event").run Try.prog v = .ok (128, (.agg #[.int .i64 e.sr, .int .i64 e.pi, .int .i64 e.nn])) v := fun v => by kernel_rfl
  have EQ := fun v : World => run_eq_ev (ev_ph e) e v
  have RT : Hid (rt_ph e = (smE (ev_ph e) e && ok_ph e)) := rfl
  obtain ⟨b, hb⟩ : ∃ b, b = smE (ev_ph e) e := ⟨_, rfl⟩
  rw [← hb] at EQ RT
  obtain ⟨b', hb'⟩ : ∃ b, b = ok_ph e := ⟨_, rfl⟩
  rw [← hb'] at RT
  clear hb
  have HO : Hid (b' = ok_ph e) := hb'
  clear hb'
  obtain ⟨E, hE⟩ : ∃ E, E = ev_ph e := ⟨_, rfl⟩
  rw [← hE] at EQ
  have HE : Hid (E = ev_ph e) := hE
  clear hE
  go_enter Try.func100, Try.ntmps100
  go_wp2_with fail
  refine (HT.out _).mono ?_
  rintro r w1 ⟨rfl, hb1⟩
  clear k0 k1 k2 k3 k4 k5 k6
  obtain ⟨k0, k1, k2, k3, k4, k5, k6⟩ : Cells7 _ _ _ := bx.cells7 hb1
  replace HB := below_app HB hb1 HB.size
  clear hb1
  have hne := bw_ne w1
  have c0 := fun x : BW w1 => x.cell k0
  have c1 := fun x : BW w1 => x.cell k1
  have c2 := fun x : BW w1 => x.cell k2
  have c3 := fun x : BW w1 => x.cell k3
  have c4 := fun x : BW w1 => x.cell k4
  have c5 := fun x : BW w1 => x.cell k5
  have c6 := fun x : BW w1 => x.cell k6
  clear k0 k1 k2 k3 k4 k5 k6 bx hW
  go_wp2_with fail
  refine wp_region_below_lit (W := w1) 13 (by kernel_rfl) (by kernel_rfl) (by decide) (Below.refl _ _) (by intro c d v a w h; cases d <;> exact h) ?_
  simp only [List.take_succ_cons, List.take_zero, List.drop_succ_cons, List.drop_zero]
  cases b <;> cases b'
  all_goals
    repeat (go_big_quiet_step (first | (go_at_call 128; refine quiet_below ((event_ph e _).mono fun r w' h => ⟨h.1.trans (by rw [← HE.out]), h.2⟩)) | (go_at_call 103; refine quiet_below ((thingOk_ph e _).mono fun r w' h => ⟨h.1.trans (by rw [← HO.out]), h.2⟩))))
    refine wpQuiet_nil ?_
    rintro _ ⟨x, rfl⟩
    clear c0 c1 c2 c3 c4 c5 c6
    go_wp2
    go_ret2
    refine ⟨?_, below_app HB x.h HB.size⟩
    unfold rv_ph
    rw [RT.out]
    rfl
def ev_sh (e : Ev) : Ev := ⟨1, e.sr, 0, e.si, e.nn, 0, false⟩
def ok_sh (e : Ev) : Bool := ib e.sr 1 99 && ib e.si 0 2 && ib e.nn 0 2147483647
set_option maxHeartbeats 2000000 in
theorem event_sh (e : Ev) (w : World) : Calls Try.prog 129 #[(.agg #[.int .i64 e.sr, .int .i64 e.si, .int .i64 e.nn])] w fun r w' => r = .returned (.agg #[.int .i64 (ev_sh e).kd, .int .i64 (ev_sh e).sr, .int .i64 (ev_sh e).pi, .int .i64 (ev_sh e).si, .int .i64 (ev_sh e).nn, .int .i64 (ev_sh e).zo, .bool (ev_sh e).be]) ∧ Below w.heap.size w w' := by
  go_enter Try.func129, Try.ntmps129
  go_wp2
  (try simp only [Exit.inBlock, Exit.then]); refine bodyPost_ret (results_cell_row rfl _ _ (w.heap.size + 1) _ _ _ _ rfl (heap_alloc2_new _ _ _) Try.underlying43 rfl (by kernel_rfl)) rfl ?_
  exact ⟨rfl, ((Below.refl _ w).alloc (Nat.le_refl _) _).alloc (by simp) _⟩
set_option maxHeartbeats 4000000 in
theorem thingOk_sh (e : Ev) (w : World) : Calls Try.prog 103 #[(.iface 139 (.agg #[.int .i64 e.sr, .int .i64 e.si, .int .i64 e.nn]))] w fun r w' => r = .returned (.bool (ok_sh e)) ∧ Below w.heap.size w w' := by
  have as_ph : ∀ w : World, (Instr.typeAssert (.iface 139 (.agg #[.int .i64 e.sr, .int .i64 e.si, .int .i64 e.nn])) 122 137 true).run Try.prog w = .ok (.tuple #[.agg #[.int .i64 0, .int .i64 0, .int .i64 0], .bool false]) w := run_as_no Try.underlying137 (by kernel_rfl) (by decide) _
  have as_sh : ∀ w : World, (Instr.typeAssert (.iface 139 (.agg #[.int .i64 e.sr, .int .i64 e.si, .int .i64 e.nn])) 122 139 true).run Try.prog w = .ok (.tuple #[(.agg #[.int .i64 e.sr, .int .i64 e.si, .int .i64 e.nn]), .bool true]) w := run_as_yes Try.underlying139 _
  go_enter Try.func103, Try.ntmps103
  go_wp2_with (first | (go_at_call 65; refine (isIdE_any _ _).mono ?_; rintro r w' ⟨rfl, rfl⟩) | (go_at_call 77; refine (isSide_any _ _).mono ?_; rintro r w' ⟨rfl, rfl⟩) | (go_at_call 86; refine (isAmount_any _ _).mono ?_; rintro r w' ⟨rfl, rfl⟩) | (go_at_call 106; refine (entryOk_any _ _ _ _ _).mono ?_; rintro r w' ⟨rfl, hbb⟩))
  all_goals go_ret
  all_goals refine ⟨ret_bool' ?_, ?_⟩
  all_goals first | exact (Below.refl _ w).alloc (Nat.le_refl _) _ | exact below_app ((Below.refl _ w).alloc (Nat.le_refl _) _) hbb (by simp) | (unfold ok_sh; simp_all)
set_option maxHeartbeats 4000000 in
theorem hurtOf_sh (e : Ev) (hp : e.pi = 0) (w : World) : Calls Try.prog 105 #[(.agg #[.int .i64 e.kd, .int .i64 e.sr, .int .i64 e.pi, .int .i64 e.si, .int .i64 e.nn, .int .i64 e.zo, .bool e.be])] w fun r w' => r = .returned (.iface 139 (.agg #[.int .i64 e.sr, .int .i64 e.si, .int .i64 e.nn])) ∧ Below w.heap.size w w' := by
  go_enter Try.func105, Try.ntmps105
  go_wp2
  go_ret
  exact ⟨rfl, (Below.refl _ w).alloc (Nat.le_refl _) _⟩
set_option maxHeartbeats 4000000 in
theorem thingOf_sh (e : Ev) (hk : e.kd = 1) (hp : e.pi = 0) (w : World) : Calls Try.prog 102 #[(.agg #[.int .i64 e.kd, .int .i64 e.sr, .int .i64 e.pi, .int .i64 e.si, .int .i64 e.nn, .int .i64 e.zo, .bool e.be])] w fun r w' => r = .returned (.tuple #[(.iface 139 (.agg #[.int .i64 e.sr, .int .i64 e.si, .int .i64 e.nn])), .bool true]) ∧ Below w.heap.size w w' := by
  obtain ⟨kd, sr, pi, si, nn, zo, be⟩ := e
  have hk' : kd = 1 := hk
  subst hk'
  have HP : Hid (pi = 0) := hp
  clear hp hk
  have HB := (Below.refl _ w).alloc (Nat.le_refl _) (.cells #[.int .i64 1, .int .i64 sr, .int .i64 pi, .int .i64 si, .int .i64 nn, .int .i64 zo, .bool be] 43)
  go_enter Try.func102, Try.ntmps102
  go_wp2_with (go_at_call 105; refine (hurtOf_sh ⟨1, sr, pi, si, nn, zo, be⟩ HP.out _).mono ?_; rintro r w' ⟨rfl, hbb⟩)
  go_ret2
  exact ⟨rfl, below_app HB hbb HB.size⟩
def rt_sh (e : Ev) : Bool := smE (ev_sh e) e && ok_sh e
def rv_sh (e : Ev) : Value := if rt_sh e then (.iface 139 (.agg #[.int .i64 e.sr, .int .i64 e.si, .int .i64 e.nn])) else .nilIface
set_option maxHeartbeats 8000000 in
theorem right_sh (e : Ev) (hk : e.kd = 1) (hp : e.pi = 0) (w : World) : Calls Try.prog 100 #[(.agg #[.int .i64 e.kd, .int .i64 e.sr, .int .i64 e.pi, .int .i64 e.si, .int .i64 e.nn, .int .i64 e.zo, .bool e.be])] w fun r w' => r = .returned (.tuple #[rv_sh e, .bool (rt_sh e)]) ∧ Below w.heap.size w w' := by
  have HB := (Below.refl _ w).alloc (Nat.le_refl _) (.cells #[.int .i64 e.kd, .int .i64 e.sr, .int .i64 e.pi, .int .i64 e.si, .int .i64 e.nn, .int .i64 e.zo, .bool e.be] 43)
  have bx := boxE_new w 43 e
  generalize hW : w.alloc (.cells #[.int .i64 e.kd, .int .i64 e.sr, .int .i64 e.pi, .int .i64 e.si, .int .i64 e.nn, .int .i64 e.zo, .bool e.be] 43) = W at HB bx
  obtain ⟨k0, k1, k2, k3, k4, k5, k6⟩ : Cells7 _ _ _ := bx.cells
  have TH := thingOf_sh e hk hp
  have HT : Hid (∀ w : World, Calls Try.prog 102 #[(.agg #[.int .i64 e.kd, .int .i64 e.sr, .int .i64 e.pi, .int .i64 e.si, .int .i64 e.nn, .int .i64 e.zo, .bool e.be])] w fun r w' => r = .returned (.tuple #[(.iface 139 (.agg #[.int .i64 e.sr, .int .i64 e.si, .int .i64 e.nn])), .bool true]) ∧ Below w.heap.size w w') := TH
  clear TH hk hp
  have ME : ∀ v : World, (method 258 139 (.agg #[.int .i64 e.sr, .int .i64 e.si, .int .i64 e.nn]) "loop.example/g00486/impl.event").run Try.prog v = .ok (129, (.agg #[.int .i64 e.sr, .int .i64 e.si, .int .i64 e.nn])) v := fun v => by kernel_rfl
  have EQ := fun v : World => run_eq_ev (ev_sh e) e v
  have RT : Hid (rt_sh e = (smE (ev_sh e) e && ok_sh e)) := rfl
  obtain ⟨b, hb⟩ : ∃ b, b = smE (ev_sh e) e := ⟨_, rfl⟩
  rw [← hb] at EQ RT
  obtain ⟨b', hb'⟩ : ∃ b, b = ok_sh e := ⟨_, rfl⟩
  rw [← hb'] at RT
  clear hb
  have HO : Hid (b' = ok_sh e) := hb'
  clear hb'
  obtain ⟨E, hE⟩ : ∃ E, E = ev_sh e := ⟨_, rfl⟩
  rw [← hE] at EQ
  have HE : Hid (E = ev_sh e) := hE
  clear hE
  go_enter Try.func100, Try.ntmps100
  go_wp2_with fail
  refine (HT.out _).mono ?_
  rintro r w1 ⟨rfl, hb1⟩
  clear k0 k1 k2 k3 k4 k5 k6
  obtain ⟨k0, k1, k2, k3, k4, k5, k6⟩ : Cells7 _ _ _ := bx.cells7 hb1
  replace HB := below_app HB hb1 HB.size
  clear hb1
  have hne := bw_ne w1
  have c0 := fun x : BW w1 => x.cell k0
  have c1 := fun x : BW w1 => x.cell k1
  have c2 := fun x : BW w1 => x.cell k2
  have c3 := fun x : BW w1 => x.cell k3
  have c4 := fun x : BW w1 => x.cell k4
  have c5 := fun x : BW w1 => x.cell k5
  have c6 := fun x : BW w1 => x.cell k6
  clear k0 k1 k2 k3 k4 k5 k6 bx hW
  go_wp2_with fail
  refine wp_region_below_lit (W := w1) 13 (by kernel_rfl) (by kernel_rfl) (by decide) (Below.refl _ _) (by intro c d v a w h; cases d <;> exact h) ?_
  simp only [List.take_succ_cons, List.take_zero, List.drop_succ_cons, List.drop_zero]
  cases b <;> cases b'
  all_goals
    repeat (go_big_quiet_step (first | (go_at_call 129; refine quiet_below ((event_sh e _).mono fun r w' h => ⟨h.1.trans (by rw [← HE.out]), h.2⟩)) | (go_at_call 103; refine quiet_below ((thingOk_sh e _).mono fun r w' h => ⟨h.1.trans (by rw [← HO.out]), h.2⟩))))
    refine wpQuiet_nil ?_
    rintro _ ⟨x, rfl⟩
    clear c0 c1 c2 c3 c4 c5 c6
    go_wp2
    go_ret2
    refine ⟨?_, below_app HB x.h HB.size⟩
    unfold rv_sh
    rw [RT.out]
    rfl
end Go.Proofs.Ytodfdfncdoliiat
