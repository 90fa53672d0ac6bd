/-
  Chapter 6: the program's things, going on. Written by tools/ev.gen.py. Chapter 6: the program's things, going on. Written by tools/ev.gen.py. Own work.
-/
import Derived.Test.YtodfdfncdoliiadGreatGTbC5
namespace Go.Proofs.YtodfdfncdoliiadGreat
open Go.ChangeShapes Go.WideShapes Go.ChangeAt Go.RowKit
set_option maxRecDepth 100000
set_option linter.unusedVariables false
set_option linter.unusedSimpArgs false

def ev_ph (e : Ev) : Ev := ⟨1, e.sr, e.pi, -1, e.nn, 0, false⟩
def ok_ph (e : Ev) : Bool := ib e.sr 1 99 && ib e.pi 1 99 && ib e.nn 0 2147483647
set_option maxHeartbeats 2000000 in
theorem event_ph (e : Ev) (w : World) : Calls Tryz.prog 191 #[(.agg #[.int .i64 e.sr, .int .i64 e.pi, .int .i64 e.nn])] w fun r w' => r = .returned (.agg #[.int .i64 (ev_ph e).kd, .int .i64 (ev_ph e).sr, .int .i64 (ev_ph e).pi, .int .i64 (ev_ph e).si, .int .i64 (ev_ph e).nn, .int .i64 (ev_ph e).zo, .bool (ev_ph e).be]) ∧ Below w.heap.size w w' := by
  go_enter Tryz.func191, Tryz.ntmps191
  go_wp2
  (try simp only [Exit.inBlock, Exit.then]); refine bodyPost_ret (results_cell_row rfl _ _ (w.heap.size + 1) _ _ _ _ rfl (heap_alloc2_new _ _ _) Tryz.underlying39 rfl (by kernel_rfl)) rfl ?_
  exact ⟨rfl, ((Below.refl _ w).alloc (Nat.le_refl _) _).alloc (by simp) _⟩
set_option maxHeartbeats 4000000 in
theorem thingOk_ph (e : Ev) (w : World) : Calls Tryz.prog 145 #[(.iface 181 (.agg #[.int .i64 e.sr, .int .i64 e.pi, .int .i64 e.nn]))] w fun r w' => r = .returned (.bool (ok_ph e)) ∧ Below w.heap.size w w' := by
  have as_ph : ∀ w : World, (Instr.typeAssert (.iface 181 (.agg #[.int .i64 e.sr, .int .i64 e.pi, .int .i64 e.nn])) 150 181 true).run Tryz.prog w = .ok (.tuple #[(.agg #[.int .i64 e.sr, .int .i64 e.pi, .int .i64 e.nn]), .bool true]) w := run_as_yes Tryz.underlying181 _
  go_enter Tryz.func145, Tryz.ntmps145
  go_wp2_with (first | (go_at_call 57; refine (isIdE_any _ _).mono ?_; rintro r w' ⟨rfl, rfl⟩) | (go_at_call 105; refine (isSide_any _ _).mono ?_; rintro r w' ⟨rfl, rfl⟩) | (go_at_call 119; refine (isAmount_any _ _).mono ?_; rintro r w' ⟨rfl, rfl⟩) | (go_at_call 163; refine (entryOk_any _ _ _ _ _).mono ?_; rintro r w' ⟨rfl, hbb⟩))
  all_goals go_ret
  all_goals refine ⟨ret_bool' ?_, ?_⟩
  all_goals first | exact (Below.refl _ w).alloc (Nat.le_refl _) _ | exact below_app ((Below.refl _ w).alloc (Nat.le_refl _) _) hbb (by simp) | (unfold ok_ph; simp_all)
set_option maxHeartbeats 4000000 in
theorem hurtOf_ph (e : Ev) (hp : ¬ e.pi = 0) (w : World) : Calls Tryz.prog 162 #[(.agg #[.int .i64 e.kd, .int .i64 e.sr, .int .i64 e.pi, .int .i64 e.si, .int .i64 e.nn, .int .i64 e.zo, .bool e.be])] w fun r w' => r = .returned (.iface 181 (.agg #[.int .i64 e.sr, .int .i64 e.pi, .int .i64 e.nn])) ∧ Below w.heap.size w w' := by
  go_enter Tryz.func162, Tryz.ntmps162
  go_wp2
  go_ret
  exact ⟨rfl, (Below.refl _ w).alloc (Nat.le_refl _) _⟩
set_option maxHeartbeats 4000000 in
theorem thingOf_ph (e : Ev) (hk : e.kd = 1) (hp : ¬ e.pi = 0) (w : World) : Calls Tryz.prog 144 #[(.agg #[.int .i64 e.kd, .int .i64 e.sr, .int .i64 e.pi, .int .i64 e.si, .int .i64 e.nn, .int .i64 e.zo, .bool e.be])] w fun r w' => r = .returned (.tuple #[(.iface 181 (.agg #[.int .i64 e.sr, .int .i64 e.pi, .int .i64 e.nn])), .bool true]) ∧ Below w.heap.size w w' := by
  obtain ⟨kd, sr, pi, si, nn, zo, be⟩ := e
  have hk' : kd = 1 := hk
  subst hk'
  have HP : Hid (¬ pi = 0) := hp
  clear hp hk
  have HB := (Below.refl _ w).alloc (Nat.le_refl _) (.cells #[.int .i64 1, .int .i64 sr, .int .i64 pi, .int .i64 si, .int .i64 nn, .int .i64 zo, .bool be] 39)
  go_enter Tryz.func144, Tryz.ntmps144
  go_wp2_with (go_at_call 162; refine (hurtOf_ph ⟨1, sr, pi, si, nn, zo, be⟩ HP.out _).mono ?_; rintro r w' ⟨rfl, hbb⟩)
  go_ret2
  exact ⟨rfl, below_app HB hbb HB.size⟩
def rt_ph (e : Ev) : Bool := smE (ev_ph e) e && ok_ph e
def rv_ph (e : Ev) : Value := if rt_ph e then (.iface 181 (.agg #[.int .i64 e.sr, .int .i64 e.pi, .int .i64 e.nn])) else .nilIface
set_option maxHeartbeats 8000000 in
theorem right_ph (e : Ev) (hk : e.kd = 1) (hp : ¬ e.pi = 0) (w : World) : Calls Tryz.prog 120 #[(.agg #[.int .i64 e.kd, .int .i64 e.sr, .int .i64 e.pi, .int .i64 e.si, .int .i64 e.nn, .int .i64 e.zo, .bool e.be])] w fun r w' => r = .returned (.tuple #[rv_ph e, .bool (rt_ph e)]) ∧ Below w.heap.size w w' := by
  have HB := (Below.refl _ w).alloc (Nat.le_refl _) (.cells #[.int .i64 e.kd, .int .i64 e.sr, .int .i64 e.pi, .int .i64 e.si, .int .i64 e.nn, .int .i64 e.zo, .bool e.be] 39)
  have bx := boxE_new w 39 e
  generalize hW : w.alloc (.cells #[.int .i64 e.kd, .int .i64 e.sr, .int .i64 e.pi, .int .i64 e.si, .int .i64 e.nn, .int .i64 e.zo, .bool e.be] 39) = W at HB bx
  obtain ⟨k0, k1, k2, k3, k4, k5, k6⟩ : Cells7 _ _ _ := bx.cells
  have TH := thingOf_ph e hk hp
  have HT : Hid (∀ w : World, Calls Tryz.prog 144 #[(.agg #[.int .i64 e.kd, .int .i64 e.sr, .int .i64 e.pi, .int .i64 e.si, .int .i64 e.nn, .int .i64 e.zo, .bool e.be])] w fun r w' => r = .returned (.tuple #[(.iface 181 (.agg #[.int .i64 e.sr, .int .i64 e.pi, .int .i64 e.nn])), .bool true]) ∧ Below w.heap.size w w') := TH
  clear TH hk hp
  have ME : ∀ v : World, (method 306 181 (.agg #[.int .i64 e.sr, .int .i64 e.pi, .int .i64 e.nn]) "loop.example/g00486/impl.event").run Tryz.prog v = .ok (191, (.agg #[.int .i64 e.sr, .int .i64 e.pi, .int .i64 e.nn])) v := fun v => by kernel_rfl
  have EQ := fun v : World => run_eq_ev (ev_ph e) e v
  have RT : Hid (rt_ph e = (smE (ev_ph e) e && ok_ph e)) := rfl
  obtain ⟨b, hb⟩ : ∃ b, b = smE (ev_ph e) e := ⟨_, rfl⟩
  rw [← hb] at EQ RT
  obtain ⟨b', hb'⟩ : ∃ b, b = ok_ph e := ⟨_, rfl⟩
  rw [← hb'] at RT
  clear hb
  have HO : Hid (b' = ok_ph e) := hb'
  clear hb'
  obtain ⟨E, hE⟩ : ∃ E, E = ev_ph e := ⟨_, rfl⟩
  rw [← hE] at EQ
  have HE : Hid (E = ev_ph e) := hE
  clear hE
  go_enter Tryz.func120, Tryz.ntmps120
  go_wp2_with fail
  refine (HT.out _).mono ?_
  rintro r w1 ⟨rfl, hb1⟩
  clear k0 k1 k2 k3 k4 k5 k6
  obtain ⟨k0, k1, k2, k3, k4, k5, k6⟩ : Cells7 _ _ _ := bx.cells7 hb1
  replace HB := below_app HB hb1 HB.size
  clear hb1
  have hne := bw_ne w1
  have c0 := fun x : BW w1 => x.cell k0
  have c1 := fun x : BW w1 => x.cell k1
  have c2 := fun x : BW w1 => x.cell k2
  have c3 := fun x : BW w1 => x.cell k3
  have c4 := fun x : BW w1 => x.cell k4
  have c5 := fun x : BW w1 => x.cell k5
  have c6 := fun x : BW w1 => x.cell k6
  clear k0 k1 k2 k3 k4 k5 k6 bx hW
  go_wp2_with fail
  refine wp_region_below_lit (W := w1) 13 (by kernel_rfl) (by kernel_rfl) (by decide) (Below.refl _ _) (by intro c d v a w h; cases d <;> exact h) ?_
  simp only [List.take_succ_cons, List.take_zero, List.drop_succ_cons, List.drop_zero]
  cases b <;> cases b'
  all_goals
    repeat (go_big_quiet_step (first | (go_at_call 191; refine quiet_below ((event_ph e _).mono fun r w' h => ⟨h.1.trans (by rw [← HE.out]), h.2⟩)) | (go_at_call 145; refine quiet_below ((thingOk_ph e _).mono fun r w' h => ⟨h.1.trans (by rw [← HO.out]), h.2⟩))))
    refine wpQuiet_nil ?_
    rintro _ ⟨x, rfl⟩
    clear c0 c1 c2 c3 c4 c5 c6
    go_wp2
    go_ret2
    refine ⟨?_, below_app HB x.h HB.size⟩
    unfold rv_ph
    rw [RT.out]
    rfl
def ev_sh (e : Ev) : Ev := ⟨1, e.sr, 0, e.si, e.nn, 0, false⟩
def ok_sh (e : Ev) : Bool := ib e.sr 1 99 && ib e.si 0 2 && ib e.nn 0 2147483647
set_option maxHeartbeats 2000000 in
theorem event_sh (e : Ev) (w : World) : Calls Tryz.prog 192 #[(.agg #[.int .i64 e.sr, .int .i64 e.si, .int .i64 e.nn])] w fun r w' => r = .returned (.agg #[.int .i64 (ev_sh e).kd, .int .i64 (ev_sh e).sr, .int .i64 (ev_sh e).pi, .int .i64 (ev_sh e).si, .int .i64 (ev_sh e).nn, .int .i64 (ev_sh e).zo, .bool (ev_sh e).be]) ∧ Below w.heap.size w w' := by
  go_enter Tryz.func192, Tryz.ntmps192
  go_wp2
  (try simp only [Exit.inBlock, Exit.then]); refine bodyPost_ret (results_cell_row rfl _ _ (w.heap.size + 1) _ _ _ _ rfl (heap_alloc2_new _ _ _) Tryz.underlying39 rfl (by kernel_rfl)) rfl ?_
  exact ⟨rfl, ((Below.refl _ w).alloc (Nat.le_refl _) _).alloc (by simp) _⟩
set_option maxHeartbeats 4000000 in
theorem thingOk_sh (e : Ev) (w : World) : Calls Tryz.prog 145 #[(.iface 183 (.agg #[.int .i64 e.sr, .int .i64 e.si, .int .i64 e.nn]))] w fun r w' => r = .returned (.bool (ok_sh e)) ∧ Below w.heap.size w w' := by
  have as_ph : ∀ w : World, (Instr.typeAssert (.iface 183 (.agg #[.int .i64 e.sr, .int .i64 e.si, .int .i64 e.nn])) 150 181 true).run Tryz.prog w = .ok (.tuple #[.agg #[.int .i64 0, .int .i64 0, .int .i64 0], .bool false]) w := run_as_no Tryz.underlying181 (by kernel_rfl) (by decide) _
  have as_sh : ∀ w : World, (Instr.typeAssert (.iface 183 (.agg #[.int .i64 e.sr, .int .i64 e.si, .int .i64 e.nn])) 150 183 true).run Tryz.prog w = .ok (.tuple #[(.agg #[.int .i64 e.sr, .int .i64 e.si, .int .i64 e.nn]), .bool true]) w := run_as_yes Tryz.underlying183 _
  go_enter Tryz.func145, Tryz.ntmps145
  go_wp2_with (first | (go_at_call 57; refine (isIdE_any _ _).mono ?_; rintro r w' ⟨rfl, rfl⟩) | (go_at_call 105; refine (isSide_any _ _).mono ?_; rintro r w' ⟨rfl, rfl⟩) | (go_at_call 119; refine (isAmount_any _ _).mono ?_; rintro r w' ⟨rfl, rfl⟩) | (go_at_call 163; refine (entryOk_any _ _ _ _ _).mono ?_; rintro r w' ⟨rfl, hbb⟩))
  all_goals go_ret
  all_goals refine ⟨ret_bool' ?_, ?_⟩
  all_goals first | exact (Below.refl _ w).alloc (Nat.le_refl _) _ | exact below_app ((Below.refl _ w).alloc (Nat.le_refl _) _) hbb (by simp) | (unfold ok_sh; simp_all)
set_option maxHeartbeats 4000000 in
theorem hurtOf_sh (e : Ev) (hp : e.pi = 0) (w : World) : Calls Tryz.prog 162 #[(.agg #[.int .i64 e.kd, .int .i64 e.sr, .int .i64 e.pi, .int .i64 e.si, .int .i64 e.nn, .int .i64 e.zo, .bool e.be])] w fun r w' => r = .returned (.iface 183 (.agg #[.int .i64 e.sr, .int .i64 e.si, .int .i64 e.nn])) ∧ Below w.heap.size w w' := by
  go_enter Tryz.func162, Tryz.ntmps162
  go_wp2
  go_ret
  exact ⟨rfl, (Below.refl _ w).alloc (Nat.le_refl _) _⟩
set_option maxHeartbeats 4000000 in
theorem thingOf_sh (e : Ev) (hk : e.kd = 1) (hp : e.pi = 0) (w : World) : Calls Tryz.prog 144 #[(.agg #[.int .i64 e.kd, .int .i64 e.sr, .int .i64 e.pi, .int .i64 e.si, .int .i64 e.nn, .int .i64 e.zo, .bool e.be])] w fun r w' => r = .returned (.tuple #[(.iface 183 (.agg #[.int .i64 e.sr, .int .i64 e.si, .int .i64 e.nn])), .bool true]) ∧ Below w.heap.size w w' := by
  obtain ⟨kd, sr, pi, si, nn, zo, be⟩ := e
  have hk' : kd = 1 := hk
  subst hk'
  have HP : Hid (pi = 0) := hp
  clear hp hk
  have HB := (Below.refl _ w).alloc (Nat.le_refl _) (.cells #[.int .i64 1, .int .i64 sr, .int .i64 pi, .int .i64 si, .int .i64 nn, .int .i64 zo, .bool be] 39)
  go_enter Tryz.func144, Tryz.ntmps144
  go_wp2_with (go_at_call 162; refine (hurtOf_sh ⟨1, sr, pi, si, nn, zo, be⟩ HP.out _).mono ?_; rintro r w' ⟨rfl, hbb⟩)
  go_ret2
  exact ⟨rfl, below_app HB hbb HB.size⟩
def rt_sh (e : Ev) : Bool := smE (ev_sh e) e && ok_sh e
def rv_sh (e : Ev) : Value := if rt_sh e then (.iface 183 (.agg #[.int .i64 e.sr, .int .i64 e.si, .int .i64 e.nn])) else .nilIface
set_option maxHeartbeats 8000000 in
theorem right_sh (e : Ev) (hk : e.kd = 1) (hp : e.pi = 0) (w : World) : Calls Tryz.prog 120 #[(.agg #[.int .i64 e.kd, .int .i64 e.sr, .int .i64 e.pi, .int .i64 e.si, .int .i64 e.nn, .int .i64 e.zo, .bool e.be])] w fun r w' => r = .returned (.tuple #[rv_sh e, .bool (rt_sh e)]) ∧ Below w.heap.size w w' := by
  have HB := (Below.refl _ w).alloc (Nat.le_refl _) (.cells #[.int .i64 e.kd, .int .i64 e.sr, .int .i64 e.pi, .int .i64 e.si, .int .i64 e.nn, .int .i64 e.zo, .bool e.be] 39)
  have bx := boxE_new w 39 e
  generalize hW : w.alloc (.cells #[.int .i64 e.kd, .int .i64 e.sr, .int .i64 e.pi, .int .i64 e.si, .int .i64 e.nn, .int .i64 e.zo, .bool e.be] 39) = W at HB bx
  obtain ⟨k0, k1, k2, k3, k4, k5, k6⟩ : Cells7 _ _ _ := bx.cells
  have TH := thingOf_sh e hk hp
  have HT : Hid (∀ w : World, Calls Tryz.prog 144 #[(.agg #[.int .i64 e.kd, .int .i64 e.sr, .int .i64 e.pi, .int .i64 e.si, .int .i64 e.nn, .int .i64 e.zo, .bool e.be])] w fun r w' => r = .returned (.tuple #[(.iface 183 (.agg #[.int .i64 e.sr, .int .i64 e.si, .int .i64 e.nn])), .bool true]) ∧ Below w.heap.size w w') := TH
  clear TH hk hp
  have ME : ∀ v : World, (method 306 183 (.agg #[.int .i64 e.sr, .int .i64 e.si, .int .i64 e.nn]) "loop.example/g00486/impl.event").run Tryz.prog v = .ok (192, (.agg #[.int .i64 e.sr, .int .i64 e.si, .int .i64 e.nn])) v := fun v => by kernel_rfl
  have EQ := fun v : World => run_eq_ev (ev_sh e) e v
  have RT : Hid (rt_sh e = (smE (ev_sh e) e && ok_sh e)) := rfl
  obtain ⟨b, hb⟩ : ∃ b, b = smE (ev_sh e) e := ⟨_, rfl⟩
  rw [← hb] at EQ RT
  obtain ⟨b', hb'⟩ : ∃ b, b = ok_sh e := ⟨_, rfl⟩
  rw [← hb'] at RT
  clear hb
  have HO : Hid (b' = ok_sh e) := hb'
  clear hb'
  obtain ⟨E, hE⟩ : ∃ E, E = ev_sh e := ⟨_, rfl⟩
  rw [← hE] at EQ
  have HE : Hid (E = ev_sh e) := hE
  clear hE
  go_enter Tryz.func120, Tryz.ntmps120
  go_wp2_with fail
  refine (HT.out _).mono ?_
  rintro r w1 ⟨rfl, hb1⟩
  clear k0 k1 k2 k3 k4 k5 k6
  obtain ⟨k0, k1, k2, k3, k4, k5, k6⟩ : Cells7 _ _ _ := bx.cells7 hb1
  replace HB := below_app HB hb1 HB.size
  clear hb1
  have hne := bw_ne w1
  have c0 := fun x : BW w1 => x.cell k0
  have c1 := fun x : BW w1 => x.cell k1
  have c2 := fun x : BW w1 => x.cell k2
  have c3 := fun x : BW w1 => x.cell k3
  have c4 := fun x : BW w1 => x.cell k4
  have c5 := fun x : BW w1 => x.cell k5
  have c6 := fun x : BW w1 => x.cell k6
  clear k0 k1 k2 k3 k4 k5 k6 bx hW
  go_wp2_with fail
  refine wp_region_below_lit (W := w1) 13 (by kernel_rfl) (by kernel_rfl) (by decide) (Below.refl _ _) (by intro c d v a w h; cases d <;> exact h) ?_
  simp only [List.take_succ_cons, List.take_zero, List.drop_succ_cons, List.drop_zero]
  cases b <;> cases b'
  all_goals
    repeat (go_big_quiet_step (first | (go_at_call 192; refine quiet_below ((event_sh e _).mono fun r w' h => ⟨h.1.trans (by rw [← HE.out]), h.2⟩)) | (go_at_call 145; refine quiet_below ((thingOk_sh e _).mono fun r w' h => ⟨h.1.trans (by rw [← HO.out]), h.2⟩))))
    refine wpQuiet_nil ?_
    rintro _ ⟨x, rfl⟩
    clear c0 c1 c2 c3 c4 c5 c6
    go_wp2
    go_ret2
    refine ⟨?_, below_app HB x.h HB.size⟩
    unfold rv_sh
    rw [RT.out]
    rfl
end Go.Proofs.YtodfdfncdoliiadGreat
namespace Go.Proofs.YtodfdfncdoliiadGreat
open Go.ChangeShapes Go.WideShapes Go.ChangeAt Go.RowKit
set_option maxRecDepth 100000
set_option linter.unusedVariables false
set_option linter.unusedSimpArgs false

def ev_pm (e : Ev) : Ev := ⟨2, 0, e.pi, -1, e.nn, e.zo, e.be⟩
def ok_pm (e : Ev) : Bool := ib e.pi 1 99 && enE e.zo e.nn e.be
set_option maxHeartbeats 2000000 in
theorem event_pm (e : Ev) (w : World) : Calls Tryz.prog 186 #[(.agg #[.int .i64 e.pi, .int .i64 e.zo, .int .i64 e.nn, .bool e.be])] w fun r w' => r = .returned (.agg #[.int .i64 (ev_pm e).kd, .int .i64 (ev_pm e).sr, .int .i64 (ev_pm e).pi, .int .i64 (ev_pm e).si, .int .i64 (ev_pm e).nn, .int .i64 (ev_pm e).zo, .bool (ev_pm e).be]) ∧ Below w.heap.size w w' := by
  go_enter Tryz.func186, Tryz.ntmps186
  go_wp2
  (try simp only [Exit.inBlock, Exit.then]); refine bodyPost_ret (results_cell_row rfl _ _ (w.heap.size + 1) _ _ _ _ rfl (heap_alloc2_new _ _ _) Tryz.underlying39 rfl (by kernel_rfl)) rfl ?_
  exact ⟨rfl, ((Below.refl _ w).alloc (Nat.le_refl _) _).alloc (by simp) _⟩
set_option maxHeartbeats 4000000 in
theorem thingOk_pm (e : Ev) (w : World) : Calls Tryz.prog 145 #[(.iface 173 (.agg #[.int .i64 e.pi, .int .i64 e.zo, .int .i64 e.nn, .bool e.be]))] w fun r w' => r = .returned (.bool (ok_pm e)) ∧ Below w.heap.size w w' := by
  have as_ph : ∀ w : World, (Instr.typeAssert (.iface 173 (.agg #[.int .i64 e.pi, .int .i64 e.zo, .int .i64 e.nn, .bool e.be])) 150 181 true).run Tryz.prog w = .ok (.tuple #[.agg #[.int .i64 0, .int .i64 0, .int .i64 0], .bool false]) w := run_as_no Tryz.underlying181 (by kernel_rfl) (by decide) _
  have as_sh : ∀ w : World, (Instr.typeAssert (.iface 173 (.agg #[.int .i64 e.pi, .int .i64 e.zo, .int .i64 e.nn, .bool e.be])) 150 183 true).run Tryz.prog w = .ok (.tuple #[.agg #[.int .i64 0, .int .i64 0, .int .i64 0], .bool false]) w := run_as_no Tryz.underlying183 (by kernel_rfl) (by decide) _
  have as_pm : ∀ w : World, (Instr.typeAssert (.iface 173 (.agg #[.int .i64 e.pi, .int .i64 e.zo, .int .i64 e.nn, .bool e.be])) 150 173 true).run Tryz.prog w = .ok (.tuple #[(.agg #[.int .i64 e.pi, .int .i64 e.zo, .int .i64 e.nn, .bool e.be]), .bool true]) w := run_as_yes Tryz.underlying173 _
  go_enter Tryz.func145, Tryz.ntmps145
  go_wp2_with (first | (go_at_call 57; refine (isIdE_any _ _).mono ?_; rintro r w' ⟨rfl, rfl⟩) | (go_at_call 105; refine (isSide_any _ _).mono ?_; rintro r w' ⟨rfl, rfl⟩) | (go_at_call 119; refine (isAmount_any _ _).mono ?_; rintro r w' ⟨rfl, rfl⟩) | (go_at_call 163; refine (entryOk_any _ _ _ _ _).mono ?_; rintro r w' ⟨rfl, hbb⟩))
  all_goals go_ret
  all_goals refine ⟨ret_bool' ?_, ?_⟩
  all_goals first | exact (Below.refl _ w).alloc (Nat.le_refl _) _ | exact below_app ((Below.refl _ w).alloc (Nat.le_refl _) _) hbb (by simp) | (unfold ok_pm; simp_all)
set_option maxHeartbeats 4000000 in
theorem thingOf_pm (e : Ev) (hk : e.kd = 2) (w : World) : Calls Tryz.prog 144 #[(.agg #[.int .i64 e.kd, .int .i64 e.sr, .int .i64 e.pi, .int .i64 e.si, .int .i64 e.nn, .int .i64 e.zo, .bool e.be])] w fun r w' => r = .returned (.tuple #[(.iface 173 (.agg #[.int .i64 e.pi, .int .i64 e.zo, .int .i64 e.nn, .bool e.be])), .bool true]) ∧ Below w.heap.size w w' := by
  go_enter Tryz.func144, Tryz.ntmps144
  go_wp2
  go_ret2
  exact ⟨rfl, (Below.refl _ w).alloc (Nat.le_refl _) _⟩
def rt_pm (e : Ev) : Bool := smE (ev_pm e) e && ok_pm e
def rv_pm (e : Ev) : Value := if rt_pm e then (.iface 173 (.agg #[.int .i64 e.pi, .int .i64 e.zo, .int .i64 e.nn, .bool e.be])) else .nilIface
set_option maxHeartbeats 8000000 in
theorem right_pm (e : Ev) (hk : e.kd = 2) (w : World) : Calls Tryz.prog 120 #[(.agg #[.int .i64 e.kd, .int .i64 e.sr, .int .i64 e.pi, .int .i64 e.si, .int .i64 e.nn, .int .i64 e.zo, .bool e.be])] w fun r w' => r = .returned (.tuple #[rv_pm e, .bool (rt_pm e)]) ∧ Below w.heap.size w w' := by
  have HB := (Below.refl _ w).alloc (Nat.le_refl _) (.cells #[.int .i64 e.kd, .int .i64 e.sr, .int .i64 e.pi, .int .i64 e.si, .int .i64 e.nn, .int .i64 e.zo, .bool e.be] 39)
  have bx := boxE_new w 39 e
  generalize hW : w.alloc (.cells #[.int .i64 e.kd, .int .i64 e.sr, .int .i64 e.pi, .int .i64 e.si, .int .i64 e.nn, .int .i64 e.zo, .bool e.be] 39) = W at HB bx
  obtain ⟨k0, k1, k2, k3, k4, k5, k6⟩ : Cells7 _ _ _ := bx.cells
  have TH := thingOf_pm e hk
  have HT : Hid (∀ w : World, Calls Tryz.prog 144 #[(.agg #[.int .i64 e.kd, .int .i64 e.sr, .int .i64 e.pi, .int .i64 e.si, .int .i64 e.nn, .int .i64 e.zo, .bool e.be])] w fun r w' => r = .returned (.tuple #[(.iface 173 (.agg #[.int .i64 e.pi, .int .i64 e.zo, .int .i64 e.nn, .bool e.be])), .bool true]) ∧ Below w.heap.size w w') := TH
  clear TH hk
  have ME : ∀ v : World, (method 306 173 (.agg #[.int .i64 e.pi, .int .i64 e.zo, .int .i64 e.nn, .bool e.be]) "loop.example/g00486/impl.event").run Tryz.prog v = .ok (186, (.agg #[.int .i64 e.pi, .int .i64 e.zo, .int .i64 e.nn, .bool e.be])) v := fun v => by kernel_rfl
  have EQ := fun v : World => run_eq_ev (ev_pm e) e v
  have RT : Hid (rt_pm e = (smE (ev_pm e) e && ok_pm e)) := rfl
  obtain ⟨b, hb⟩ : ∃ b, b = smE (ev_pm e) e := ⟨_, rfl⟩
  rw [← hb] at EQ RT
  obtain ⟨b', hb'⟩ : ∃ b, b = ok_pm e := ⟨_, rfl⟩
  rw [← hb'] at RT
  clear hb
  have HO : Hid (b' = ok_pm e) := hb'
  clear hb'
  obtain ⟨E, hE⟩ : ∃ E, E = ev_pm e := ⟨_, rfl⟩
  rw [← hE] at EQ
  have HE : Hid (E = ev_pm e) := hE
  clear hE
  go_enter Tryz.func120, Tryz.ntmps120
  go_wp2_with fail
  refine (HT.out _).mono ?_
  rintro r w1 ⟨rfl, hb1⟩
  clear k0 k1 k2 k3 k4 k5 k6
  obtain ⟨k0, k1, k2, k3, k4, k5, k6⟩ : Cells7 _ _ _ := bx.cells7 hb1
  replace HB := below_app HB hb1 HB.size
  clear hb1
  have hne := bw_ne w1
  have c0 := fun x : BW w1 => x.cell k0
  have c1 := fun x : BW w1 => x.cell k1
  have c2 := fun x : BW w1 => x.cell k2
  have c3 := fun x : BW w1 => x.cell k3
  have c4 := fun x : BW w1 => x.cell k4
  have c5 := fun x : BW w1 => x.cell k5
  have c6 := fun x : BW w1 => x.cell k6
  clear k0 k1 k2 k3 k4 k5 k6 bx hW
  go_wp2_with fail
  refine wp_region_below_lit (W := w1) 13 (by kernel_rfl) (by kernel_rfl) (by decide) (Below.refl _ _) (by intro c d v a w h; cases d <;> exact h) ?_
  simp only [List.take_succ_cons, List.take_zero, List.drop_succ_cons, List.drop_zero]
  cases b <;> cases b'
  all_goals
    repeat (go_big_quiet_step (first | (go_at_call 186; refine quiet_below ((event_pm e _).mono fun r w' h => ⟨h.1.trans (by rw [← HE.out]), h.2⟩)) | (go_at_call 145; refine quiet_below ((thingOk_pm e _).mono fun r w' h => ⟨h.1.trans (by rw [← HO.out]), h.2⟩))))
    refine wpQuiet_nil ?_
    rintro _ ⟨x, rfl⟩
    clear c0 c1 c2 c3 c4 c5 c6
    go_wp2
    go_ret2
    refine ⟨?_, below_app HB x.h HB.size⟩
    unfold rv_pm
    rw [RT.out]
    rfl
def ev_sg (e : Ev) : Ev := ⟨3, 0, 0, e.si, e.nn, 0, false⟩
def ok_sg (e : Ev) : Bool := ib e.si 0 2 && ib e.nn 0 2147483647
set_option maxHeartbeats 2000000 in
theorem event_sg (e : Ev) (w : World) : Calls Tryz.prog 187 #[(.agg #[.int .i64 e.si, .int .i64 e.nn])] w fun r w' => r = .returned (.agg #[.int .i64 (ev_sg e).kd, .int .i64 (ev_sg e).sr, .int .i64 (ev_sg e).pi, .int .i64 (ev_sg e).si, .int .i64 (ev_sg e).nn, .int .i64 (ev_sg e).zo, .bool (ev_sg e).be]) ∧ Below w.heap.size w w' := by
  go_enter Tryz.func187, Tryz.ntmps187
  go_wp2
  (try simp only [Exit.inBlock, Exit.then]); refine bodyPost_ret (results_cell_row rfl _ _ (w.heap.size + 1) _ _ _ _ rfl (heap_alloc2_new _ _ _) Tryz.underlying39 rfl (by kernel_rfl)) rfl ?_
  exact ⟨rfl, ((Below.refl _ w).alloc (Nat.le_refl _) _).alloc (by simp) _⟩
set_option maxHeartbeats 4000000 in
theorem thingOk_sg (e : Ev) (w : World) : Calls Tryz.prog 145 #[(.iface 175 (.agg #[.int .i64 e.si, .int .i64 e.nn]))] w fun r w' => r = .returned (.bool (ok_sg e)) ∧ Below w.heap.size w w' := by
  have as_ph : ∀ w : World, (Instr.typeAssert (.iface 175 (.agg #[.int .i64 e.si, .int .i64 e.nn])) 150 181 true).run Tryz.prog w = .ok (.tuple #[.agg #[.int .i64 0, .int .i64 0, .int .i64 0], .bool false]) w := run_as_no Tryz.underlying181 (by kernel_rfl) (by decide) _
  have as_sh : ∀ w : World, (Instr.typeAssert (.iface 175 (.agg #[.int .i64 e.si, .int .i64 e.nn])) 150 183 true).run Tryz.prog w = .ok (.tuple #[.agg #[.int .i64 0, .int .i64 0, .int .i64 0], .bool false]) w := run_as_no Tryz.underlying183 (by kernel_rfl) (by decide) _
  have as_pm : ∀ w : World, (Instr.typeAssert (.iface 175 (.agg #[.int .i64 e.si, .int .i64 e.nn])) 150 173 true).run Tryz.prog w = .ok (.tuple #[.agg #[.int .i64 0, .int .i64 0, .int .i64 0, .bool false], .bool false]) w := run_as_no Tryz.underlying173 (by kernel_rfl) (by decide) _
  have as_sg : ∀ w : World, (Instr.typeAssert (.iface 175 (.agg #[.int .i64 e.si, .int .i64 e.nn])) 150 175 true).run Tryz.prog w = .ok (.tuple #[(.agg #[.int .i64 e.si, .int .i64 e.nn]), .bool true]) w := run_as_yes Tryz.underlying175 _
  go_enter Tryz.func145, Tryz.ntmps145
  go_wp2_with (first | (go_at_call 57; refine (isIdE_any _ _).mono ?_; rintro r w' ⟨rfl, rfl⟩) | (go_at_call 105; refine (isSide_any _ _).mono ?_; rintro r w' ⟨rfl, rfl⟩) | (go_at_call 119; refine (isAmount_any _ _).mono ?_; rintro r w' ⟨rfl, rfl⟩) | (go_at_call 163; refine (entryOk_any _ _ _ _ _).mono ?_; rintro r w' ⟨rfl, hbb⟩))
  all_goals go_ret
  all_goals refine ⟨ret_bool' ?_, ?_⟩
  all_goals first | exact (Below.refl _ w).alloc (Nat.le_refl _) _ | exact below_app ((Below.refl _ w).alloc (Nat.le_refl _) _) hbb (by simp) | (unfold ok_sg; simp_all)
set_option maxHeartbeats 4000000 in
theorem thingOf_sg (e : Ev) (hk : e.kd = 3) (w : World) : Calls Tryz.prog 144 #[(.agg #[.int .i64 e.kd, .int .i64 e.sr, .int .i64 e.pi, .int .i64 e.si, .int .i64 e.nn, .int .i64 e.zo, .bool e.be])] w fun r w' => r = .returned (.tuple #[(.iface 175 (.agg #[.int .i64 e.si, .int .i64 e.nn])), .bool true]) ∧ Below w.heap.size w w' := by
  go_enter Tryz.func144, Tryz.ntmps144
  go_wp2
  go_ret2
  exact ⟨rfl, (Below.refl _ w).alloc (Nat.le_refl _) _⟩
def rt_sg (e : Ev) : Bool := smE (ev_sg e) e && ok_sg e
def rv_sg (e : Ev) : Value := if rt_sg e then (.iface 175 (.agg #[.int .i64 e.si, .int .i64 e.nn])) else .nilIface
set_option maxHeartbeats 8000000 in
theorem right_sg (e : Ev) (hk : e.kd = 3) (w : World) : Calls Tryz.prog 120 #[(.agg #[.int .i64 e.kd, .int .i64 e.sr, .int .i64 e.pi, .int .i64 e.si, .int .i64 e.nn, .int .i64 e.zo, .bool e.be])] w fun r w' => r = .returned (.tuple #[rv_sg e, .bool (rt_sg e)]) ∧ Below w.heap.size w w' := by
  have HB := (Below.refl _ w).alloc (Nat.le_refl _) (.cells #[.int .i64 e.kd, .int .i64 e.sr, .int .i64 e.pi, .int .i64 e.si, .int .i64 e.nn, .int .i64 e.zo, .bool e.be] 39)
  have bx := boxE_new w 39 e
  generalize hW : w.alloc (.cells #[.int .i64 e.kd, .int .i64 e.sr, .int .i64 e.pi, .int .i64 e.si, .int .i64 e.nn, .int .i64 e.zo, .bool e.be] 39) = W at HB bx
  obtain ⟨k0, k1, k2, k3, k4, k5, k6⟩ : Cells7 _ _ _ := bx.cells
  have TH := thingOf_sg e hk
  have HT : Hid (∀ w : World, Calls Tryz.prog 144 #[(.agg #[.int .i64 e.kd, .int .i64 e.sr, .int .i64 e.pi, .int .i64 e.si, .int .i64 e.nn, .int .i64 e.zo, .bool e.be])] w fun r w' => r = .returned (.tuple #[(.iface 175 (.agg #[.int .i64 e.si, .int .i64 e.nn])), .bool true]) ∧ Below w.heap.size w w') := TH
  clear TH hk
  have ME : ∀ v : World, (method 306 175 (.agg #[.int .i64 e.si, .int .i64 e.nn]) "loop.example/g00486/impl.event").run Tryz.prog v = .ok (187, (.agg #[.int .i64 e.si, .int .i64 e.nn])) v := fun v => by kernel_rfl
  have EQ := fun v : World => run_eq_ev (ev_sg e) e v
  have RT : Hid (rt_sg e = (smE (ev_sg e) e && ok_sg e)) := rfl
  obtain ⟨b, hb⟩ : ∃ b, b = smE (ev_sg e) e := ⟨_, rfl⟩
  rw [← hb] at EQ RT
  obtain ⟨b', hb'⟩ : ∃ b, b = ok_sg e := ⟨_, rfl⟩
  rw [← hb'] at RT
  clear hb
  have HO : Hid (b' = ok_sg e) := hb'
  clear hb'
  obtain ⟨E, hE⟩ : ∃ E, E = ev_sg e := ⟨_, rfl⟩
  rw [← hE] at EQ
  have HE : Hid (E = ev_sg e) := hE
  clear hE
  go_enter Tryz.func120, Tryz.ntmps120
  go_wp2_with fail
  refine (HT.out _).mono ?_
  rintro r w1 ⟨rfl, hb1⟩
  clear k0 k1 k2 k3 k4 k5 k6
  obtain ⟨k0, k1, k2, k3, k4, k5, k6⟩ : Cells7 _ _ _ := bx.cells7 hb1
  replace HB := below_app HB hb1 HB.size
  clear hb1
  have hne := bw_ne w1
  have c0 := fun x : BW w1 => x.cell k0
  have c1 := fun x : BW w1 => x.cell k1
  have c2 := fun x : BW w1 => x.cell k2
  have c3 := fun x : BW w1 => x.cell k3
  have c4 := fun x : BW w1 => x.cell k4
  have c5 := fun x : BW w1 => x.cell k5
  have c6 := fun x : BW w1 => x.cell k6
  clear k0 k1 k2 k3 k4 k5 k6 bx hW
  go_wp2_with fail
  refine wp_region_below_lit (W := w1) 13 (by kernel_rfl) (by kernel_rfl) (by decide) (Below.refl _ _) (by intro c d v a w h; cases d <;> exact h) ?_
  simp only [List.take_succ_cons, List.take_zero, List.drop_succ_cons, List.drop_zero]
  cases b <;> cases b'
  all_goals
    repeat (go_big_quiet_step (first | (go_at_call 187; refine quiet_below ((event_sg e _).mono fun r w' h => ⟨h.1.trans (by rw [← HE.out]), h.2⟩)) | (go_at_call 145; refine quiet_below ((thingOk_sg e _).mono fun r w' h => ⟨h.1.trans (by rw [← HO.out]), h.2⟩))))
    refine wpQuiet_nil ?_
    rintro _ ⟨x, rfl⟩
    clear c0 c1 c2 c3 c4 c5 c6
    go_wp2
    go_ret2
    refine ⟨?_, below_app HB x.h HB.size⟩
    unfold rv_sg
    rw [RT.out]
    rfl
end Go.Proofs.YtodfdfncdoliiadGreat
