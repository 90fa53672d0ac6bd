/-
  Chapter 6: the program's things, going on. Written by tools/ev.gen.py. Chapter 6: the program's things, going on. Written by tools/ev.gen.py. Chapter 6: the program's things, going on. Written by tools/ev.gen.py. Own work.
-/
import Derived.Test.YthemmhocnkpcjasEvC
namespace Go.Proofs.Ythemmhocnkpcjas
open Go.ChangeShapes Go.WideShapes Go.ChangeAt Go.RowKit
set_option maxRecDepth 100000
set_option linter.unusedVariables false
set_option linter.unusedSimpArgs false

def ev_ph (e : Ev) : Ev := ⟨1, e.sr, e.pi, -1, e.nn, 0, false⟩
def ok_ph (e : Ev) : Bool := ib e.sr 1 99 && ib e.pi 1 99 && ib e.nn 0 2147483647
set_option maxHeartbeats 2000000 in
theorem event_ph (e : Ev) (w : World) : Calls Try.prog 114 #[(.agg #[.int .i64 e.sr, .int .i64 e.pi, .int .i64 e.nn])] w fun r w' => r = .returned (.agg #[.int .i64 (ev_ph e).kd, .int .i64 (ev_ph e).sr, .int .i64 (ev_ph e).pi, .int .i64 (ev_ph e).si, .int .i64 (ev_ph e).nn, .int .i64 (ev_ph e).zo, .bool (ev_ph e).be]) ∧ Below w.heap.size w w' := by
  go_enter Try.func114, Try.ntmps114
  go_wp2
  (try simp only [Exit.inBlock, Exit.then]); refine bodyPost_ret (results_cell_row rfl _ _ (w.heap.size + 1) _ _ _ _ rfl (heap_alloc2_new _ _ _) Try.underlying36 rfl (by kernel_rfl)) rfl ?_
  exact ⟨rfl, ((Below.refl _ w).alloc (Nat.le_refl _) _).alloc (by simp) _⟩
set_option maxHeartbeats 4000000 in
theorem thingOk_ph (e : Ev) (w : World) : Calls Try.prog 91 #[(.iface 125 (.agg #[.int .i64 e.sr, .int .i64 e.pi, .int .i64 e.nn]))] w fun r w' => r = .returned (.bool (ok_ph e)) ∧ Below w.heap.size w w' := by
  have as_ph : ∀ w : World, (Instr.typeAssert (.iface 125 (.agg #[.int .i64 e.sr, .int .i64 e.pi, .int .i64 e.nn])) 110 125 true).run Try.prog w = .ok (.tuple #[(.agg #[.int .i64 e.sr, .int .i64 e.pi, .int .i64 e.nn]), .bool true]) w := run_as_yes Try.underlying125 _
  go_enter Try.func91, Try.ntmps91
  go_wp2_with (first | (go_at_call 49; refine (isIdE_any _ _).mono ?_; rintro r w' ⟨rfl, rfl⟩) | (go_at_call 67; refine (isSide_any _ _).mono ?_; rintro r w' ⟨rfl, rfl⟩) | (go_at_call 76; refine (isAmount_any _ _).mono ?_; rintro r w' ⟨rfl, rfl⟩) | (go_at_call 93; refine (entryOk_any _ _ _ _ _).mono ?_; rintro r w' ⟨rfl, hbb⟩))
  all_goals go_ret
  all_goals refine ⟨ret_bool' ?_, ?_⟩
  all_goals first | exact (Below.refl _ w).alloc (Nat.le_refl _) _ | exact below_app ((Below.refl _ w).alloc (Nat.le_refl _) _) hbb (by simp) | (unfold ok_ph; simp_all)
set_option maxHeartbeats 4000000 in
theorem hurtOf_ph (e : Ev) (hp : ¬ e.pi = 0) (w : World) : Calls Try.prog 92 #[(.agg #[.int .i64 e.kd, .int .i64 e.sr, .int .i64 e.pi, .int .i64 e.si, .int .i64 e.nn, .int .i64 e.zo, .bool e.be])] w fun r w' => r = .returned (.iface 125 (.agg #[.int .i64 e.sr, .int .i64 e.pi, .int .i64 e.nn])) ∧ Below w.heap.size w w' := by
  go_enter Try.func92, Try.ntmps92
  go_wp2
  go_ret
  exact ⟨rfl, (Below.refl _ w).alloc (Nat.le_refl _) _⟩
set_option maxHeartbeats 4000000 in
theorem thingOf_ph (e : Ev) (hk : e.kd = 1) (hp : ¬ e.pi = 0) (w : World) : Calls Try.prog 90 #[(.agg #[.int .i64 e.kd, .int .i64 e.sr, .int .i64 e.pi, .int .i64 e.si, .int .i64 e.nn, .int .i64 e.zo, .bool e.be])] w fun r w' => r = .returned (.tuple #[(.iface 125 (.agg #[.int .i64 e.sr, .int .i64 e.pi, .int .i64 e.nn])), .bool true]) ∧ Below w.heap.size w w' := by
  obtain ⟨kd, sr, pi, si, nn, zo, be⟩ := e
  have hk' : kd = 1 := hk
  subst hk'
  have HP : Hid (¬ pi = 0) := hp
  clear hp hk
  have HB := (Below.refl _ w).alloc (Nat.le_refl _) (.cells #[.int .i64 1, .int .i64 sr, .int .i64 pi, .int .i64 si, .int .i64 nn, .int .i64 zo, .bool be] 36)
  go_enter Try.func90, Try.ntmps90
  go_wp2_with (go_at_call 92; refine (hurtOf_ph ⟨1, sr, pi, si, nn, zo, be⟩ HP.out _).mono ?_; rintro r w' ⟨rfl, hbb⟩)
  go_ret2
  exact ⟨rfl, below_app HB hbb HB.size⟩
def rt_ph (e : Ev) : Bool := smE (ev_ph e) e && ok_ph e
def rv_ph (e : Ev) : Value := if rt_ph e then (.iface 125 (.agg #[.int .i64 e.sr, .int .i64 e.pi, .int .i64 e.nn])) else .nilIface
set_option maxHeartbeats 8000000 in
theorem right_ph (e : Ev) (hk : e.kd = 1) (hp : ¬ e.pi = 0) (w : World) : Calls Try.prog 89 #[(.agg #[.int .i64 e.kd, .int .i64 e.sr, .int .i64 e.pi, .int .i64 e.si, .int .i64 e.nn, .int .i64 e.zo, .bool e.be])] w fun r w' => r = .returned (.tuple #[rv_ph e, .bool (rt_ph e)]) ∧ Below w.heap.size w w' := by
  have HB := (Below.refl _ w).alloc (Nat.le_refl _) (.cells #[.int .i64 e.kd, .int .i64 e.sr, .int .i64 e.pi, .int .i64 e.si, .int .i64 e.nn, .int .i64 e.zo, .bool e.be] 36)
  have bx := boxE_new w 36 e
  generalize hW : w.alloc (.cells #[.int .i64 e.kd, .int .i64 e.sr, .int .i64 e.pi, .int .i64 e.si, .int .i64 e.nn, .int .i64 e.zo, .bool e.be] 36) = W at HB bx
  obtain ⟨k0, k1, k2, k3, k4, k5, k6⟩ : Cells7 _ _ _ := bx.cells
  have TH := thingOf_ph e hk hp
  have HT : Hid (∀ w : World, Calls Try.prog 90 #[(.agg #[.int .i64 e.kd, .int .i64 e.sr, .int .i64 e.pi, .int .i64 e.si, .int .i64 e.nn, .int .i64 e.zo, .bool e.be])] w fun r w' => r = .returned (.tuple #[(.iface 125 (.agg #[.int .i64 e.sr, .int .i64 e.pi, .int .i64 e.nn])), .bool true]) ∧ Below w.heap.size w w') := TH
  clear TH hk hp
  have ME : ∀ v : World, (method 246 125 (.agg #[.int .i64 e.sr, .int .i64 e.pi, .int .i64 e.nn]) "loop.example/g00486/impl.event").run Try.prog v = .ok (114, (.agg #[.int .i64 e.sr, .int .i64 e.pi, .int .i64 e.nn])) v := fun v => by kernel_rfl
  have EQ := fun v : World => run_eq_ev (ev_ph e) e v
  have RT : Hid (rt_ph e = (smE (ev_ph e) e && ok_ph e)) := rfl
  obtain ⟨b, hb⟩ : ∃ b, b = smE (ev_ph e) e := ⟨_, rfl⟩
  rw [← hb] at EQ RT
  obtain ⟨b', hb'⟩ : ∃ b, b = ok_ph e := ⟨_, rfl⟩
  rw [← hb'] at RT
  clear hb
  have HO : Hid (b' = ok_ph e) := hb'
  clear hb'
  obtain ⟨E, hE⟩ : ∃ E, E = ev_ph e := ⟨_, rfl⟩
  rw [← hE] at EQ
  have HE : Hid (E = ev_ph e) := hE
  clear hE
  go_enter Try.func89, Try.ntmps89
  go_wp2_with fail
  refine (HT.out _).mono ?_
  rintro r w1 ⟨rfl, hb1⟩
  clear k0 k1 k2 k3 k4 k5 k6
  obtain ⟨k0, k1, k2, k3, k4, k5, k6⟩ : Cells7 _ _ _ := bx.cells7 hb1
  replace HB := below_app HB hb1 HB.size
  clear hb1
  have hne := bw_ne w1
  have c0 := fun x : BW w1 => x.cell k0
  have c1 := fun x : BW w1 => x.cell k1
  have c2 := fun x : BW w1 => x.cell k2
  have c3 := fun x : BW w1 => x.cell k3
  have c4 := fun x : BW w1 => x.cell k4
  have c5 := fun x : BW w1 => x.cell k5
  have c6 := fun x : BW w1 => x.cell k6
  clear k0 k1 k2 k3 k4 k5 k6 bx hW
  go_wp2_with fail
  refine wp_region_below_lit (W := w1) 13 (by kernel_rfl) (by kernel_rfl) (by decide) (Below.refl _ _) (by intro c d v a w h; cases d <;> exact h) ?_
  simp only [List.take_succ_cons, List.take_zero, List.drop_succ_cons, List.drop_zero]
  cases b <;> cases b'
  all_goals
    repeat (go_big_quiet_step (first | (go_at_call 114; refine quiet_below ((event_ph e _).mono fun r w' h => ⟨h.1.trans (by rw [← HE.out]), h.2⟩)) | (go_at_call 91; refine quiet_below ((thingOk_ph e _).mono fun r w' h => ⟨h.1.trans (by rw [← HO.out]), h.2⟩))))
    refine wpQuiet_nil ?_
    rintro _ ⟨x, rfl⟩
    clear c0 c1 c2 c3 c4 c5 c6
    go_wp2
    go_ret2
    refine ⟨?_, below_app HB x.h HB.size⟩
    unfold rv_ph
    rw [RT.out]
    rfl
def ev_sh (e : Ev) : Ev := ⟨1, e.sr, 0, e.si, e.nn, 0, false⟩
def ok_sh (e : Ev) : Bool := ib e.sr 1 99 && ib e.si 0 2 && ib e.nn 0 2147483647
set_option maxHeartbeats 2000000 in
theorem event_sh (e : Ev) (w : World) : Calls Try.prog 115 #[(.agg #[.int .i64 e.sr, .int .i64 e.si, .int .i64 e.nn])] w fun r w' => r = .returned (.agg #[.int .i64 (ev_sh e).kd, .int .i64 (ev_sh e).sr, .int .i64 (ev_sh e).pi, .int .i64 (ev_sh e).si, .int .i64 (ev_sh e).nn, .int .i64 (ev_sh e).zo, .bool (ev_sh e).be]) ∧ Below w.heap.size w w' := by
  go_enter Try.func115, Try.ntmps115
  go_wp2
  (try simp only [Exit.inBlock, Exit.then]); refine bodyPost_ret (results_cell_row rfl _ _ (w.heap.size + 1) _ _ _ _ rfl (heap_alloc2_new _ _ _) Try.underlying36 rfl (by kernel_rfl)) rfl ?_
  exact ⟨rfl, ((Below.refl _ w).alloc (Nat.le_refl _) _).alloc (by simp) _⟩
set_option maxHeartbeats 4000000 in
theorem thingOk_sh (e : Ev) (w : World) : Calls Try.prog 91 #[(.iface 127 (.agg #[.int .i64 e.sr, .int .i64 e.si, .int .i64 e.nn]))] w fun r w' => r = .returned (.bool (ok_sh e)) ∧ Below w.heap.size w w' := by
  have as_ph : ∀ w : World, (Instr.typeAssert (.iface 127 (.agg #[.int .i64 e.sr, .int .i64 e.si, .int .i64 e.nn])) 110 125 true).run Try.prog w = .ok (.tuple #[.agg #[.int .i64 0, .int .i64 0, .int .i64 0], .bool false]) w := run_as_no Try.underlying125 (by kernel_rfl) (by decide) _
  have as_sh : ∀ w : World, (Instr.typeAssert (.iface 127 (.agg #[.int .i64 e.sr, .int .i64 e.si, .int .i64 e.nn])) 110 127 true).run Try.prog w = .ok (.tuple #[(.agg #[.int .i64 e.sr, .int .i64 e.si, .int .i64 e.nn]), .bool true]) w := run_as_yes Try.underlying127 _
  go_enter Try.func91, Try.ntmps91
  go_wp2_with (first | (go_at_call 49; refine (isIdE_any _ _).mono ?_; rintro r w' ⟨rfl, rfl⟩) | (go_at_call 67; refine (isSide_any _ _).mono ?_; rintro r w' ⟨rfl, rfl⟩) | (go_at_call 76; refine (isAmount_any _ _).mono ?_; rintro r w' ⟨rfl, rfl⟩) | (go_at_call 93; refine (entryOk_any _ _ _ _ _).mono ?_; rintro r w' ⟨rfl, hbb⟩))
  all_goals go_ret
  all_goals refine ⟨ret_bool' ?_, ?_⟩
  all_goals first | exact (Below.refl _ w).alloc (Nat.le_refl _) _ | exact below_app ((Below.refl _ w).alloc (Nat.le_refl _) _) hbb (by simp) | (unfold ok_sh; simp_all)
set_option maxHeartbeats 4000000 in
theorem hurtOf_sh (e : Ev) (hp : e.pi = 0) (w : World) : Calls Try.prog 92 #[(.agg #[.int .i64 e.kd, .int .i64 e.sr, .int .i64 e.pi, .int .i64 e.si, .int .i64 e.nn, .int .i64 e.zo, .bool e.be])] w fun r w' => r = .returned (.iface 127 (.agg #[.int .i64 e.sr, .int .i64 e.si, .int .i64 e.nn])) ∧ Below w.heap.size w w' := by
  go_enter Try.func92, Try.ntmps92
  go_wp2
  go_ret
  exact ⟨rfl, (Below.refl _ w).alloc (Nat.le_refl _) _⟩
set_option maxHeartbeats 4000000 in
theorem thingOf_sh (e : Ev) (hk : e.kd = 1) (hp : e.pi = 0) (w : World) : Calls Try.prog 90 #[(.agg #[.int .i64 e.kd, .int .i64 e.sr, .int .i64 e.pi, .int .i64 e.si, .int .i64 e.nn, .int .i64 e.zo, .bool e.be])] w fun r w' => r = .returned (.tuple #[(.iface 127 (.agg #[.int .i64 e.sr, .int .i64 e.si, .int .i64 e.nn])), .bool true]) ∧ Below w.heap.size w w' := by
  obtain ⟨kd, sr, pi, si, nn, zo, be⟩ := e
  have hk' : kd = 1 := hk
  subst hk'
  have HP : Hid (pi = 0) := hp
  clear hp hk
  have HB := (Below.refl _ w).alloc (Nat.le_refl _) (.cells #[.int .i64 1, .int .i64 sr, .int .i64 pi, .int .i64 si, .int .i64 nn, .int .i64 zo, .bool be] 36)
  go_enter Try.func90, Try.ntmps90
  go_wp2_with (go_at_call 92; refine (hurtOf_sh ⟨1, sr, pi, si, nn, zo, be⟩ HP.out _).mono ?_; rintro r w' ⟨rfl, hbb⟩)
  go_ret2
  exact ⟨rfl, below_app HB hbb HB.size⟩
def rt_sh (e : Ev) : Bool := smE (ev_sh e) e && ok_sh e
def rv_sh (e : Ev) : Value := if rt_sh e then (.iface 127 (.agg #[.int .i64 e.sr, .int .i64 e.si, .int .i64 e.nn])) else .nilIface
set_option maxHeartbeats 8000000 in
theorem right_sh (e : Ev) (hk : e.kd = 1) (hp : e.pi = 0) (w : World) : Calls Try.prog 89 #[(.agg #[.int .i64 e.kd, .int .i64 e.sr, .int .i64 e.pi, .int .i64 e.si, .int .i64 e.nn, .int .i64 e.zo, .bool e.be])] w fun r w' => r = .returned (.tuple #[rv_sh e, .bool (rt_sh e)]) ∧ Below w.heap.size w w' := by
  have HB := (Below.refl _ w).alloc (Nat.le_refl _) (.cells #[.int .i64 e.kd, .int .i64 e.sr, .int .i64 e.pi, .int .i64 e.si, .int .i64 e.nn, .int .i64 e.zo, .bool e.be] 36)
  have bx := boxE_new w 36 e
  generalize hW : w.alloc (.cells #[.int .i64 e.kd, .int .i64 e.sr, .int .i64 e.pi, .int .i64 e.si, .int .i64 e.nn, .int .i64 e.zo, .bool e.be] 36) = W at HB bx
  obtain ⟨k0, k1, k2, k3, k4, k5, k6⟩ : Cells7 _ _ _ := bx.cells
  have TH := thingOf_sh e hk hp
  have HT : Hid (∀ w : World, Calls Try.prog 90 #[(.agg #[.int .i64 e.kd, .int .i64 e.sr, .int .i64 e.pi, .int .i64 e.si, .int .i64 e.nn, .int .i64 e.zo, .bool e.be])] w fun r w' => r = .returned (.tuple #[(.iface 127 (.agg #[.int .i64 e.sr, .int .i64 e.si, .int .i64 e.nn])), .bool true]) ∧ Below w.heap.size w w') := TH
  clear TH hk hp
  have ME : ∀ v : World, (method 246 127 (.agg #[.int .i64 e.sr, .int .i64 e.si, .int .i64 e.nn]) "loop.example/g00486/impl.event").run Try.prog v = .ok (115, (.agg #[.int .i64 e.sr, .int .i64 e.si, .int .i64 e.nn])) v := fun v => by kernel_rfl
  have EQ := fun v : World => run_eq_ev (ev_sh e) e v
  have RT : Hid (rt_sh e = (smE (ev_sh e) e && ok_sh e)) := rfl
  obtain ⟨b, hb⟩ : ∃ b, b = smE (ev_sh e) e := ⟨_, rfl⟩
  rw [← hb] at EQ RT
  obtain ⟨b', hb'⟩ : ∃ b, b = ok_sh e := ⟨_, rfl⟩
  rw [← hb'] at RT
  clear hb
  have HO : Hid (b' = ok_sh e) := hb'
  clear hb'
  obtain ⟨E, hE⟩ : ∃ E, E = ev_sh e := ⟨_, rfl⟩
  rw [← hE] at EQ
  have HE : Hid (E = ev_sh e) := hE
  clear hE
  go_enter Try.func89, Try.ntmps89
  go_wp2_with fail
  refine (HT.out _).mono ?_
  rintro r w1 ⟨rfl, hb1⟩
  clear k0 k1 k2 k3 k4 k5 k6
  obtain ⟨k0, k1, k2, k3, k4, k5, k6⟩ : Cells7 _ _ _ := bx.cells7 hb1
  replace HB := below_app HB hb1 HB.size
  clear hb1
  have hne := bw_ne w1
  have c0 := fun x : BW w1 => x.cell k0
  have c1 := fun x : BW w1 => x.cell k1
  have c2 := fun x : BW w1 => x.cell k2
  have c3 := fun x : BW w1 => x.cell k3
  have c4 := fun x : BW w1 => x.cell k4
  have c5 := fun x : BW w1 => x.cell k5
  have c6 := fun x : BW w1 => x.cell k6
  clear k0 k1 k2 k3 k4 k5 k6 bx hW
  go_wp2_with fail
  refine wp_region_below_lit (W := w1) 13 (by kernel_rfl) (by kernel_rfl) (by decide) (Below.refl _ _) (by intro c d v a w h; cases d <;> exact h) ?_
  simp only [List.take_succ_cons, List.take_zero, List.drop_succ_cons, List.drop_zero]
  cases b <;> cases b'
  all_goals
    repeat (go_big_quiet_step (first | (go_at_call 115; refine quiet_below ((event_sh e _).mono fun r w' h => ⟨h.1.trans (by rw [← HE.out]), h.2⟩)) | (go_at_call 91; refine quiet_below ((thingOk_sh e _).mono fun r w' h => ⟨h.1.trans (by rw [← HO.out]), h.2⟩))))
    refine wpQuiet_nil ?_
    rintro _ ⟨x, rfl⟩
    clear c0 c1 c2 c3 c4 c5 c6
    go_wp2
    go_ret2
    refine ⟨?_, below_app HB x.h HB.size⟩
    unfold rv_sh
    rw [RT.out]
    rfl
end Go.Proofs.Ythemmhocnkpcjas
namespace Go.Proofs.Ythemmhocnkpcjas
open Go.ChangeShapes Go.WideShapes Go.ChangeAt Go.RowKit
set_option maxRecDepth 100000
set_option linter.unusedVariables false
set_option linter.unusedSimpArgs false

def ev_pm (e : Ev) : Ev := ⟨2, 0, e.pi, -1, e.nn, e.zo, e.be⟩
def ok_pm (e : Ev) : Bool := ib e.pi 1 99 && enE e.zo e.nn e.be
set_option maxHeartbeats 2000000 in
theorem event_pm (e : Ev) (w : World) : Calls Try.prog 109 #[(.agg #[.int .i64 e.pi, .int .i64 e.zo, .int .i64 e.nn, .bool e.be])] w fun r w' => r = .returned (.agg #[.int .i64 (ev_pm e).kd, .int .i64 (ev_pm e).sr, .int .i64 (ev_pm e).pi, .int .i64 (ev_pm e).si, .int .i64 (ev_pm e).nn, .int .i64 (ev_pm e).zo, .bool (ev_pm e).be]) ∧ Below w.heap.size w w' := by
  go_enter Try.func109, Try.ntmps109
  go_wp2
  (try simp only [Exit.inBlock, Exit.then]); refine bodyPost_ret (results_cell_row rfl _ _ (w.heap.size + 1) _ _ _ _ rfl (heap_alloc2_new _ _ _) Try.underlying36 rfl (by kernel_rfl)) rfl ?_
  exact ⟨rfl, ((Below.refl _ w).alloc (Nat.le_refl _) _).alloc (by simp) _⟩
set_option maxHeartbeats 4000000 in
theorem thingOk_pm (e : Ev) (w : World) : Calls Try.prog 91 #[(.iface 117 (.agg #[.int .i64 e.pi, .int .i64 e.zo, .int .i64 e.nn, .bool e.be]))] w fun r w' => r = .returned (.bool (ok_pm e)) ∧ Below w.heap.size w w' := by
  have as_ph : ∀ w : World, (Instr.typeAssert (.iface 117 (.agg #[.int .i64 e.pi, .int .i64 e.zo, .int .i64 e.nn, .bool e.be])) 110 125 true).run Try.prog w = .ok (.tuple #[.agg #[.int .i64 0, .int .i64 0, .int .i64 0], .bool false]) w := run_as_no Try.underlying125 (by kernel_rfl) (by decide) _
  have as_sh : ∀ w : World, (Instr.typeAssert (.iface 117 (.agg #[.int .i64 e.pi, .int .i64 e.zo, .int .i64 e.nn, .bool e.be])) 110 127 true).run Try.prog w = .ok (.tuple #[.agg #[.int .i64 0, .int .i64 0, .int .i64 0], .bool false]) w := run_as_no Try.underlying127 (by kernel_rfl) (by decide) _
  have as_pm : ∀ w : World, (Instr.typeAssert (.iface 117 (.agg #[.int .i64 e.pi, .int .i64 e.zo, .int .i64 e.nn, .bool e.be])) 110 117 true).run Try.prog w = .ok (.tuple #[(.agg #[.int .i64 e.pi, .int .i64 e.zo, .int .i64 e.nn, .bool e.be]), .bool true]) w := run_as_yes Try.underlying117 _
  go_enter Try.func91, Try.ntmps91
  go_wp2_with (first | (go_at_call 49; refine (isIdE_any _ _).mono ?_; rintro r w' ⟨rfl, rfl⟩) | (go_at_call 67; refine (isSide_any _ _).mono ?_; rintro r w' ⟨rfl, rfl⟩) | (go_at_call 76; refine (isAmount_any _ _).mono ?_; rintro r w' ⟨rfl, rfl⟩) | (go_at_call 93; refine (entryOk_any _ _ _ _ _).mono ?_; rintro r w' ⟨rfl, hbb⟩))
  all_goals go_ret
  all_goals refine ⟨ret_bool' ?_, ?_⟩
  all_goals first | exact (Below.refl _ w).alloc (Nat.le_refl _) _ | exact below_app ((Below.refl _ w).alloc (Nat.le_refl _) _) hbb (by simp) | (unfold ok_pm; simp_all)
set_option maxHeartbeats 4000000 in
theorem thingOf_pm (e : Ev) (hk : e.kd = 2) (w : World) : Calls Try.prog 90 #[(.agg #[.int .i64 e.kd, .int .i64 e.sr, .int .i64 e.pi, .int .i64 e.si, .int .i64 e.nn, .int .i64 e.zo, .bool e.be])] w fun r w' => r = .returned (.tuple #[(.iface 117 (.agg #[.int .i64 e.pi, .int .i64 e.zo, .int .i64 e.nn, .bool e.be])), .bool true]) ∧ Below w.heap.size w w' := by
  go_enter Try.func90, Try.ntmps90
  go_wp2
  go_ret2
  exact ⟨rfl, (Below.refl _ w).alloc (Nat.le_refl _) _⟩
def rt_pm (e : Ev) : Bool := smE (ev_pm e) e && ok_pm e
def rv_pm (e : Ev) : Value := if rt_pm e then (.iface 117 (.agg #[.int .i64 e.pi, .int .i64 e.zo, .int .i64 e.nn, .bool e.be])) else .nilIface
set_option maxHeartbeats 8000000 in
theorem right_pm (e : Ev) (hk : e.kd = 2) (w : World) : Calls Try.prog 89 #[(.agg #[.int .i64 e.kd, .int .i64 e.sr, .int .i64 e.pi, .int .i64 e.si, .int .i64 e.nn, .int .i64 e.zo, .bool e.be])] w fun r w' => r = .returned (.tuple #[rv_pm e, .bool (rt_pm e)]) ∧ Below w.heap.size w w' := by
  have HB := (Below.refl _ w).alloc (Nat.le_refl _) (.cells #[.int .i64 e.kd, .int .i64 e.sr, .int .i64 e.pi, .int .i64 e.si, .int .i64 e.nn, .int .i64 e.zo, .bool e.be] 36)
  have bx := boxE_new w 36 e
  generalize hW : w.alloc (.cells #[.int .i64 e.kd, .int .i64 e.sr, .int .i64 e.pi, .int .i64 e.si, .int .i64 e.nn, .int .i64 e.zo, .bool e.be] 36) = W at HB bx
  obtain ⟨k0, k1, k2, k3, k4, k5, k6⟩ : Cells7 _ _ _ := bx.cells
  have TH := thingOf_pm e hk
  have HT : Hid (∀ w : World, Calls Try.prog 90 #[(.agg #[.int .i64 e.kd, .int .i64 e.sr, .int .i64 e.pi, .int .i64 e.si, .int .i64 e.nn, .int .i64 e.zo, .bool e.be])] w fun r w' => r = .returned (.tuple #[(.iface 117 (.agg #[.int .i64 e.pi, .int .i64 e.zo, .int .i64 e.nn, .bool e.be])), .bool true]) ∧ Below w.heap.size w w') := TH
  clear TH hk
  have ME : ∀ v : World, (method 246 117 (.agg #[.int .i64 e.pi, .int .i64 e.zo, .int .i64 e.nn, .bool e.be]) "loop.example/g00486/impl.event").run Try.prog v = .ok (109, (.agg #[.int .i64 e.pi, .int .i64 e.zo, .int .i64 e.nn, .bool e.be])) v := fun v => by kernel_rfl
  have EQ := fun v : World => run_eq_ev (ev_pm e) e v
  have RT : Hid (rt_pm e = (smE (ev_pm e) e && ok_pm e)) := rfl
  obtain ⟨b, hb⟩ : ∃ b, b = smE (ev_pm e) e := ⟨_, rfl⟩
  rw [← hb] at EQ RT
  obtain ⟨b', hb'⟩ : ∃ b, b = ok_pm e := ⟨_, rfl⟩
  rw [← hb'] at RT
  clear hb
  have HO : Hid (b' = ok_pm e) := hb'
  clear hb'
  obtain ⟨E, hE⟩ : ∃ E, E = ev_pm e := ⟨_, rfl⟩
  rw [← hE] at EQ
  have HE : Hid (E = ev_pm e) := hE
  clear hE
  go_enter Try.func89, Try.ntmps89
  go_wp2_with fail
  refine (HT.out _).mono ?_
  rintro r w1 ⟨rfl, hb1⟩
  clear k0 k1 k2 k3 k4 k5 k6
  obtain ⟨k0, k1, k2, k3, k4, k5, k6⟩ : Cells7 _ _ _ := bx.cells7 hb1
  replace HB := below_app HB hb1 HB.size
  clear hb1
  have hne := bw_ne w1
  have c0 := fun x : BW w1 => x.cell k0
  have c1 := fun x : BW w1 => x.cell k1
  have c2 := fun x : BW w1 => x.cell k2
  have c3 := fun x : BW w1 => x.cell k3
  have c4 := fun x : BW w1 => x.cell k4
  have c5 := fun x : BW w1 => x.cell k5
  have c6 := fun x : BW w1 => x.cell k6
  clear k0 k1 k2 k3 k4 k5 k6 bx hW
  go_wp2_with fail
  refine wp_region_below_lit (W := w1) 13 (by kernel_rfl) (by kernel_rfl) (by decide) (Below.refl _ _) (by intro c d v a w h; cases d <;> exact h) ?_
  simp only [List.take_succ_cons, List.take_zero, List.drop_succ_cons, List.drop_zero]
  cases b <;> cases b'
  all_goals
    repeat (go_big_quiet_step (first | (go_at_call 109; refine quiet_below ((event_pm e _).mono fun r w' h => ⟨h.1.trans (by rw [← HE.out]), h.2⟩)) | (go_at_call 91; refine quiet_below ((thingOk_pm e _).mono fun r w' h => ⟨h.1.trans (by rw [← HO.out]), h.2⟩))))
    refine wpQuiet_nil ?_
    rintro _ ⟨x, rfl⟩
    clear c0 c1 c2 c3 c4 c5 c6
    go_wp2
    go_ret2
    refine ⟨?_, below_app HB x.h HB.size⟩
    unfold rv_pm
    rw [RT.out]
    rfl
def ev_sg (e : Ev) : Ev := ⟨3, 0, 0, e.si, e.nn, 0, false⟩
def ok_sg (e : Ev) : Bool := ib e.si 0 2 && ib e.nn 0 2147483647
set_option maxHeartbeats 2000000 in
theorem event_sg (e : Ev) (w : World) : Calls Try.prog 110 #[(.agg #[.int .i64 e.si, .int .i64 e.nn])] w fun r w' => r = .returned (.agg #[.int .i64 (ev_sg e).kd, .int .i64 (ev_sg e).sr, .int .i64 (ev_sg e).pi, .int .i64 (ev_sg e).si, .int .i64 (ev_sg e).nn, .int .i64 (ev_sg e).zo, .bool (ev_sg e).be]) ∧ Below w.heap.size w w' := by
  go_enter Try.func110, Try.ntmps110
  go_wp2
  (try simp only [Exit.inBlock, Exit.then]); refine bodyPost_ret (results_cell_row rfl _ _ (w.heap.size + 1) _ _ _ _ rfl (heap_alloc2_new _ _ _) Try.underlying36 rfl (by kernel_rfl)) rfl ?_
  exact ⟨rfl, ((Below.refl _ w).alloc (Nat.le_refl _) _).alloc (by simp) _⟩
set_option maxHeartbeats 4000000 in
theorem thingOk_sg (e : Ev) (w : World) : Calls Try.prog 91 #[(.iface 119 (.agg #[.int .i64 e.si, .int .i64 e.nn]))] w fun r w' => r = .returned (.bool (ok_sg e)) ∧ Below w.heap.size w w' := by
  have as_ph : ∀ w : World, (Instr.typeAssert (.iface 119 (.agg #[.int .i64 e.si, .int .i64 e.nn])) 110 125 true).run Try.prog w = .ok (.tuple #[.agg #[.int .i64 0, .int .i64 0, .int .i64 0], .bool false]) w := run_as_no Try.underlying125 (by kernel_rfl) (by decide) _
  have as_sh : ∀ w : World, (Instr.typeAssert (.iface 119 (.agg #[.int .i64 e.si, .int .i64 e.nn])) 110 127 true).run Try.prog w = .ok (.tuple #[.agg #[.int .i64 0, .int .i64 0, .int .i64 0], .bool false]) w := run_as_no Try.underlying127 (by kernel_rfl) (by decide) _
  have as_pm : ∀ w : World, (Instr.typeAssert (.iface 119 (.agg #[.int .i64 e.si, .int .i64 e.nn])) 110 117 true).run Try.prog w = .ok (.tuple #[.agg #[.int .i64 0, .int .i64 0, .int .i64 0, .bool false], .bool false]) w := run_as_no Try.underlying117 (by kernel_rfl) (by decide) _
  have as_sg : ∀ w : World, (Instr.typeAssert (.iface 119 (.agg #[.int .i64 e.si, .int .i64 e.nn])) 110 119 true).run Try.prog w = .ok (.tuple #[(.agg #[.int .i64 e.si, .int .i64 e.nn]), .bool true]) w := run_as_yes Try.underlying119 _
  go_enter Try.func91, Try.ntmps91
  go_wp2_with (first | (go_at_call 49; refine (isIdE_any _ _).mono ?_; rintro r w' ⟨rfl, rfl⟩) | (go_at_call 67; refine (isSide_any _ _).mono ?_; rintro r w' ⟨rfl, rfl⟩) | (go_at_call 76; refine (isAmount_any _ _).mono ?_; rintro r w' ⟨rfl, rfl⟩) | (go_at_call 93; refine (entryOk_any _ _ _ _ _).mono ?_; rintro r w' ⟨rfl, hbb⟩))
  all_goals go_ret
  all_goals refine ⟨ret_bool' ?_, ?_⟩
  all_goals first | exact (Below.refl _ w).alloc (Nat.le_refl _) _ | exact below_app ((Below.refl _ w).alloc (Nat.le_refl _) _) hbb (by simp) | (unfold ok_sg; simp_all)
set_option maxHeartbeats 4000000 in
theorem thingOf_sg (e : Ev) (hk : e.kd = 3) (w : World) : Calls Try.prog 90 #[(.agg #[.int .i64 e.kd, .int .i64 e.sr, .int .i64 e.pi, .int .i64 e.si, .int .i64 e.nn, .int .i64 e.zo, .bool e.be])] w fun r w' => r = .returned (.tuple #[(.iface 119 (.agg #[.int .i64 e.si, .int .i64 e.nn])), .bool true]) ∧ Below w.heap.size w w' := by
  go_enter Try.func90, Try.ntmps90
  go_wp2
  go_ret2
  exact ⟨rfl, (Below.refl _ w).alloc (Nat.le_refl _) _⟩
def rt_sg (e : Ev) : Bool := smE (ev_sg e) e && ok_sg e
def rv_sg (e : Ev) : Value := if rt_sg e then (.iface 119 (.agg #[.int .i64 e.si, .int .i64 e.nn])) else .nilIface
set_option maxHeartbeats 8000000 in
theorem right_sg (e : Ev) (hk : e.kd = 3) (w : World) : Calls Try.prog 89 #[(.agg #[.int .i64 e.kd, .int .i64 e.sr, .int .i64 e.pi, .int .i64 e.si, .int .i64 e.nn, .int .i64 e.zo, .bool e.be])] w fun r w' => r = .returned (.tuple #[rv_sg e, .bool (rt_sg e)]) ∧ Below w.heap.size w w' := by
  have HB := (Below.refl _ w).alloc (Nat.le_refl _) (.cells #[.int .i64 e.kd, .int .i64 e.sr, .int .i64 e.pi, .int .i64 e.si, .int .i64 e.nn, .int .i64 e.zo, .bool e.be] 36)
  have bx := boxE_new w 36 e
  generalize hW : w.alloc (.cells #[.int .i64 e.kd, .int .i64 e.sr, .int .i64 e.pi, .int .i64 e.si, .int .i64 e.nn, .int .i64 e.zo, .bool e.be] 36) = W at HB bx
  obtain ⟨k0, k1, k2, k3, k4, k5, k6⟩ : Cells7 _ _ _ := bx.cells
  have TH := thingOf_sg e hk
  have HT : Hid (∀ w : World, Calls Try.prog 90 #[(.agg #[.int .i64 e.kd, .int .i64 e.sr, .int .i64 e.pi, .int .i64 e.si, .int .i64 e.nn, .int .i64 e.zo, .bool e.be])] w fun r w' => r = .returned (.tuple #[(.iface 119 (.agg #[.int .i64 e.si, .int .i64 e.nn])), .bool true]) ∧ Below w.heap.size w w') := TH
  clear TH hk
  have ME : ∀ v : World, (method 246 119 (.agg #[.int .i64 e.si, .int .i64 e.nn]) "loop.example/g00486/impl.event").run Try.prog v = .ok (110, (.agg #[.int .i64 e.si, .int .i64 e.nn])) v := fun v => by kernel_rfl
  have EQ := fun v : World => run_eq_ev (ev_sg e) e v
  have RT : Hid (rt_sg e = (smE (ev_sg e) e && ok_sg e)) := rfl
  obtain ⟨b, hb⟩ : ∃ b, b = smE (ev_sg e) e := ⟨_, rfl⟩
  rw [← hb] at EQ RT
  obtain ⟨b', hb'⟩ : ∃ b, b = ok_sg e := ⟨_, rfl⟩
  rw [← hb'] at RT
  clear hb
  have HO : Hid (b' = ok_sg e) := hb'
  clear hb'
  obtain ⟨E, hE⟩ : ∃ E, E = ev_sg e := ⟨_, rfl⟩
  rw [← hE] at EQ
  have HE : Hid (E = ev_sg e) := hE
  clear hE
  go_enter Try.func89, Try.ntmps89
  go_wp2_with fail
  refine (HT.out _).mono ?_
  rintro r w1 ⟨rfl, hb1⟩
  clear k0 k1 k2 k3 k4 k5 k6
  obtain ⟨k0, k1, k2, k3, k4, k5, k6⟩ : Cells7 _ _ _ := bx.cells7 hb1
  replace HB := below_app HB hb1 HB.size
  clear hb1
  have hne := bw_ne w1
  have c0 := fun x : BW w1 => x.cell k0
  have c1 := fun x : BW w1 => x.cell k1
  have c2 := fun x : BW w1 => x.cell k2
  have c3 := fun x : BW w1 => x.cell k3
  have c4 := fun x : BW w1 => x.cell k4
  have c5 := fun x : BW w1 => x.cell k5
  have c6 := fun x : BW w1 => x.cell k6
  clear k0 k1 k2 k3 k4 k5 k6 bx hW
  go_wp2_with fail
  refine wp_region_below_lit (W := w1) 13 (by kernel_rfl) (by kernel_rfl) (by decide) (Below.refl _ _) (by intro c d v a w h; cases d <;> exact h) ?_
  simp only [List.take_succ_cons, List.take_zero, List.drop_succ_cons, List.drop_zero]
  cases b <;> cases b'
  all_goals
    repeat (go_big_quiet_step (first | (go_at_call 110; refine quiet_below ((event_sg e _).mono fun r w' h => ⟨h.1.trans (by rw [← HE.out]), h.2⟩)) | (go_at_call 91; refine quiet_below ((thingOk_sg e _).mono fun r w' h => ⟨h.1.trans (by rw [← HO.out]), h.2⟩))))
    refine wpQuiet_nil ?_
    rintro _ ⟨x, rfl⟩
    clear c0 c1 c2 c3 c4 c5 c6
    go_wp2
    go_ret2
    refine ⟨?_, below_app HB x.h HB.size⟩
    unfold rv_sg
    rw [RT.out]
    rfl
end Go.Proofs.Ythemmhocnkpcjas
namespace Go.Proofs.Ythemmhocnkpcjas
open Go.ChangeShapes Go.WideShapes Go.ChangeAt Go.RowKit
set_option maxRecDepth 100000
set_option linter.unusedVariables false
set_option linter.unusedSimpArgs false

def ev_sl (e : Ev) : Ev := ⟨4, 0, 0, e.si, e.nn, 0, false⟩
def ok_sl (e : Ev) : Bool := ib e.si 0 2 && ib e.nn 0 2147483647
set_option maxHeartbeats 2000000 in
theorem event_sl (e : Ev) (w : World) : Calls Try.prog 111 #[(.agg #[.int .i64 e.si, .int .i64 e.nn])] w fun r w' => r = .returned (.agg #[.int .i64 (ev_sl e).kd, .int .i64 (ev_sl e).sr, .int .i64 (ev_sl e).pi, .int .i64 (ev_sl e).si, .int .i64 (ev_sl e).nn, .int .i64 (ev_sl e).zo, .bool (ev_sl e).be]) ∧ Below w.heap.size w w' := by
  go_enter Try.func111, Try.ntmps111
  go_wp2
  (try simp only [Exit.inBlock, Exit.then]); refine bodyPost_ret (results_cell_row rfl _ _ (w.heap.size + 1) _ _ _ _ rfl (heap_alloc2_new _ _ _) Try.underlying36 rfl (by kernel_rfl)) rfl ?_
  exact ⟨rfl, ((Below.refl _ w).alloc (Nat.le_refl _) _).alloc (by simp) _⟩
set_option maxHeartbeats 4000000 in
theorem thingOk_sl (e : Ev) (w : World) : Calls Try.prog 91 #[(.iface 120 (.agg #[.int .i64 e.si, .int .i64 e.nn]))] w fun r w' => r = .returned (.bool (ok_sl e)) ∧ Below w.heap.size w w' := by
  have as_ph : ∀ w : World, (Instr.typeAssert (.iface 120 (.agg #[.int .i64 e.si, .int .i64 e.nn])) 110 125 true).run Try.prog w = .ok (.tuple #[.agg #[.int .i64 0, .int .i64 0, .int .i64 0], .bool false]) w := run_as_no Try.underlying125 (by kernel_rfl) (by decide) _
  have as_sh : ∀ w : World, (Instr.typeAssert (.iface 120 (.agg #[.int .i64 e.si, .int .i64 e.nn])) 110 127 true).run Try.prog w = .ok (.tuple #[.agg #[.int .i64 0, .int .i64 0, .int .i64 0], .bool false]) w := run_as_no Try.underlying127 (by kernel_rfl) (by decide) _
  have as_pm : ∀ w : World, (Instr.typeAssert (.iface 120 (.agg #[.int .i64 e.si, .int .i64 e.nn])) 110 117 true).run Try.prog w = .ok (.tuple #[.agg #[.int .i64 0, .int .i64 0, .int .i64 0, .bool false], .bool false]) w := run_as_no Try.underlying117 (by kernel_rfl) (by decide) _
  have as_sg : ∀ w : World, (Instr.typeAssert (.iface 120 (.agg #[.int .i64 e.si, .int .i64 e.nn])) 110 119 true).run Try.prog w = .ok (.tuple #[.agg #[.int .i64 0, .int .i64 0], .bool false]) w := run_as_no Try.underlying119 (by kernel_rfl) (by decide) _
  have as_sl : ∀ w : World, (Instr.typeAssert (.iface 120 (.agg #[.int .i64 e.si, .int .i64 e.nn])) 110 120 true).run Try.prog w = .ok (.tuple #[(.agg #[.int .i64 e.si, .int .i64 e.nn]), .bool true]) w := run_as_yes Try.underlying120 _
  go_enter Try.func91, Try.ntmps91
  go_wp2_with (first | (go_at_call 49; refine (isIdE_any _ _).mono ?_; rintro r w' ⟨rfl, rfl⟩) | (go_at_call 67; refine (isSide_any _ _).mono ?_; rintro r w' ⟨rfl, rfl⟩) | (go_at_call 76; refine (isAmount_any _ _).mono ?_; rintro r w' ⟨rfl, rfl⟩) | (go_at_call 93; refine (entryOk_any _ _ _ _ _).mono ?_; rintro r w' ⟨rfl, hbb⟩))
  all_goals go_ret
  all_goals refine ⟨ret_bool' ?_, ?_⟩
  all_goals first | exact (Below.refl _ w).alloc (Nat.le_refl _) _ | exact below_app ((Below.refl _ w).alloc (Nat.le_refl _) _) hbb (by simp) | (unfold ok_sl; simp_all)
set_option maxHeartbeats 4000000 in
theorem thingOf_sl (e : Ev) (hk : e.kd = 4) (w : World) : Calls Try.prog 90 #[(.agg #[.int .i64 e.kd, .int .i64 e.sr, .int .i64 e.pi, .int .i64 e.si, .int .i64 e.nn, .int .i64 e.zo, .bool e.be])] w fun r w' => r = .returned (.tuple #[(.iface 120 (.agg #[.int .i64 e.si, .int .i64 e.nn])), .bool true]) ∧ Below w.heap.size w w' := by
  go_enter Try.func90, Try.ntmps90
  go_wp2
  go_ret2
  exact ⟨rfl, (Below.refl _ w).alloc (Nat.le_refl _) _⟩
def rt_sl (e : Ev) : Bool := smE (ev_sl e) e && ok_sl e
def rv_sl (e : Ev) : Value := if rt_sl e then (.iface 120 (.agg #[.int .i64 e.si, .int .i64 e.nn])) else .nilIface
set_option maxHeartbeats 8000000 in
theorem right_sl (e : Ev) (hk : e.kd = 4) (w : World) : Calls Try.prog 89 #[(.agg #[.int .i64 e.kd, .int .i64 e.sr, .int .i64 e.pi, .int .i64 e.si, .int .i64 e.nn, .int .i64 e.zo, .bool e.be])] w fun r w' => r = .returned (.tuple #[rv_sl e, .bool (rt_sl e)]) ∧ Below w.heap.size w w' := by
  have HB := (Below.refl _ w).alloc (Nat.le_refl _) (.cells #[.int .i64 e.kd, .int .i64 e.sr, .int .i64 e.pi, .int .i64 e.si, .int .i64 e.nn, .int .i64 e.zo, .bool e.be] 36)
  have bx := boxE_new w 36 e
  generalize hW : w.alloc (.cells #[.int .i64 e.kd, .int .i64 e.sr, .int .i64 e.pi, .int .i64 e.si, .int .i64 e.nn, .int .i64 e.zo, .bool e.be] 36) = W at HB bx
  obtain ⟨k0, k1, k2, k3, k4, k5, k6⟩ : Cells7 _ _ _ := bx.cells
  have TH := thingOf_sl e hk
  have HT : Hid (∀ w : World, Calls Try.prog 90 #[(.agg #[.int .i64 e.kd, .int .i64 e.sr, .int .i64 e.pi, .int .i64 e.si, .int .i64 e.nn, .int .i64 e.zo, .bool e.be])] w fun r w' => r = .returned (.tuple #[(.iface 120 (.agg #[.int .i64 e.si, .int .i64 e.nn])), .bool true]) ∧ Below w.heap.size w w') := TH
  clear TH hk
  have ME : ∀ v : World, (method 246 120 (.agg #[.int .i64 e.si, .int .i64 e.nn]) "loop.example/g00486/impl.event").run Try.prog v = .ok (111, (.agg #[.int .i64 e.si, .int .i64 e.nn])) v := fun v => by kernel_rfl
  have EQ := fun v : World => run_eq_ev (ev_sl e) e v
  have RT : Hid (rt_sl e = (smE (ev_sl e) e && ok_sl e)) := rfl
  obtain ⟨b, hb⟩ : ∃ b, b = smE (ev_sl e) e := ⟨_, rfl⟩
  rw [← hb] at EQ RT
  obtain ⟨b', hb'⟩ : ∃ b, b = ok_sl e := ⟨_, rfl⟩
  rw [← hb'] at RT
  clear hb
  have HO : Hid (b' = ok_sl e) := hb'
  clear hb'
  obtain ⟨E, hE⟩ : ∃ E, E = ev_sl e := ⟨_, rfl⟩
  rw [← hE] at EQ
  have HE : Hid (E = ev_sl e) := hE
  clear hE
  go_enter Try.func89, Try.ntmps89
  go_wp2_with fail
  refine (HT.out _).mono ?_
  rintro r w1 ⟨rfl, hb1⟩
  clear k0 k1 k2 k3 k4 k5 k6
  obtain ⟨k0, k1, k2, k3, k4, k5, k6⟩ : Cells7 _ _ _ := bx.cells7 hb1
  replace HB := below_app HB hb1 HB.size
  clear hb1
  have hne := bw_ne w1
  have c0 := fun x : BW w1 => x.cell k0
  have c1 := fun x : BW w1 => x.cell k1
  have c2 := fun x : BW w1 => x.cell k2
  have c3 := fun x : BW w1 => x.cell k3
  have c4 := fun x : BW w1 => x.cell k4
  have c5 := fun x : BW w1 => x.cell k5
  have c6 := fun x : BW w1 => x.cell k6
  clear k0 k1 k2 k3 k4 k5 k6 bx hW
  go_wp2_with fail
  refine wp_region_below_lit (W := w1) 13 (by kernel_rfl) (by kernel_rfl) (by decide) (Below.refl _ _) (by intro c d v a w h; cases d <;> exact h) ?_
  simp only [List.take_succ_cons, List.take_zero, List.drop_succ_cons, List.drop_zero]
  cases b <;> cases b'
  all_goals
    repeat (go_big_quiet_step (first | (go_at_call 111; refine quiet_below ((event_sl e _).mono fun r w' h => ⟨h.1.trans (by rw [← HE.out]), h.2⟩)) | (go_at_call 91; refine quiet_below ((thingOk_sl e _).mono fun r w' h => ⟨h.1.trans (by rw [← HO.out]), h.2⟩))))
    refine wpQuiet_nil ?_
    rintro _ ⟨x, rfl⟩
    clear c0 c1 c2 c3 c4 c5 c6
    go_wp2
    go_ret2
    refine ⟨?_, below_app HB x.h HB.size⟩
    unfold rv_sl
    rw [RT.out]
    rfl
def ev_pp (e : Ev) : Ev := ⟨5, 0, e.pi, -1, e.nn, 0, false⟩
def ok_pp (e : Ev) : Bool := ib e.pi 1 99 && ib e.nn 0 2147483647
set_option maxHeartbeats 2000000 in
theorem event_pp (e : Ev) (w : World) : Calls Try.prog 112 #[(.agg #[.int .i64 e.pi, .int .i64 e.nn])] w fun r w' => r = .returned (.agg #[.int .i64 (ev_pp e).kd, .int .i64 (ev_pp e).sr, .int .i64 (ev_pp e).pi, .int .i64 (ev_pp e).si, .int .i64 (ev_pp e).nn, .int .i64 (ev_pp e).zo, .bool (ev_pp e).be]) ∧ Below w.heap.size w w' := by
  go_enter Try.func112, Try.ntmps112
  go_wp2
  (try simp only [Exit.inBlock, Exit.then]); refine bodyPost_ret (results_cell_row rfl _ _ (w.heap.size + 1) _ _ _ _ rfl (heap_alloc2_new _ _ _) Try.underlying36 rfl (by kernel_rfl)) rfl ?_
  exact ⟨rfl, ((Below.refl _ w).alloc (Nat.le_refl _) _).alloc (by simp) _⟩
set_option maxHeartbeats 4000000 in
theorem thingOk_pp (e : Ev) (w : World) : Calls Try.prog 91 #[(.iface 122 (.agg #[.int .i64 e.pi, .int .i64 e.nn]))] w fun r w' => r = .returned (.bool (ok_pp e)) ∧ Below w.heap.size w w' := by
  have as_ph : ∀ w : World, (Instr.typeAssert (.iface 122 (.agg #[.int .i64 e.pi, .int .i64 e.nn])) 110 125 true).run Try.prog w = .ok (.tuple #[.agg #[.int .i64 0, .int .i64 0, .int .i64 0], .bool false]) w := run_as_no Try.underlying125 (by kernel_rfl) (by decide) _
  have as_sh : ∀ w : World, (Instr.typeAssert (.iface 122 (.agg #[.int .i64 e.pi, .int .i64 e.nn])) 110 127 true).run Try.prog w = .ok (.tuple #[.agg #[.int .i64 0, .int .i64 0, .int .i64 0], .bool false]) w := run_as_no Try.underlying127 (by kernel_rfl) (by decide) _
  have as_pm : ∀ w : World, (Instr.typeAssert (.iface 122 (.agg #[.int .i64 e.pi, .int .i64 e.nn])) 110 117 true).run Try.prog w = .ok (.tuple #[.agg #[.int .i64 0, .int .i64 0, .int .i64 0, .bool false], .bool false]) w := run_as_no Try.underlying117 (by kernel_rfl) (by decide) _
  have as_sg : ∀ w : World, (Instr.typeAssert (.iface 122 (.agg #[.int .i64 e.pi, .int .i64 e.nn])) 110 119 true).run Try.prog w = .ok (.tuple #[.agg #[.int .i64 0, .int .i64 0], .bool false]) w := run_as_no Try.underlying119 (by kernel_rfl) (by decide) _
  have as_sl : ∀ w : World, (Instr.typeAssert (.iface 122 (.agg #[.int .i64 e.pi, .int .i64 e.nn])) 110 120 true).run Try.prog w = .ok (.tuple #[.agg #[.int .i64 0, .int .i64 0], .bool false]) w := run_as_no Try.underlying120 (by kernel_rfl) (by decide) _
  have as_pp : ∀ w : World, (Instr.typeAssert (.iface 122 (.agg #[.int .i64 e.pi, .int .i64 e.nn])) 110 122 true).run Try.prog w = .ok (.tuple #[(.agg #[.int .i64 e.pi, .int .i64 e.nn]), .bool true]) w := run_as_yes Try.underlying122 _
  go_enter Try.func91, Try.ntmps91
  go_wp2_with (first | (go_at_call 49; refine (isIdE_any _ _).mono ?_; rintro r w' ⟨rfl, rfl⟩) | (go_at_call 67; refine (isSide_any _ _).mono ?_; rintro r w' ⟨rfl, rfl⟩) | (go_at_call 76; refine (isAmount_any _ _).mono ?_; rintro r w' ⟨rfl, rfl⟩) | (go_at_call 93; refine (entryOk_any _ _ _ _ _).mono ?_; rintro r w' ⟨rfl, hbb⟩))
  all_goals go_ret
  all_goals refine ⟨ret_bool' ?_, ?_⟩
  all_goals first | exact (Below.refl _ w).alloc (Nat.le_refl _) _ | exact below_app ((Below.refl _ w).alloc (Nat.le_refl _) _) hbb (by simp) | (unfold ok_pp; simp_all)
set_option maxHeartbeats 4000000 in
theorem thingOf_pp (e : Ev) (hk : e.kd = 5) (w : World) : Calls Try.prog 90 #[(.agg #[.int .i64 e.kd, .int .i64 e.sr, .int .i64 e.pi, .int .i64 e.si, .int .i64 e.nn, .int .i64 e.zo, .bool e.be])] w fun r w' => r = .returned (.tuple #[(.iface 122 (.agg #[.int .i64 e.pi, .int .i64 e.nn])), .bool true]) ∧ Below w.heap.size w w' := by
  go_enter Try.func90, Try.ntmps90
  go_wp2
  go_ret2
  exact ⟨rfl, (Below.refl _ w).alloc (Nat.le_refl _) _⟩
def rt_pp (e : Ev) : Bool := smE (ev_pp e) e && ok_pp e
def rv_pp (e : Ev) : Value := if rt_pp e then (.iface 122 (.agg #[.int .i64 e.pi, .int .i64 e.nn])) else .nilIface
set_option maxHeartbeats 8000000 in
theorem right_pp (e : Ev) (hk : e.kd = 5) (w : World) : Calls Try.prog 89 #[(.agg #[.int .i64 e.kd, .int .i64 e.sr, .int .i64 e.pi, .int .i64 e.si, .int .i64 e.nn, .int .i64 e.zo, .bool e.be])] w fun r w' => r = .returned (.tuple #[rv_pp e, .bool (rt_pp e)]) ∧ Below w.heap.size w w' := by
  have HB := (Below.refl _ w).alloc (Nat.le_refl _) (.cells #[.int .i64 e.kd, .int .i64 e.sr, .int .i64 e.pi, .int .i64 e.si, .int .i64 e.nn, .int .i64 e.zo, .bool e.be] 36)
  have bx := boxE_new w 36 e
  generalize hW : w.alloc (.cells #[.int .i64 e.kd, .int .i64 e.sr, .int .i64 e.pi, .int .i64 e.si, .int .i64 e.nn, .int .i64 e.zo, .bool e.be] 36) = W at HB bx
  obtain ⟨k0, k1, k2, k3, k4, k5, k6⟩ : Cells7 _ _ _ := bx.cells
  have TH := thingOf_pp e hk
  have HT : Hid (∀ w : World, Calls Try.prog 90 #[(.agg #[.int .i64 e.kd, .int .i64 e.sr, .int .i64 e.pi, .int .i64 e.si, .int .i64 e.nn, .int .i64 e.zo, .bool e.be])] w fun r w' => r = .returned (.tuple #[(.iface 122 (.agg #[.int .i64 e.pi, .int .i64 e.nn])), .bool true]) ∧ Below w.heap.size w w') := TH
  clear TH hk
  have ME : ∀ v : World, (method 246 122 (.agg #[.int .i64 e.pi, .int .i64 e.nn]) "loop.example/g00486/impl.event").run Try.prog v = .ok (112, (.agg #[.int .i64 e.pi, .int .i64 e.nn])) v := fun v => by kernel_rfl
  have EQ := fun v : World => run_eq_ev (ev_pp e) e v
  have RT : Hid (rt_pp e = (smE (ev_pp e) e && ok_pp e)) := rfl
  obtain ⟨b, hb⟩ : ∃ b, b = smE (ev_pp e) e := ⟨_, rfl⟩
  rw [← hb] at EQ RT
  obtain ⟨b', hb'⟩ : ∃ b, b = ok_pp e := ⟨_, rfl⟩
  rw [← hb'] at RT
  clear hb
  have HO : Hid (b' = ok_pp e) := hb'
  clear hb'
  obtain ⟨E, hE⟩ : ∃ E, E = ev_pp e := ⟨_, rfl⟩
  rw [← hE] at EQ
  have HE : Hid (E = ev_pp e) := hE
  clear hE
  go_enter Try.func89, Try.ntmps89
  go_wp2_with fail
  refine (HT.out _).mono ?_
  rintro r w1 ⟨rfl, hb1⟩
  clear k0 k1 k2 k3 k4 k5 k6
  obtain ⟨k0, k1, k2, k3, k4, k5, k6⟩ : Cells7 _ _ _ := bx.cells7 hb1
  replace HB := below_app HB hb1 HB.size
  clear hb1
  have hne := bw_ne w1
  have c0 := fun x : BW w1 => x.cell k0
  have c1 := fun x : BW w1 => x.cell k1
  have c2 := fun x : BW w1 => x.cell k2
  have c3 := fun x : BW w1 => x.cell k3
  have c4 := fun x : BW w1 => x.cell k4
  have c5 := fun x : BW w1 => x.cell k5
  have c6 := fun x : BW w1 => x.cell k6
  clear k0 k1 k2 k3 k4 k5 k6 bx hW
  go_wp2_with fail
  refine wp_region_below_lit (W := w1) 13 (by kernel_rfl) (by kernel_rfl) (by decide) (Below.refl _ _) (by intro c d v a w h; cases d <;> exact h) ?_
  simp only [List.take_succ_cons, List.take_zero, List.drop_succ_cons, List.drop_zero]
  cases b <;> cases b'
  all_goals
    repeat (go_big_quiet_step (first | (go_at_call 112; refine quiet_below ((event_pp e _).mono fun r w' h => ⟨h.1.trans (by rw [← HE.out]), h.2⟩)) | (go_at_call 91; refine quiet_below ((thingOk_pp e _).mono fun r w' h => ⟨h.1.trans (by rw [← HO.out]), h.2⟩))))
    refine wpQuiet_nil ?_
    rintro _ ⟨x, rfl⟩
    clear c0 c1 c2 c3 c4 c5 c6
    go_wp2
    go_ret2
    refine ⟨?_, below_app HB x.h HB.size⟩
    unfold rv_pp
    rw [RT.out]
    rfl
def ev_pc (e : Ev) : Ev := ⟨6, 0, e.pi, -1, e.nn, 0, false⟩
def ok_pc (e : Ev) : Bool := ib e.pi 1 99 && ib e.nn 0 2147483647
set_option maxHeartbeats 2000000 in
theorem event_pc (e : Ev) (w : World) : Calls Try.prog 113 #[(.agg #[.int .i64 e.pi, .int .i64 e.nn])] w fun r w' => r = .returned (.agg #[.int .i64 (ev_pc e).kd, .int .i64 (ev_pc e).sr, .int .i64 (ev_pc e).pi, .int .i64 (ev_pc e).si, .int .i64 (ev_pc e).nn, .int .i64 (ev_pc e).zo, .bool (ev_pc e).be]) ∧ Below w.heap.size w w' := by
  go_enter Try.func113, Try.ntmps113
  go_wp2
  (try simp only [Exit.inBlock, Exit.then]); refine bodyPost_ret (results_cell_row rfl _ _ (w.heap.size + 1) _ _ _ _ rfl (heap_alloc2_new _ _ _) Try.underlying36 rfl (by kernel_rfl)) rfl ?_
  exact ⟨rfl, ((Below.refl _ w).alloc (Nat.le_refl _) _).alloc (by simp) _⟩
set_option maxHeartbeats 4000000 in
theorem thingOk_pc (e : Ev) (w : World) : Calls Try.prog 91 #[(.iface 123 (.agg #[.int .i64 e.pi, .int .i64 e.nn]))] w fun r w' => r = .returned (.bool (ok_pc e)) ∧ Below w.heap.size w w' := by
  have as_ph : ∀ w : World, (Instr.typeAssert (.iface 123 (.agg #[.int .i64 e.pi, .int .i64 e.nn])) 110 125 true).run Try.prog w = .ok (.tuple #[.agg #[.int .i64 0, .int .i64 0, .int .i64 0], .bool false]) w := run_as_no Try.underlying125 (by kernel_rfl) (by decide) _
  have as_sh : ∀ w : World, (Instr.typeAssert (.iface 123 (.agg #[.int .i64 e.pi, .int .i64 e.nn])) 110 127 true).run Try.prog w = .ok (.tuple #[.agg #[.int .i64 0, .int .i64 0, .int .i64 0], .bool false]) w := run_as_no Try.underlying127 (by kernel_rfl) (by decide) _
  have as_pm : ∀ w : World, (Instr.typeAssert (.iface 123 (.agg #[.int .i64 e.pi, .int .i64 e.nn])) 110 117 true).run Try.prog w = .ok (.tuple #[.agg #[.int .i64 0, .int .i64 0, .int .i64 0, .bool false], .bool false]) w := run_as_no Try.underlying117 (by kernel_rfl) (by decide) _
  have as_sg : ∀ w : World, (Instr.typeAssert (.iface 123 (.agg #[.int .i64 e.pi, .int .i64 e.nn])) 110 119 true).run Try.prog w = .ok (.tuple #[.agg #[.int .i64 0, .int .i64 0], .bool false]) w := run_as_no Try.underlying119 (by kernel_rfl) (by decide) _
  have as_sl : ∀ w : World, (Instr.typeAssert (.iface 123 (.agg #[.int .i64 e.pi, .int .i64 e.nn])) 110 120 true).run Try.prog w = .ok (.tuple #[.agg #[.int .i64 0, .int .i64 0], .bool false]) w := run_as_no Try.underlying120 (by kernel_rfl) (by decide) _
  have as_pp : ∀ w : World, (Instr.typeAssert (.iface 123 (.agg #[.int .i64 e.pi, .int .i64 e.nn])) 110 122 true).run Try.prog w = .ok (.tuple #[.agg #[.int .i64 0, .int .i64 0], .bool false]) w := run_as_no Try.underlying122 (by kernel_rfl) (by decide) _
  have as_pc : ∀ w : World, (Instr.typeAssert (.iface 123 (.agg #[.int .i64 e.pi, .int .i64 e.nn])) 110 123 true).run Try.prog w = .ok (.tuple #[(.agg #[.int .i64 e.pi, .int .i64 e.nn]), .bool true]) w := run_as_yes Try.underlying123 _
  go_enter Try.func91, Try.ntmps91
  go_wp2_with (first | (go_at_call 49; refine (isIdE_any _ _).mono ?_; rintro r w' ⟨rfl, rfl⟩) | (go_at_call 67; refine (isSide_any _ _).mono ?_; rintro r w' ⟨rfl, rfl⟩) | (go_at_call 76; refine (isAmount_any _ _).mono ?_; rintro r w' ⟨rfl, rfl⟩) | (go_at_call 93; refine (entryOk_any _ _ _ _ _).mono ?_; rintro r w' ⟨rfl, hbb⟩))
  all_goals go_ret
  all_goals refine ⟨ret_bool' ?_, ?_⟩
  all_goals first | exact (Below.refl _ w).alloc (Nat.le_refl _) _ | exact below_app ((Below.refl _ w).alloc (Nat.le_refl _) _) hbb (by simp) | (unfold ok_pc; simp_all)
set_option maxHeartbeats 4000000 in
theorem thingOf_pc (e : Ev) (hk : e.kd = 6) (w : World) : Calls Try.prog 90 #[(.agg #[.int .i64 e.kd, .int .i64 e.sr, .int .i64 e.pi, .int .i64 e.si, .int .i64 e.nn, .int .i64 e.zo, .bool e.be])] w fun r w' => r = .returned (.tuple #[(.iface 123 (.agg #[.int .i64 e.pi, .int .i64 e.nn])), .bool true]) ∧ Below w.heap.size w w' := by
  go_enter Try.func90, Try.ntmps90
  go_wp2
  go_ret2
  exact ⟨rfl, (Below.refl _ w).alloc (Nat.le_refl _) _⟩
def rt_pc (e : Ev) : Bool := smE (ev_pc e) e && ok_pc e
def rv_pc (e : Ev) : Value := if rt_pc e then (.iface 123 (.agg #[.int .i64 e.pi, .int .i64 e.nn])) else .nilIface
set_option maxHeartbeats 8000000 in
theorem right_pc (e : Ev) (hk : e.kd = 6) (w : World) : Calls Try.prog 89 #[(.agg #[.int .i64 e.kd, .int .i64 e.sr, .int .i64 e.pi, .int .i64 e.si, .int .i64 e.nn, .int .i64 e.zo, .bool e.be])] w fun r w' => r = .returned (.tuple #[rv_pc e, .bool (rt_pc e)]) ∧ Below w.heap.size w w' := by
  have HB := (Below.refl _ w).alloc (Nat.le_refl _) (.cells #[.int .i64 e.kd, .int .i64 e.sr, .int .i64 e.pi, .int .i64 e.si, .int .i64 e.nn, .int .i64 e.zo, .bool e.be] 36)
  have bx := boxE_new w 36 e
  generalize hW : w.alloc (.cells #[.int .i64 e.kd, .int .i64 e.sr, .int .i64 e.pi, .int .i64 e.si, .int .i64 e.nn, .int .i64 e.zo, .bool e.be] 36) = W at HB bx
  obtain ⟨k0, k1, k2, k3, k4, k5, k6⟩ : Cells7 _ _ _ := bx.cells
  have TH := thingOf_pc e hk
  have HT : Hid (∀ w : World, Calls Try.prog 90 #[(.agg #[.int .i64 e.kd, .int .i64 e.sr, .int .i64 e.pi, .int .i64 e.si, .int .i64 e.nn, .int .i64 e.zo, .bool e.be])] w fun r w' => r = .returned (.tuple #[(.iface 123 (.agg #[.int .i64 e.pi, .int .i64 e.nn])), .bool true]) ∧ Below w.heap.size w w') := TH
  clear TH hk
  have ME : ∀ v : World, (method 246 123 (.agg #[.int .i64 e.pi, .int .i64 e.nn]) "loop.example/g00486/impl.event").run Try.prog v = .ok (113, (.agg #[.int .i64 e.pi, .int .i64 e.nn])) v := fun v => by kernel_rfl
  have EQ := fun v : World => run_eq_ev (ev_pc e) e v
  have RT : Hid (rt_pc e = (smE (ev_pc e) e && ok_pc e)) := rfl
  obtain ⟨b, hb⟩ : ∃ b, b = smE (ev_pc e) e := ⟨_, rfl⟩
  rw [← hb] at EQ RT
  obtain ⟨b', hb'⟩ : ∃ b, b = ok_pc e := ⟨_, rfl⟩
  rw [← hb'] at RT
  clear hb
  have HO : Hid (b' = ok_pc e) := hb'
  clear hb'
  obtain ⟨E, hE⟩ : ∃ E, E = ev_pc e := ⟨_, rfl⟩
  rw [← hE] at EQ
  have HE : Hid (E = ev_pc e) := hE
  clear hE
  go_enter Try.func89, Try.ntmps89
  go_wp2_with fail
  refine (HT.out _).mono ?_
  rintro r w1 ⟨rfl, hb1⟩
  clear k0 k1 k2 k3 k4 k5 k6
  obtain ⟨k0, k1, k2, k3, k4, k5, k6⟩ : Cells7 _ _ _ := bx.cells7 hb1
  replace HB := below_app HB hb1 HB.size
  clear hb1
  have hne := bw_ne w1
  have c0 := fun x : BW w1 => x.cell k0
  have c1 := fun x : BW w1 => x.cell k1
  have c2 := fun x : BW w1 => x.cell k2
  have c3 := fun x : BW w1 => x.cell k3
  have c4 := fun x : BW w1 => x.cell k4
  have c5 := fun x : BW w1 => x.cell k5
  have c6 := fun x : BW w1 => x.cell k6
  clear k0 k1 k2 k3 k4 k5 k6 bx hW
  go_wp2_with fail
  refine wp_region_below_lit (W := w1) 13 (by kernel_rfl) (by kernel_rfl) (by decide) (Below.refl _ _) (by intro c d v a w h; cases d <;> exact h) ?_
  simp only [List.take_succ_cons, List.take_zero, List.drop_succ_cons, List.drop_zero]
  cases b <;> cases b'
  all_goals
    repeat (go_big_quiet_step (first | (go_at_call 113; refine quiet_below ((event_pc e _).mono fun r w' h => ⟨h.1.trans (by rw [← HE.out]), h.2⟩)) | (go_at_call 91; refine quiet_below ((thingOk_pc e _).mono fun r w' h => ⟨h.1.trans (by rw [← HO.out]), h.2⟩))))
    refine wpQuiet_nil ?_
    rintro _ ⟨x, rfl⟩
    clear c0 c1 c2 c3 c4 c5 c6
    go_wp2
    go_ret2
    refine ⟨?_, below_app HB x.h HB.size⟩
    unfold rv_pc
    rw [RT.out]
    rfl
end Go.Proofs.Ythemmhocnkpcjas
