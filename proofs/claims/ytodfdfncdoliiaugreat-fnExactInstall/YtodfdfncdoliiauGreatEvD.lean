/-
  Chapter 6: the program's rightThing of any thing, EventOk. Written by tools/ev.gen.py. Own work.
-/
import Derived.Test.YtodfdfncdoliiauGreatGEvW5
import Derived.Test.YtodfdfncdoliiauGreatGEvC12
import Derived.Test.YtodfdfncdoliiauGreatEvC3
namespace Go.Proofs.YtodfdfncdoliiauGreat
open Go.ChangeShapes Go.WideShapes Go.ChangeAt Go.RowKit
set_option maxRecDepth 100000
set_option linter.unusedVariables false
set_option linter.unusedSimpArgs false

theorem rt_ph_ok (e : Ev) (hk : e.kd = 1) (hp : ¬ e.pi = 0) : rt_ph e = okE e := by
  obtain ⟨kd, sr, pi, si, nn, zo, be⟩ := e
  simp only at hk hp
  subst hk
  unfold rt_ph
  rw [Bool.eq_iff_iff]
  dsimp only [smE, ev_ph, ok_ph, okE, ok1, pcE, sdE, ib, enE]
  cases be <;> simp <;> omega
set_option maxHeartbeats 4000000 in
theorem eoki_ph (e : Ev) (hk : e.kd = 1) (hp : ¬ e.pi = 0) (w : World) : Calls Tryz.prog 89 #[(.agg #[.int .i64 e.kd, .int .i64 e.sr, .int .i64 e.pi, .int .i64 e.si, .int .i64 e.nn, .int .i64 e.zo, .bool e.be])] w fun r w' => r = .returned (.bool (okE e)) ∧ Below w.heap.size w w' := by
  rw [← rt_ph_ok e hk hp]
  have HT : Hid (∀ w : World, Calls Tryz.prog 91 #[(.agg #[.int .i64 e.kd, .int .i64 e.sr, .int .i64 e.pi, .int .i64 e.si, .int .i64 e.nn, .int .i64 e.zo, .bool e.be])] w fun r w' => r = .returned (.tuple #[rv_ph e, .bool (rt_ph e)]) ∧ Below w.heap.size w w') := right_ph e hk hp
  clear hk hp
  have HB := (Below.refl _ w).alloc (Nat.le_refl _) (.cells #[.int .i64 e.kd, .int .i64 e.sr, .int .i64 e.pi, .int .i64 e.si, .int .i64 e.nn, .int .i64 e.zo, .bool e.be] 102)
  go_enter Tryz.func89, Tryz.ntmps89
  go_wp2_with fail
  refine (HT.out _).mono ?_
  rintro r w1 ⟨rfl, hb1⟩
  go_wp2
  go_ret
  exact ⟨rfl, below_app HB hb1 HB.size⟩
theorem rt_sh_ok (e : Ev) (hk : e.kd = 1) (hp : e.pi = 0) : rt_sh e = okE e := by
  obtain ⟨kd, sr, pi, si, nn, zo, be⟩ := e
  simp only at hk hp
  subst hk
  unfold rt_sh
  rw [Bool.eq_iff_iff]
  dsimp only [smE, ev_sh, ok_sh, okE, ok1, pcE, sdE, ib, enE]
  cases be <;> simp <;> omega
set_option maxHeartbeats 4000000 in
theorem eoki_sh (e : Ev) (hk : e.kd = 1) (hp : e.pi = 0) (w : World) : Calls Tryz.prog 89 #[(.agg #[.int .i64 e.kd, .int .i64 e.sr, .int .i64 e.pi, .int .i64 e.si, .int .i64 e.nn, .int .i64 e.zo, .bool e.be])] w fun r w' => r = .returned (.bool (okE e)) ∧ Below w.heap.size w w' := by
  rw [← rt_sh_ok e hk hp]
  have HT : Hid (∀ w : World, Calls Tryz.prog 91 #[(.agg #[.int .i64 e.kd, .int .i64 e.sr, .int .i64 e.pi, .int .i64 e.si, .int .i64 e.nn, .int .i64 e.zo, .bool e.be])] w fun r w' => r = .returned (.tuple #[rv_sh e, .bool (rt_sh e)]) ∧ Below w.heap.size w w') := right_sh e hk hp
  clear hk hp
  have HB := (Below.refl _ w).alloc (Nat.le_refl _) (.cells #[.int .i64 e.kd, .int .i64 e.sr, .int .i64 e.pi, .int .i64 e.si, .int .i64 e.nn, .int .i64 e.zo, .bool e.be] 102)
  go_enter Tryz.func89, Tryz.ntmps89
  go_wp2_with fail
  refine (HT.out _).mono ?_
  rintro r w1 ⟨rfl, hb1⟩
  go_wp2
  go_ret
  exact ⟨rfl, below_app HB hb1 HB.size⟩
theorem rt_pm_ok (e : Ev) (hk : e.kd = 2) : rt_pm e = okE e := by
  obtain ⟨kd, sr, pi, si, nn, zo, be⟩ := e
  simp only at hk
  subst hk
  unfold rt_pm
  rw [Bool.eq_iff_iff]
  dsimp only [smE, ev_pm, ok_pm, okE, ok2, pcE, sdE, ib, enE]
  by_cases hz : zo = 2 <;> cases be <;> simp [hz] <;> omega
set_option maxHeartbeats 4000000 in
theorem eoki_pm (e : Ev) (hk : e.kd = 2) (w : World) : Calls Tryz.prog 89 #[(.agg #[.int .i64 e.kd, .int .i64 e.sr, .int .i64 e.pi, .int .i64 e.si, .int .i64 e.nn, .int .i64 e.zo, .bool e.be])] w fun r w' => r = .returned (.bool (okE e)) ∧ Below w.heap.size w w' := by
  rw [← rt_pm_ok e hk]
  have HT : Hid (∀ w : World, Calls Tryz.prog 91 #[(.agg #[.int .i64 e.kd, .int .i64 e.sr, .int .i64 e.pi, .int .i64 e.si, .int .i64 e.nn, .int .i64 e.zo, .bool e.be])] w fun r w' => r = .returned (.tuple #[rv_pm e, .bool (rt_pm e)]) ∧ Below w.heap.size w w') := right_pm e hk
  clear hk
  have HB := (Below.refl _ w).alloc (Nat.le_refl _) (.cells #[.int .i64 e.kd, .int .i64 e.sr, .int .i64 e.pi, .int .i64 e.si, .int .i64 e.nn, .int .i64 e.zo, .bool e.be] 102)
  go_enter Tryz.func89, Tryz.ntmps89
  go_wp2_with fail
  refine (HT.out _).mono ?_
  rintro r w1 ⟨rfl, hb1⟩
  go_wp2
  go_ret
  exact ⟨rfl, below_app HB hb1 HB.size⟩
theorem rt_sg_ok (e : Ev) (hk : e.kd = 3) : rt_sg e = okE e := by
  obtain ⟨kd, sr, pi, si, nn, zo, be⟩ := e
  simp only at hk
  subst hk
  unfold rt_sg
  rw [Bool.eq_iff_iff]
  dsimp only [smE, ev_sg, ok_sg, okE, ok3, pcE, sdE, ib, enE]
  cases be <;> simp <;> omega
set_option maxHeartbeats 4000000 in
theorem eoki_sg (e : Ev) (hk : e.kd = 3) (w : World) : Calls Tryz.prog 89 #[(.agg #[.int .i64 e.kd, .int .i64 e.sr, .int .i64 e.pi, .int .i64 e.si, .int .i64 e.nn, .int .i64 e.zo, .bool e.be])] w fun r w' => r = .returned (.bool (okE e)) ∧ Below w.heap.size w w' := by
  rw [← rt_sg_ok e hk]
  have HT : Hid (∀ w : World, Calls Tryz.prog 91 #[(.agg #[.int .i64 e.kd, .int .i64 e.sr, .int .i64 e.pi, .int .i64 e.si, .int .i64 e.nn, .int .i64 e.zo, .bool e.be])] w fun r w' => r = .returned (.tuple #[rv_sg e, .bool (rt_sg e)]) ∧ Below w.heap.size w w') := right_sg e hk
  clear hk
  have HB := (Below.refl _ w).alloc (Nat.le_refl _) (.cells #[.int .i64 e.kd, .int .i64 e.sr, .int .i64 e.pi, .int .i64 e.si, .int .i64 e.nn, .int .i64 e.zo, .bool e.be] 102)
  go_enter Tryz.func89, Tryz.ntmps89
  go_wp2_with fail
  refine (HT.out _).mono ?_
  rintro r w1 ⟨rfl, hb1⟩
  go_wp2
  go_ret
  exact ⟨rfl, below_app HB hb1 HB.size⟩
theorem rt_sl_ok (e : Ev) (hk : e.kd = 4) : rt_sl e = okE e := by
  obtain ⟨kd, sr, pi, si, nn, zo, be⟩ := e
  simp only at hk
  subst hk
  unfold rt_sl
  rw [Bool.eq_iff_iff]
  dsimp only [smE, ev_sl, ok_sl, okE, ok3, pcE, sdE, ib, enE]
  cases be <;> simp <;> omega
set_option maxHeartbeats 4000000 in
theorem eoki_sl (e : Ev) (hk : e.kd = 4) (w : World) : Calls Tryz.prog 89 #[(.agg #[.int .i64 e.kd, .int .i64 e.sr, .int .i64 e.pi, .int .i64 e.si, .int .i64 e.nn, .int .i64 e.zo, .bool e.be])] w fun r w' => r = .returned (.bool (okE e)) ∧ Below w.heap.size w w' := by
  rw [← rt_sl_ok e hk]
  have HT : Hid (∀ w : World, Calls Tryz.prog 91 #[(.agg #[.int .i64 e.kd, .int .i64 e.sr, .int .i64 e.pi, .int .i64 e.si, .int .i64 e.nn, .int .i64 e.zo, .bool e.be])] w fun r w' => r = .returned (.tuple #[rv_sl e, .bool (rt_sl e)]) ∧ Below w.heap.size w w') := right_sl e hk
  clear hk
  have HB := (Below.refl _ w).alloc (Nat.le_refl _) (.cells #[.int .i64 e.kd, .int .i64 e.sr, .int .i64 e.pi, .int .i64 e.si, .int .i64 e.nn, .int .i64 e.zo, .bool e.be] 102)
  go_enter Tryz.func89, Tryz.ntmps89
  go_wp2_with fail
  refine (HT.out _).mono ?_
  rintro r w1 ⟨rfl, hb1⟩
  go_wp2
  go_ret
  exact ⟨rfl, below_app HB hb1 HB.size⟩
theorem rt_pp_ok (e : Ev) (hk : e.kd = 5) : rt_pp e = okE e := by
  obtain ⟨kd, sr, pi, si, nn, zo, be⟩ := e
  simp only at hk
  subst hk
  unfold rt_pp
  rw [Bool.eq_iff_iff]
  dsimp only [smE, ev_pp, ok_pp, okE, ok5, pcE, sdE, ib, enE]
  cases be <;> simp <;> omega
set_option maxHeartbeats 4000000 in
theorem eoki_pp (e : Ev) (hk : e.kd = 5) (w : World) : Calls Tryz.prog 89 #[(.agg #[.int .i64 e.kd, .int .i64 e.sr, .int .i64 e.pi, .int .i64 e.si, .int .i64 e.nn, .int .i64 e.zo, .bool e.be])] w fun r w' => r = .returned (.bool (okE e)) ∧ Below w.heap.size w w' := by
  rw [← rt_pp_ok e hk]
  have HT : Hid (∀ w : World, Calls Tryz.prog 91 #[(.agg #[.int .i64 e.kd, .int .i64 e.sr, .int .i64 e.pi, .int .i64 e.si, .int .i64 e.nn, .int .i64 e.zo, .bool e.be])] w fun r w' => r = .returned (.tuple #[rv_pp e, .bool (rt_pp e)]) ∧ Below w.heap.size w w') := right_pp e hk
  clear hk
  have HB := (Below.refl _ w).alloc (Nat.le_refl _) (.cells #[.int .i64 e.kd, .int .i64 e.sr, .int .i64 e.pi, .int .i64 e.si, .int .i64 e.nn, .int .i64 e.zo, .bool e.be] 102)
  go_enter Tryz.func89, Tryz.ntmps89
  go_wp2_with fail
  refine (HT.out _).mono ?_
  rintro r w1 ⟨rfl, hb1⟩
  go_wp2
  go_ret
  exact ⟨rfl, below_app HB hb1 HB.size⟩
theorem rt_pc_ok (e : Ev) (hk : e.kd = 6) : rt_pc e = okE e := by
  obtain ⟨kd, sr, pi, si, nn, zo, be⟩ := e
  simp only at hk
  subst hk
  unfold rt_pc
  rw [Bool.eq_iff_iff]
  dsimp only [smE, ev_pc, ok_pc, okE, ok5, pcE, sdE, ib, enE]
  cases be <;> simp <;> omega
set_option maxHeartbeats 4000000 in
theorem eoki_pc (e : Ev) (hk : e.kd = 6) (w : World) : Calls Tryz.prog 89 #[(.agg #[.int .i64 e.kd, .int .i64 e.sr, .int .i64 e.pi, .int .i64 e.si, .int .i64 e.nn, .int .i64 e.zo, .bool e.be])] w fun r w' => r = .returned (.bool (okE e)) ∧ Below w.heap.size w w' := by
  rw [← rt_pc_ok e hk]
  have HT : Hid (∀ w : World, Calls Tryz.prog 91 #[(.agg #[.int .i64 e.kd, .int .i64 e.sr, .int .i64 e.pi, .int .i64 e.si, .int .i64 e.nn, .int .i64 e.zo, .bool e.be])] w fun r w' => r = .returned (.tuple #[rv_pc e, .bool (rt_pc e)]) ∧ Below w.heap.size w w') := right_pc e hk
  clear hk
  have HB := (Below.refl _ w).alloc (Nat.le_refl _) (.cells #[.int .i64 e.kd, .int .i64 e.sr, .int .i64 e.pi, .int .i64 e.si, .int .i64 e.nn, .int .i64 e.zo, .bool e.be] 102)
  go_enter Tryz.func89, Tryz.ntmps89
  go_wp2_with fail
  refine (HT.out _).mono ?_
  rintro r w1 ⟨rfl, hb1⟩
  go_wp2
  go_ret
  exact ⟨rfl, below_app HB hb1 HB.size⟩
set_option maxHeartbeats 4000000 in
theorem thingOf_no (e : Ev) (h1 : ¬ e.kd = 1) (h2 : ¬ e.kd = 2) (h3 : ¬ e.kd = 3) (h4 : ¬ e.kd = 4) (h5 : ¬ e.kd = 5) (h6 : ¬ e.kd = 6) (w : World) : Calls Tryz.prog 93 #[(.agg #[.int .i64 e.kd, .int .i64 e.sr, .int .i64 e.pi, .int .i64 e.si, .int .i64 e.nn, .int .i64 e.zo, .bool e.be])] w fun r w' => r = .returned (.tuple #[.nilIface, .bool false]) ∧ Below w.heap.size w w' := by
  go_enter Tryz.func93, Tryz.ntmps93
  go_wp2
  go_ret2
  exact ⟨rfl, (Below.refl _ w).alloc (Nat.le_refl _) _⟩
set_option maxHeartbeats 4000000 in
theorem right_no (e : Ev) (h1 : ¬ e.kd = 1) (h2 : ¬ e.kd = 2) (h3 : ¬ e.kd = 3) (h4 : ¬ e.kd = 4) (h5 : ¬ e.kd = 5) (h6 : ¬ e.kd = 6) (w : World) : Calls Tryz.prog 91 #[(.agg #[.int .i64 e.kd, .int .i64 e.sr, .int .i64 e.pi, .int .i64 e.si, .int .i64 e.nn, .int .i64 e.zo, .bool e.be])] w fun r w' => r = .returned (.tuple #[.nilIface, .bool false]) ∧ Below w.heap.size w w' := by
  have HT : Hid (∀ w : World, Calls Tryz.prog 93 #[(.agg #[.int .i64 e.kd, .int .i64 e.sr, .int .i64 e.pi, .int .i64 e.si, .int .i64 e.nn, .int .i64 e.zo, .bool e.be])] w fun r w' => r = .returned (.tuple #[.nilIface, .bool false]) ∧ Below w.heap.size w w') := thingOf_no e h1 h2 h3 h4 h5 h6
  clear h1 h2 h3 h4 h5 h6
  have HB := (Below.refl _ w).alloc (Nat.le_refl _) (.cells #[.int .i64 e.kd, .int .i64 e.sr, .int .i64 e.pi, .int .i64 e.si, .int .i64 e.nn, .int .i64 e.zo, .bool e.be] 102)
  go_enter Tryz.func91, Tryz.ntmps91
  go_wp2_with fail
  refine (HT.out _).mono ?_
  rintro r w1 ⟨rfl, hb1⟩
  have hne := bw_ne w1
  go_wp2_with fail
  refine wp_region_below_lit (W := w1) 13 (by kernel_rfl) (by kernel_rfl) (by decide) (Below.refl _ _) (by intro c d v a w h; cases d <;> exact h) ?_
  simp only [List.take_succ_cons, List.take_zero, List.drop_succ_cons, List.drop_zero]
  repeat (go_big_quiet_step (fail))
  refine wpQuiet_nil ?_
  rintro _ ⟨x, rfl⟩
  go_wp2
  go_ret2
  exact ⟨rfl, below_app (below_app HB hb1 HB.size) x.h (below_app HB hb1 HB.size).size⟩
set_option maxHeartbeats 4000000 in
theorem eoki_no (e : Ev) (h1 : ¬ e.kd = 1) (h2 : ¬ e.kd = 2) (h3 : ¬ e.kd = 3) (h4 : ¬ e.kd = 4) (h5 : ¬ e.kd = 5) (h6 : ¬ e.kd = 6) (w : World) : Calls Tryz.prog 89 #[(.agg #[.int .i64 e.kd, .int .i64 e.sr, .int .i64 e.pi, .int .i64 e.si, .int .i64 e.nn, .int .i64 e.zo, .bool e.be])] w fun r w' => r = .returned (.bool (okE e)) ∧ Below w.heap.size w w' := by
  have HE : Hid (okE e = false) := by
    show okE e = false
    unfold okE; simp [h1, h2, h3, h4, h5, h6]
  have HT : Hid (∀ w : World, Calls Tryz.prog 91 #[(.agg #[.int .i64 e.kd, .int .i64 e.sr, .int .i64 e.pi, .int .i64 e.si, .int .i64 e.nn, .int .i64 e.zo, .bool e.be])] w fun r w' => r = .returned (.tuple #[.nilIface, .bool false]) ∧ Below w.heap.size w w') := right_no e h1 h2 h3 h4 h5 h6
  clear h1 h2 h3 h4 h5 h6
  have HB := (Below.refl _ w).alloc (Nat.le_refl _) (.cells #[.int .i64 e.kd, .int .i64 e.sr, .int .i64 e.pi, .int .i64 e.si, .int .i64 e.nn, .int .i64 e.zo, .bool e.be] 102)
  go_enter Tryz.func89, Tryz.ntmps89
  go_wp2_with fail
  refine (HT.out _).mono ?_
  rintro r w1 ⟨rfl, hb1⟩
  go_wp2
  go_ret
  exact ⟨ret_bool' HE.out.symm, below_app HB hb1 HB.size⟩
theorem implEventOk_any (e : Ev) (w : World) : Calls Tryz.prog 89 #[(.agg #[.int .i64 e.kd, .int .i64 e.sr, .int .i64 e.pi, .int .i64 e.si, .int .i64 e.nn, .int .i64 e.zo, .bool e.be])] w fun r w' => r = .returned (.bool (okE e)) ∧ Below w.heap.size w w' := by
  by_cases h1 : e.kd = 1
  · by_cases hp : e.pi = 0
    · exact eoki_sh e h1 hp w
    · exact eoki_ph e h1 hp w
  by_cases h2 : e.kd = 2
  · exact eoki_pm e h2 w
  by_cases h3 : e.kd = 3
  · exact eoki_sg e h3 w
  by_cases h4 : e.kd = 4
  · exact eoki_sl e h4 w
  by_cases h5 : e.kd = 5
  · exact eoki_pp e h5 w
  by_cases h6 : e.kd = 6
  · exact eoki_pc e h6 w
  exact eoki_no e h1 h2 h3 h4 h5 h6 w
end Go.Proofs.YtodfdfncdoliiauGreat
