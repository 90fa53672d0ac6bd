/-
  Chapter 6: the program's rightThing of any thing, EventOk. Written by tools/ev.gen.py. Own work.
-/
import Derived.Test.YtjpimkolkhbflaqDoorEvB
import Derived.Test.YtjpimkolkhbflaqDoorEvC1
import Derived.Test.YtjpimkolkhbflaqDoorEvC2
import Derived.Test.YtjpimkolkhbflaqDoorEvC3
namespace Go.Proofs.YtjpimkolkhbflaqDoor
open Go.ChangeShapes Go.WideShapes Go.ChangeAt Go.RowKit
set_option maxRecDepth 100000
set_option linter.unusedVariables false
set_option linter.unusedSimpArgs false

theorem rt_ph_ok (e : Ev) (hk : e.kd = 1) (hp : ¬ e.pi = 0) : rt_ph e = okE e := by
  obtain ⟨kd, sr, pi, si, nn, zo, be⟩ := e
  simp only at hk hp
  subst hk
  unfold rt_ph
  rw [Bool.eq_iff_iff]
  dsimp only [smE, ev_ph, ok_ph, okE, ok1, pcE, sdE, ib, enE]
  cases be <;> simp <;> omega
theorem rt_sh_ok (e : Ev) (hk : e.kd = 1) (hp : e.pi = 0) : rt_sh e = okE e := by
  obtain ⟨kd, sr, pi, si, nn, zo, be⟩ := e
  simp only at hk hp
  subst hk
  unfold rt_sh
  rw [Bool.eq_iff_iff]
  dsimp only [smE, ev_sh, ok_sh, okE, ok1, pcE, sdE, ib, enE]
  cases be <;> simp <;> omega
theorem rt_pm_ok (e : Ev) (hk : e.kd = 2) : rt_pm e = okE e := by
  obtain ⟨kd, sr, pi, si, nn, zo, be⟩ := e
  simp only at hk
  subst hk
  unfold rt_pm
  rw [Bool.eq_iff_iff]
  dsimp only [smE, ev_pm, ok_pm, okE, ok2, pcE, sdE, ib, enE]
  by_cases hz : zo = 2 <;> cases be <;> simp [hz] <;> omega
theorem rt_sg_ok (e : Ev) (hk : e.kd = 3) : rt_sg e = okE e := by
  obtain ⟨kd, sr, pi, si, nn, zo, be⟩ := e
  simp only at hk
  subst hk
  unfold rt_sg
  rw [Bool.eq_iff_iff]
  dsimp only [smE, ev_sg, ok_sg, okE, ok3, pcE, sdE, ib, enE]
  cases be <;> simp <;> omega
theorem rt_sl_ok (e : Ev) (hk : e.kd = 4) : rt_sl e = okE e := by
  obtain ⟨kd, sr, pi, si, nn, zo, be⟩ := e
  simp only at hk
  subst hk
  unfold rt_sl
  rw [Bool.eq_iff_iff]
  dsimp only [smE, ev_sl, ok_sl, okE, ok3, pcE, sdE, ib, enE]
  cases be <;> simp <;> omega
theorem rt_pp_ok (e : Ev) (hk : e.kd = 5) : rt_pp e = okE e := by
  obtain ⟨kd, sr, pi, si, nn, zo, be⟩ := e
  simp only at hk
  subst hk
  unfold rt_pp
  rw [Bool.eq_iff_iff]
  dsimp only [smE, ev_pp, ok_pp, okE, ok5, pcE, sdE, ib, enE]
  cases be <;> simp <;> omega
theorem rt_pc_ok (e : Ev) (hk : e.kd = 6) : rt_pc e = okE e := by
  obtain ⟨kd, sr, pi, si, nn, zo, be⟩ := e
  simp only at hk
  subst hk
  unfold rt_pc
  rw [Bool.eq_iff_iff]
  dsimp only [smE, ev_pc, ok_pc, okE, ok5, pcE, sdE, ib, enE]
  cases be <;> simp <;> omega
set_option maxHeartbeats 4000000 in
theorem thingOf_no (e : Ev) (h1 : ¬ e.kd = 1) (h2 : ¬ e.kd = 2) (h3 : ¬ e.kd = 3) (h4 : ¬ e.kd = 4) (h5 : ¬ e.kd = 5) (h6 : ¬ e.kd = 6) (w : World) : Calls Tryd.prog 12 #[(.agg #[.int .i64 e.kd, .int .i64 e.sr, .int .i64 e.pi, .int .i64 e.si, .int .i64 e.nn, .int .i64 e.zo, .bool e.be])] w fun r w' => r = .returned (.tuple #[.nilIface, .bool false]) ∧ Below w.heap.size w w' := by
  go_enter Tryd.func12, Tryd.ntmps12
  go_wp2
  go_ret2
  exact ⟨rfl, (Below.refl _ w).alloc (Nat.le_refl _) _⟩
set_option maxHeartbeats 4000000 in
theorem right_no (e : Ev) (h1 : ¬ e.kd = 1) (h2 : ¬ e.kd = 2) (h3 : ¬ e.kd = 3) (h4 : ¬ e.kd = 4) (h5 : ¬ e.kd = 5) (h6 : ¬ e.kd = 6) (w : World) : Calls Tryd.prog 9 #[(.agg #[.int .i64 e.kd, .int .i64 e.sr, .int .i64 e.pi, .int .i64 e.si, .int .i64 e.nn, .int .i64 e.zo, .bool e.be])] w fun r w' => r = .returned (.tuple #[.nilIface, .bool false]) ∧ Below w.heap.size w w' := by
  have HT : Hid (∀ w : World, Calls Tryd.prog 12 #[(.agg #[.int .i64 e.kd, .int .i64 e.sr, .int .i64 e.pi, .int .i64 e.si, .int .i64 e.nn, .int .i64 e.zo, .bool e.be])] w fun r w' => r = .returned (.tuple #[.nilIface, .bool false]) ∧ Below w.heap.size w w') := thingOf_no e h1 h2 h3 h4 h5 h6
  clear h1 h2 h3 h4 h5 h6
  have HB := (Below.refl _ w).alloc (Nat.le_refl _) (.cells #[.int .i64 e.kd, .int .i64 e.sr, .int .i64 e.pi, .int .i64 e.si, .int .i64 e.nn, .int .i64 e.zo, .bool e.be] 25)
  go_enter Tryd.func9, Tryd.ntmps9
  go_wp2_with fail
  refine (HT.out _).mono ?_
  rintro r w1 ⟨rfl, hb1⟩
  have hne := bw_ne w1
  go_wp2_with fail
  refine wp_region_below_lit (W := w1) 13 (by kernel_rfl) (by kernel_rfl) (by decide) (Below.refl _ _) (by intro c d v a w h; cases d <;> exact h) ?_
  simp only [List.take_succ_cons, List.take_zero, List.drop_succ_cons, List.drop_zero]
  repeat (go_big_quiet_step (fail))
  refine wpQuiet_nil ?_
  rintro _ ⟨x, rfl⟩
  go_wp2
  go_ret2
  exact ⟨rfl, below_app (below_app HB hb1 HB.size) x.h (below_app HB hb1 HB.size).size⟩
end Go.Proofs.YtjpimkolkhbflaqDoor
