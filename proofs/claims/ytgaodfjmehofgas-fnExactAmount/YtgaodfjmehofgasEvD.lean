/-
  Chapter 6: the program's rightThing of any thing, EventOk. Written by tools/ev.gen.py. Own work.
-/
import Derived.Test.YtgaodfjmehofgasEvB
import Derived.Test.YtgaodfjmehofgasEvC1
import Derived.Test.YtgaodfjmehofgasEvC2
import Derived.Test.YtgaodfjmehofgasEvC3
namespace Go.Proofs.Ytgaodfjmehofgas
open Go.ChangeShapes Go.WideShapes Go.ChangeAt Go.RowKit
set_option maxRecDepth 100000
set_option linter.unusedVariables false
set_option linter.unusedSimpArgs false

theorem rt_ph_ok (e : Ev) (hk : e.kd = 1) (hp : ¬ e.pi = 0) : rt_ph e = okE e := by
  obtain ⟨kd, sr, pi, si, nn, zo, be⟩ := e
  simp only at hk hp
  subst hk
  unfold rt_ph
  rw [Bool.eq_iff_iff]
  dsimp only [smE, ev_ph, ok_ph, okE, ok1, pcE, sdE, ib, enE]
  cases be <;> simp <;> omega
theorem rt_sh_ok (e : Ev) (hk : e.kd = 1) (hp : e.pi = 0) : rt_sh e = okE e := by
  obtain ⟨kd, sr, pi, si, nn, zo, be⟩ := e
  simp only at hk hp
  subst hk
  unfold rt_sh
  rw [Bool.eq_iff_iff]
  dsimp only [smE, ev_sh, ok_sh, okE, ok1, pcE, sdE, ib, enE]
  cases be <;> simp <;> omega
theorem rt_pm_ok (e : Ev) (hk : e.kd = 2) : rt_pm e = okE e := by
  obtain ⟨kd, sr, pi, si, nn, zo, be⟩ := e
  simp only at hk
  subst hk
  unfold rt_pm
  rw [Bool.eq_iff_iff]
  dsimp only [smE, ev_pm, ok_pm, okE, ok2, pcE, sdE, ib, enE]
  by_cases hz : zo = 2 <;> cases be <;> simp [hz] <;> omega
theorem rt_sg_ok (e : Ev) (hk : e.kd = 3) : rt_sg e = okE e := by
  obtain ⟨kd, sr, pi, si, nn, zo, be⟩ := e
  simp only at hk
  subst hk
  unfold rt_sg
  rw [Bool.eq_iff_iff]
  dsimp only [smE, ev_sg, ok_sg, okE, ok3, pcE, sdE, ib, enE]
  cases be <;> simp <;> omega
theorem rt_sl_ok (e : Ev) (hk : e.kd = 4) : rt_sl e = okE e := by
  obtain ⟨kd, sr, pi, si, nn, zo, be⟩ := e
  simp only at hk
  subst hk
  unfold rt_sl
  rw [Bool.eq_iff_iff]
  dsimp only [smE, ev_sl, ok_sl, okE, ok3, pcE, sdE, ib, enE]
  cases be <;> simp <;> omega
theorem rt_pp_ok (e : Ev) (hk : e.kd = 5) : rt_pp e = okE e := by
  obtain ⟨kd, sr, pi, si, nn, zo, be⟩ := e
  simp only at hk
  subst hk
  unfold rt_pp
  rw [Bool.eq_iff_iff]
  dsimp only [smE, ev_pp, ok_pp, okE, ok5, pcE, sdE, ib, enE]
  cases be <;> simp <;> omega
theorem rt_pc_ok (e : Ev) (hk : e.kd = 6) : rt_pc e = okE e := by
  obtain ⟨kd, sr, pi, si, nn, zo, be⟩ := e
  simp only at hk
  subst hk
  unfold rt_pc
  rw [Bool.eq_iff_iff]
  dsimp only [smE, ev_pc, ok_pc, okE, ok5, pcE, sdE, ib, enE]
  cases be <;> simp <;> omega
end Go.Proofs.Ytgaodfjmehofgas
