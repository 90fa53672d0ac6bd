/-
  Chapter 6: EventText, of the program. Written by tools/ev.gen.py. Own work.
-/
import Derived.Test.YtjpimkolkhbflaqDoorEvT1
namespace Go.Proofs.YtjpimkolkhbflaqDoor
open Go.ChangeShapes Go.WideShapes Go.ChangeAt Go.RowKit
set_option maxRecDepth 100000
set_option linter.unusedVariables false
set_option linter.unusedSimpArgs false

def tk_ph (e : Ev) : ByteArray := if okE e = true then tt_ph e else ⟨#[]⟩
set_option maxHeartbeats 4000000 in
theorem evtext_ph (e : Ev) (hk : e.kd = 1) (hp : ¬ e.pi = 0) (hw : wf64 e) (w : World) (ht : Pow w) : Calls Tryd.prog 6 #[(.agg #[.int .i64 e.kd, .int .i64 e.sr, .int .i64 e.pi, .int .i64 e.si, .int .i64 e.nn, .int .i64 e.zo, .bool e.be])] w fun r w' => r = .returned (.string (tk_ph e)) ∧ Below w.heap.size w w' := by
  have hr := rt_ph_ok e hk hp
  have HR : Hid (∀ w : World, Calls Tryd.prog 9 #[(.agg #[.int .i64 e.kd, .int .i64 e.sr, .int .i64 e.pi, .int .i64 e.si, .int .i64 e.nn, .int .i64 e.zo, .bool e.be])] w fun r w' => r = .returned (.tuple #[rv_ph e, .bool (rt_ph e)]) ∧ Below w.heap.size w w') := right_ph e hk hp
  clear hk hp
  have HB := (Below.refl _ w).alloc (Nat.le_refl _) (.cells #[.int .i64 e.kd, .int .i64 e.sr, .int .i64 e.pi, .int .i64 e.si, .int .i64 e.nn, .int .i64 e.zo, .bool e.be] 25)
  have HT : Hid (∀ u : World, Below w.heap.size w u → Pow u) := fun u hu => ht.below hu
  have HW : Hid (wf64 e) := hw
  clear ht hw
  cases hb : okE e with
  | false =>
    rw [hb] at hr
    have HK : Hid (tk_ph e = ⟨#[]⟩) := by show tk_ph e = _; unfold tk_ph; rw [hb]; rfl
    have HR2 : Hid (∀ w : World, Calls Tryd.prog 9 #[(.agg #[.int .i64 e.kd, .int .i64 e.sr, .int .i64 e.pi, .int .i64 e.si, .int .i64 e.nn, .int .i64 e.zo, .bool e.be])] w fun r w' => r = .returned (.tuple #[.nilIface, .bool false]) ∧ Below w.heap.size w w') := fun w => (HR.out w).mono fun r w' h => ⟨h.1.trans (by unfold rv_ph; rw [hr]; rfl), h.2⟩
    clear HR hr hb
    go_enter Tryd.func6, Tryd.ntmps6
    go_wp2_with fail
    refine (HR2.out _).mono ?_
    rintro r w1 ⟨rfl, hb1⟩
    go_wp2
    go_ret
    exact ⟨ret_str HK.out.symm, below_app HB hb1 HB.size⟩
  | true =>
    rw [hb] at hr
    have HK : Hid (tk_ph e = tt_ph e) := by show tk_ph e = _; unfold tk_ph; rw [hb]; rfl
    have HR2 : Hid (∀ w : World, Calls Tryd.prog 9 #[(.agg #[.int .i64 e.kd, .int .i64 e.sr, .int .i64 e.pi, .int .i64 e.si, .int .i64 e.nn, .int .i64 e.zo, .bool e.be])] w fun r w' => r = .returned (.tuple #[(.iface 40 (.agg #[.int .i64 e.sr, .int .i64 e.pi, .int .i64 e.nn])), .bool true]) ∧ Below w.heap.size w w') := fun w => (HR.out w).mono fun r w' h => ⟨h.1.trans (by unfold rv_ph; rw [hr]; rfl), h.2⟩
    clear HR hr hb
    go_enter Tryd.func6, Tryd.ntmps6
    go_wp2_with fail
    refine (HR2.out _).mono ?_
    rintro r w1 ⟨rfl, hb1⟩
    have hB1 := below_app HB hb1 HB.size
    go_wp2_with fail
    refine (thingText_ph e HW.out _ (HT.out _ hB1)).mono ?_
    rintro r w2 ⟨rfl, hb2⟩
    go_wp2
    go_ret
    exact ⟨ret_str HK.out.symm, below_app hB1 hb2 hB1.size⟩
def tk_sh (e : Ev) : ByteArray := if okE e = true then tt_sh e else ⟨#[]⟩
set_option maxHeartbeats 4000000 in
theorem evtext_sh (e : Ev) (hk : e.kd = 1) (hp : e.pi = 0) (hw : wf64 e) (w : World) (ht : Pow w) : Calls Tryd.prog 6 #[(.agg #[.int .i64 e.kd, .int .i64 e.sr, .int .i64 e.pi, .int .i64 e.si, .int .i64 e.nn, .int .i64 e.zo, .bool e.be])] w fun r w' => r = .returned (.string (tk_sh e)) ∧ Below w.heap.size w w' := by
  have hr := rt_sh_ok e hk hp
  have HR : Hid (∀ w : World, Calls Tryd.prog 9 #[(.agg #[.int .i64 e.kd, .int .i64 e.sr, .int .i64 e.pi, .int .i64 e.si, .int .i64 e.nn, .int .i64 e.zo, .bool e.be])] w fun r w' => r = .returned (.tuple #[rv_sh e, .bool (rt_sh e)]) ∧ Below w.heap.size w w') := right_sh e hk hp
  clear hk hp
  have HB := (Below.refl _ w).alloc (Nat.le_refl _) (.cells #[.int .i64 e.kd, .int .i64 e.sr, .int .i64 e.pi, .int .i64 e.si, .int .i64 e.nn, .int .i64 e.zo, .bool e.be] 25)
  have HT : Hid (∀ u : World, Below w.heap.size w u → Pow u) := fun u hu => ht.below hu
  have HW : Hid (wf64 e) := hw
  clear ht hw
  cases hb : okE e with
  | false =>
    rw [hb] at hr
    have HK : Hid (tk_sh e = ⟨#[]⟩) := by show tk_sh e = _; unfold tk_sh; rw [hb]; rfl
    have HR2 : Hid (∀ w : World, Calls Tryd.prog 9 #[(.agg #[.int .i64 e.kd, .int .i64 e.sr, .int .i64 e.pi, .int .i64 e.si, .int .i64 e.nn, .int .i64 e.zo, .bool e.be])] w fun r w' => r = .returned (.tuple #[.nilIface, .bool false]) ∧ Below w.heap.size w w') := fun w => (HR.out w).mono fun r w' h => ⟨h.1.trans (by unfold rv_sh; rw [hr]; rfl), h.2⟩
    clear HR hr hb
    go_enter Tryd.func6, Tryd.ntmps6
    go_wp2_with fail
    refine (HR2.out _).mono ?_
    rintro r w1 ⟨rfl, hb1⟩
    go_wp2
    go_ret
    exact ⟨ret_str HK.out.symm, below_app HB hb1 HB.size⟩
  | true =>
    rw [hb] at hr
    have HK : Hid (tk_sh e = tt_sh e) := by show tk_sh e = _; unfold tk_sh; rw [hb]; rfl
    have HR2 : Hid (∀ w : World, Calls Tryd.prog 9 #[(.agg #[.int .i64 e.kd, .int .i64 e.sr, .int .i64 e.pi, .int .i64 e.si, .int .i64 e.nn, .int .i64 e.zo, .bool e.be])] w fun r w' => r = .returned (.tuple #[(.iface 43 (.agg #[.int .i64 e.sr, .int .i64 e.si, .int .i64 e.nn])), .bool true]) ∧ Below w.heap.size w w') := fun w => (HR.out w).mono fun r w' h => ⟨h.1.trans (by unfold rv_sh; rw [hr]; rfl), h.2⟩
    clear HR hr hb
    go_enter Tryd.func6, Tryd.ntmps6
    go_wp2_with fail
    refine (HR2.out _).mono ?_
    rintro r w1 ⟨rfl, hb1⟩
    have hB1 := below_app HB hb1 HB.size
    go_wp2_with fail
    refine (thingText_sh e HW.out _ (HT.out _ hB1)).mono ?_
    rintro r w2 ⟨rfl, hb2⟩
    go_wp2
    go_ret
    exact ⟨ret_str HK.out.symm, below_app hB1 hb2 hB1.size⟩
def tk_pm (e : Ev) : ByteArray := if okE e = true then tt_pm e else ⟨#[]⟩
set_option maxHeartbeats 4000000 in
theorem evtext_pm (e : Ev) (hk : e.kd = 2) (hw : wf64 e) (w : World) (ht : Pow w) : Calls Tryd.prog 6 #[(.agg #[.int .i64 e.kd, .int .i64 e.sr, .int .i64 e.pi, .int .i64 e.si, .int .i64 e.nn, .int .i64 e.zo, .bool e.be])] w fun r w' => r = .returned (.string (tk_pm e)) ∧ Below w.heap.size w w' := by
  have hr := rt_pm_ok e hk
  have HR : Hid (∀ w : World, Calls Tryd.prog 9 #[(.agg #[.int .i64 e.kd, .int .i64 e.sr, .int .i64 e.pi, .int .i64 e.si, .int .i64 e.nn, .int .i64 e.zo, .bool e.be])] w fun r w' => r = .returned (.tuple #[rv_pm e, .bool (rt_pm e)]) ∧ Below w.heap.size w w') := right_pm e hk
  clear hk
  have HB := (Below.refl _ w).alloc (Nat.le_refl _) (.cells #[.int .i64 e.kd, .int .i64 e.sr, .int .i64 e.pi, .int .i64 e.si, .int .i64 e.nn, .int .i64 e.zo, .bool e.be] 25)
  have HT : Hid (∀ u : World, Below w.heap.size w u → Pow u) := fun u hu => ht.below hu
  have HW : Hid (wf64 e) := hw
  clear ht hw
  cases hb : okE e with
  | false =>
    rw [hb] at hr
    have HK : Hid (tk_pm e = ⟨#[]⟩) := by show tk_pm e = _; unfold tk_pm; rw [hb]; rfl
    have HR2 : Hid (∀ w : World, Calls Tryd.prog 9 #[(.agg #[.int .i64 e.kd, .int .i64 e.sr, .int .i64 e.pi, .int .i64 e.si, .int .i64 e.nn, .int .i64 e.zo, .bool e.be])] w fun r w' => r = .returned (.tuple #[.nilIface, .bool false]) ∧ Below w.heap.size w w') := fun w => (HR.out w).mono fun r w' h => ⟨h.1.trans (by unfold rv_pm; rw [hr]; rfl), h.2⟩
    clear HR hr hb
    go_enter Tryd.func6, Tryd.ntmps6
    go_wp2_with fail
    refine (HR2.out _).mono ?_
    rintro r w1 ⟨rfl, hb1⟩
    go_wp2
    go_ret
    exact ⟨ret_str HK.out.symm, below_app HB hb1 HB.size⟩
  | true =>
    rw [hb] at hr
    have HK : Hid (tk_pm e = tt_pm e) := by show tk_pm e = _; unfold tk_pm; rw [hb]; rfl
    have HR2 : Hid (∀ w : World, Calls Tryd.prog 9 #[(.agg #[.int .i64 e.kd, .int .i64 e.sr, .int .i64 e.pi, .int .i64 e.si, .int .i64 e.nn, .int .i64 e.zo, .bool e.be])] w fun r w' => r = .returned (.tuple #[(.iface 45 (.agg #[.int .i64 e.pi, .int .i64 e.zo, .int .i64 e.nn, .bool e.be])), .bool true]) ∧ Below w.heap.size w w') := fun w => (HR.out w).mono fun r w' h => ⟨h.1.trans (by unfold rv_pm; rw [hr]; rfl), h.2⟩
    clear HR hr hb
    go_enter Tryd.func6, Tryd.ntmps6
    go_wp2_with fail
    refine (HR2.out _).mono ?_
    rintro r w1 ⟨rfl, hb1⟩
    have hB1 := below_app HB hb1 HB.size
    go_wp2_with fail
    refine (thingText_pm e HW.out _ (HT.out _ hB1)).mono ?_
    rintro r w2 ⟨rfl, hb2⟩
    go_wp2
    go_ret
    exact ⟨ret_str HK.out.symm, below_app hB1 hb2 hB1.size⟩
def tk_sg (e : Ev) : ByteArray := if okE e = true then tt_sg e else ⟨#[]⟩
set_option maxHeartbeats 4000000 in
theorem evtext_sg (e : Ev) (hk : e.kd = 3) (hw : wf64 e) (w : World) (ht : Pow w) : Calls Tryd.prog 6 #[(.agg #[.int .i64 e.kd, .int .i64 e.sr, .int .i64 e.pi, .int .i64 e.si, .int .i64 e.nn, .int .i64 e.zo, .bool e.be])] w fun r w' => r = .returned (.string (tk_sg e)) ∧ Below w.heap.size w w' := by
  have hr := rt_sg_ok e hk
  have HR : Hid (∀ w : World, Calls Tryd.prog 9 #[(.agg #[.int .i64 e.kd, .int .i64 e.sr, .int .i64 e.pi, .int .i64 e.si, .int .i64 e.nn, .int .i64 e.zo, .bool e.be])] w fun r w' => r = .returned (.tuple #[rv_sg e, .bool (rt_sg e)]) ∧ Below w.heap.size w w') := right_sg e hk
  clear hk
  have HB := (Below.refl _ w).alloc (Nat.le_refl _) (.cells #[.int .i64 e.kd, .int .i64 e.sr, .int .i64 e.pi, .int .i64 e.si, .int .i64 e.nn, .int .i64 e.zo, .bool e.be] 25)
  have HT : Hid (∀ u : World, Below w.heap.size w u → Pow u) := fun u hu => ht.below hu
  have HW : Hid (wf64 e) := hw
  clear ht hw
  cases hb : okE e with
  | false =>
    rw [hb] at hr
    have HK : Hid (tk_sg e = ⟨#[]⟩) := by show tk_sg e = _; unfold tk_sg; rw [hb]; rfl
    have HR2 : Hid (∀ w : World, Calls Tryd.prog 9 #[(.agg #[.int .i64 e.kd, .int .i64 e.sr, .int .i64 e.pi, .int .i64 e.si, .int .i64 e.nn, .int .i64 e.zo, .bool e.be])] w fun r w' => r = .returned (.tuple #[.nilIface, .bool false]) ∧ Below w.heap.size w w') := fun w => (HR.out w).mono fun r w' h => ⟨h.1.trans (by unfold rv_sg; rw [hr]; rfl), h.2⟩
    clear HR hr hb
    go_enter Tryd.func6, Tryd.ntmps6
    go_wp2_with fail
    refine (HR2.out _).mono ?_
    rintro r w1 ⟨rfl, hb1⟩
    go_wp2
    go_ret
    exact ⟨ret_str HK.out.symm, below_app HB hb1 HB.size⟩
  | true =>
    rw [hb] at hr
    have HK : Hid (tk_sg e = tt_sg e) := by show tk_sg e = _; unfold tk_sg; rw [hb]; rfl
    have HR2 : Hid (∀ w : World, Calls Tryd.prog 9 #[(.agg #[.int .i64 e.kd, .int .i64 e.sr, .int .i64 e.pi, .int .i64 e.si, .int .i64 e.nn, .int .i64 e.zo, .bool e.be])] w fun r w' => r = .returned (.tuple #[(.iface 48 (.agg #[.int .i64 e.si, .int .i64 e.nn])), .bool true]) ∧ Below w.heap.size w w') := fun w => (HR.out w).mono fun r w' h => ⟨h.1.trans (by unfold rv_sg; rw [hr]; rfl), h.2⟩
    clear HR hr hb
    go_enter Tryd.func6, Tryd.ntmps6
    go_wp2_with fail
    refine (HR2.out _).mono ?_
    rintro r w1 ⟨rfl, hb1⟩
    have hB1 := below_app HB hb1 HB.size
    go_wp2_with fail
    refine (thingText_sg e HW.out _ (HT.out _ hB1)).mono ?_
    rintro r w2 ⟨rfl, hb2⟩
    go_wp2
    go_ret
    exact ⟨ret_str HK.out.symm, below_app hB1 hb2 hB1.size⟩
def tk_sl (e : Ev) : ByteArray := if okE e = true then tt_sl e else ⟨#[]⟩
set_option maxHeartbeats 4000000 in
theorem evtext_sl (e : Ev) (hk : e.kd = 4) (hw : wf64 e) (w : World) (ht : Pow w) : Calls Tryd.prog 6 #[(.agg #[.int .i64 e.kd, .int .i64 e.sr, .int .i64 e.pi, .int .i64 e.si, .int .i64 e.nn, .int .i64 e.zo, .bool e.be])] w fun r w' => r = .returned (.string (tk_sl e)) ∧ Below w.heap.size w w' := by
  have hr := rt_sl_ok e hk
  have HR : Hid (∀ w : World, Calls Tryd.prog 9 #[(.agg #[.int .i64 e.kd, .int .i64 e.sr, .int .i64 e.pi, .int .i64 e.si, .int .i64 e.nn, .int .i64 e.zo, .bool e.be])] w fun r w' => r = .returned (.tuple #[rv_sl e, .bool (rt_sl e)]) ∧ Below w.heap.size w w') := right_sl e hk
  clear hk
  have HB := (Below.refl _ w).alloc (Nat.le_refl _) (.cells #[.int .i64 e.kd, .int .i64 e.sr, .int .i64 e.pi, .int .i64 e.si, .int .i64 e.nn, .int .i64 e.zo, .bool e.be] 25)
  have HT : Hid (∀ u : World, Below w.heap.size w u → Pow u) := fun u hu => ht.below hu
  have HW : Hid (wf64 e) := hw
  clear ht hw
  cases hb : okE e with
  | false =>
    rw [hb] at hr
    have HK : Hid (tk_sl e = ⟨#[]⟩) := by show tk_sl e = _; unfold tk_sl; rw [hb]; rfl
    have HR2 : Hid (∀ w : World, Calls Tryd.prog 9 #[(.agg #[.int .i64 e.kd, .int .i64 e.sr, .int .i64 e.pi, .int .i64 e.si, .int .i64 e.nn, .int .i64 e.zo, .bool e.be])] w fun r w' => r = .returned (.tuple #[.nilIface, .bool false]) ∧ Below w.heap.size w w') := fun w => (HR.out w).mono fun r w' h => ⟨h.1.trans (by unfold rv_sl; rw [hr]; rfl), h.2⟩
    clear HR hr hb
    go_enter Tryd.func6, Tryd.ntmps6
    go_wp2_with fail
    refine (HR2.out _).mono ?_
    rintro r w1 ⟨rfl, hb1⟩
    go_wp2
    go_ret
    exact ⟨ret_str HK.out.symm, below_app HB hb1 HB.size⟩
  | true =>
    rw [hb] at hr
    have HK : Hid (tk_sl e = tt_sl e) := by show tk_sl e = _; unfold tk_sl; rw [hb]; rfl
    have HR2 : Hid (∀ w : World, Calls Tryd.prog 9 #[(.agg #[.int .i64 e.kd, .int .i64 e.sr, .int .i64 e.pi, .int .i64 e.si, .int .i64 e.nn, .int .i64 e.zo, .bool e.be])] w fun r w' => r = .returned (.tuple #[(.iface 49 (.agg #[.int .i64 e.si, .int .i64 e.nn])), .bool true]) ∧ Below w.heap.size w w') := fun w => (HR.out w).mono fun r w' h => ⟨h.1.trans (by unfold rv_sl; rw [hr]; rfl), h.2⟩
    clear HR hr hb
    go_enter Tryd.func6, Tryd.ntmps6
    go_wp2_with fail
    refine (HR2.out _).mono ?_
    rintro r w1 ⟨rfl, hb1⟩
    have hB1 := below_app HB hb1 HB.size
    go_wp2_with fail
    refine (thingText_sl e HW.out _ (HT.out _ hB1)).mono ?_
    rintro r w2 ⟨rfl, hb2⟩
    go_wp2
    go_ret
    exact ⟨ret_str HK.out.symm, below_app hB1 hb2 hB1.size⟩
def tk_pp (e : Ev) : ByteArray := if okE e = true then tt_pp e else ⟨#[]⟩
set_option maxHeartbeats 4000000 in
theorem evtext_pp (e : Ev) (hk : e.kd = 5) (hw : wf64 e) (w : World) (ht : Pow w) : Calls Tryd.prog 6 #[(.agg #[.int .i64 e.kd, .int .i64 e.sr, .int .i64 e.pi, .int .i64 e.si, .int .i64 e.nn, .int .i64 e.zo, .bool e.be])] w fun r w' => r = .returned (.string (tk_pp e)) ∧ Below w.heap.size w w' := by
  have hr := rt_pp_ok e hk
  have HR : Hid (∀ w : World, Calls Tryd.prog 9 #[(.agg #[.int .i64 e.kd, .int .i64 e.sr, .int .i64 e.pi, .int .i64 e.si, .int .i64 e.nn, .int .i64 e.zo, .bool e.be])] w fun r w' => r = .returned (.tuple #[rv_pp e, .bool (rt_pp e)]) ∧ Below w.heap.size w w') := right_pp e hk
  clear hk
  have HB := (Below.refl _ w).alloc (Nat.le_refl _) (.cells #[.int .i64 e.kd, .int .i64 e.sr, .int .i64 e.pi, .int .i64 e.si, .int .i64 e.nn, .int .i64 e.zo, .bool e.be] 25)
  have HT : Hid (∀ u : World, Below w.heap.size w u → Pow u) := fun u hu => ht.below hu
  have HW : Hid (wf64 e) := hw
  clear ht hw
  cases hb : okE e with
  | false =>
    rw [hb] at hr
    have HK : Hid (tk_pp e = ⟨#[]⟩) := by show tk_pp e = _; unfold tk_pp; rw [hb]; rfl
    have HR2 : Hid (∀ w : World, Calls Tryd.prog 9 #[(.agg #[.int .i64 e.kd, .int .i64 e.sr, .int .i64 e.pi, .int .i64 e.si, .int .i64 e.nn, .int .i64 e.zo, .bool e.be])] w fun r w' => r = .returned (.tuple #[.nilIface, .bool false]) ∧ Below w.heap.size w w') := fun w => (HR.out w).mono fun r w' h => ⟨h.1.trans (by unfold rv_pp; rw [hr]; rfl), h.2⟩
    clear HR hr hb
    go_enter Tryd.func6, Tryd.ntmps6
    go_wp2_with fail
    refine (HR2.out _).mono ?_
    rintro r w1 ⟨rfl, hb1⟩
    go_wp2
    go_ret
    exact ⟨ret_str HK.out.symm, below_app HB hb1 HB.size⟩
  | true =>
    rw [hb] at hr
    have HK : Hid (tk_pp e = tt_pp e) := by show tk_pp e = _; unfold tk_pp; rw [hb]; rfl
    have HR2 : Hid (∀ w : World, Calls Tryd.prog 9 #[(.agg #[.int .i64 e.kd, .int .i64 e.sr, .int .i64 e.pi, .int .i64 e.si, .int .i64 e.nn, .int .i64 e.zo, .bool e.be])] w fun r w' => r = .returned (.tuple #[(.iface 51 (.agg #[.int .i64 e.pi, .int .i64 e.nn])), .bool true]) ∧ Below w.heap.size w w') := fun w => (HR.out w).mono fun r w' h => ⟨h.1.trans (by unfold rv_pp; rw [hr]; rfl), h.2⟩
    clear HR hr hb
    go_enter Tryd.func6, Tryd.ntmps6
    go_wp2_with fail
    refine (HR2.out _).mono ?_
    rintro r w1 ⟨rfl, hb1⟩
    have hB1 := below_app HB hb1 HB.size
    go_wp2_with fail
    refine (thingText_pp e HW.out _ (HT.out _ hB1)).mono ?_
    rintro r w2 ⟨rfl, hb2⟩
    go_wp2
    go_ret
    exact ⟨ret_str HK.out.symm, below_app hB1 hb2 hB1.size⟩
def tk_pc (e : Ev) : ByteArray := if okE e = true then tt_pc e else ⟨#[]⟩
set_option maxHeartbeats 4000000 in
theorem evtext_pc (e : Ev) (hk : e.kd = 6) (hw : wf64 e) (w : World) (ht : Pow w) : Calls Tryd.prog 6 #[(.agg #[.int .i64 e.kd, .int .i64 e.sr, .int .i64 e.pi, .int .i64 e.si, .int .i64 e.nn, .int .i64 e.zo, .bool e.be])] w fun r w' => r = .returned (.string (tk_pc e)) ∧ Below w.heap.size w w' := by
  have hr := rt_pc_ok e hk
  have HR : Hid (∀ w : World, Calls Tryd.prog 9 #[(.agg #[.int .i64 e.kd, .int .i64 e.sr, .int .i64 e.pi, .int .i64 e.si, .int .i64 e.nn, .int .i64 e.zo, .bool e.be])] w fun r w' => r = .returned (.tuple #[rv_pc e, .bool (rt_pc e)]) ∧ Below w.heap.size w w') := right_pc e hk
  clear hk
  have HB := (Below.refl _ w).alloc (Nat.le_refl _) (.cells #[.int .i64 e.kd, .int .i64 e.sr, .int .i64 e.pi, .int .i64 e.si, .int .i64 e.nn, .int .i64 e.zo, .bool e.be] 25)
  have HT : Hid (∀ u : World, Below w.heap.size w u → Pow u) := fun u hu => ht.below hu
  have HW : Hid (wf64 e) := hw
  clear ht hw
  cases hb : okE e with
  | false =>
    rw [hb] at hr
    have HK : Hid (tk_pc e = ⟨#[]⟩) := by show tk_pc e = _; unfold tk_pc; rw [hb]; rfl
    have HR2 : Hid (∀ w : World, Calls Tryd.prog 9 #[(.agg #[.int .i64 e.kd, .int .i64 e.sr, .int .i64 e.pi, .int .i64 e.si, .int .i64 e.nn, .int .i64 e.zo, .bool e.be])] w fun r w' => r = .returned (.tuple #[.nilIface, .bool false]) ∧ Below w.heap.size w w') := fun w => (HR.out w).mono fun r w' h => ⟨h.1.trans (by unfold rv_pc; rw [hr]; rfl), h.2⟩
    clear HR hr hb
    go_enter Tryd.func6, Tryd.ntmps6
    go_wp2_with fail
    refine (HR2.out _).mono ?_
    rintro r w1 ⟨rfl, hb1⟩
    go_wp2
    go_ret
    exact ⟨ret_str HK.out.symm, below_app HB hb1 HB.size⟩
  | true =>
    rw [hb] at hr
    have HK : Hid (tk_pc e = tt_pc e) := by show tk_pc e = _; unfold tk_pc; rw [hb]; rfl
    have HR2 : Hid (∀ w : World, Calls Tryd.prog 9 #[(.agg #[.int .i64 e.kd, .int .i64 e.sr, .int .i64 e.pi, .int .i64 e.si, .int .i64 e.nn, .int .i64 e.zo, .bool e.be])] w fun r w' => r = .returned (.tuple #[(.iface 52 (.agg #[.int .i64 e.pi, .int .i64 e.nn])), .bool true]) ∧ Below w.heap.size w w') := fun w => (HR.out w).mono fun r w' h => ⟨h.1.trans (by unfold rv_pc; rw [hr]; rfl), h.2⟩
    clear HR hr hb
    go_enter Tryd.func6, Tryd.ntmps6
    go_wp2_with fail
    refine (HR2.out _).mono ?_
    rintro r w1 ⟨rfl, hb1⟩
    have hB1 := below_app HB hb1 HB.size
    go_wp2_with fail
    refine (thingText_pc e HW.out _ (HT.out _ hB1)).mono ?_
    rintro r w2 ⟨rfl, hb2⟩
    go_wp2
    go_ret
    exact ⟨ret_str HK.out.symm, below_app hB1 hb2 hB1.size⟩
/-- the words of a thing -/
def txE (e : Ev) : ByteArray := if e.kd = 1 then (if e.pi = 0 then tk_sh e else tk_ph e) else if e.kd = 2 then tk_pm e else if e.kd = 3 then tk_sg e else if e.kd = 4 then tk_sl e else if e.kd = 5 then tk_pp e else if e.kd = 6 then tk_pc e else ⟨#[]⟩
set_option maxHeartbeats 4000000 in
theorem evtext_no (e : Ev) (h1 : ¬ e.kd = 1) (h2 : ¬ e.kd = 2) (h3 : ¬ e.kd = 3) (h4 : ¬ e.kd = 4) (h5 : ¬ e.kd = 5) (h6 : ¬ e.kd = 6) (w : World) : Calls Tryd.prog 6 #[(.agg #[.int .i64 e.kd, .int .i64 e.sr, .int .i64 e.pi, .int .i64 e.si, .int .i64 e.nn, .int .i64 e.zo, .bool e.be])] w fun r w' => r = .returned (.string ⟨#[]⟩) ∧ Below w.heap.size w w' := by
  have HR2 : Hid (∀ w : World, Calls Tryd.prog 9 #[(.agg #[.int .i64 e.kd, .int .i64 e.sr, .int .i64 e.pi, .int .i64 e.si, .int .i64 e.nn, .int .i64 e.zo, .bool e.be])] w fun r w' => r = .returned (.tuple #[.nilIface, .bool false]) ∧ Below w.heap.size w w') := right_no e h1 h2 h3 h4 h5 h6
  clear h1 h2 h3 h4 h5 h6
  have HB := (Below.refl _ w).alloc (Nat.le_refl _) (.cells #[.int .i64 e.kd, .int .i64 e.sr, .int .i64 e.pi, .int .i64 e.si, .int .i64 e.nn, .int .i64 e.zo, .bool e.be] 25)
  go_enter Tryd.func6, Tryd.ntmps6
  go_wp2_with fail
  refine (HR2.out _).mono ?_
  rintro r w1 ⟨rfl, hb1⟩
  go_wp2
  go_ret
  exact ⟨rfl, below_app HB hb1 HB.size⟩
theorem implEventText_any (e : Ev) (hw : wf64 e) (w : World) (ht : Pow w) : Calls Tryd.prog 6 #[(.agg #[.int .i64 e.kd, .int .i64 e.sr, .int .i64 e.pi, .int .i64 e.si, .int .i64 e.nn, .int .i64 e.zo, .bool e.be])] w fun r w' => r = .returned (.string (txE e)) ∧ Below w.heap.size w w' := by
  unfold txE
  by_cases h1 : e.kd = 1
  · rw [if_pos h1]
    by_cases hp : e.pi = 0
    · rw [if_pos hp]; exact evtext_sh e h1 hp hw w ht
    · rw [if_neg hp]; exact evtext_ph e h1 hp hw w ht
  rw [if_neg h1]
  by_cases h2 : e.kd = 2
  · rw [if_pos h2]; exact evtext_pm e h2 hw w ht
  rw [if_neg h2]
  by_cases h3 : e.kd = 3
  · rw [if_pos h3]; exact evtext_sg e h3 hw w ht
  rw [if_neg h3]
  by_cases h4 : e.kd = 4
  · rw [if_pos h4]; exact evtext_sl e h4 hw w ht
  rw [if_neg h4]
  by_cases h5 : e.kd = 5
  · rw [if_pos h5]; exact evtext_pp e h5 hw w ht
  rw [if_neg h5]
  by_cases h6 : e.kd = 6
  · rw [if_pos h6]; exact evtext_pc e h6 hw w ht
  rw [if_neg h6]
  exact evtext_no e h1 h2 h3 h4 h5 h6 w
end Go.Proofs.YtjpimkolkhbflaqDoor
