/-
  Chapter 6: EventText, of the specification. Written by tools/ev.gen.py. Own work.
-/
import Derived.Test.YtjpimkolkhbflaqDoorEvT2
namespace Go.Proofs.YtjpimkolkhbflaqDoor
open Go.ChangeShapes Go.WideShapes Go.ChangeAt Go.RowKit
set_option maxRecDepth 100000
set_option linter.unusedVariables false
set_option linter.unusedSimpArgs false

theorem sp_ph (e : Ev) : ((((⟨#[104, 117, 114, 116, 32]⟩ : ByteArray) ++ tx e.sr) ++ ((⟨#[32]⟩ : ByteArray) ++ tx e.nn)) ++ (⟨#[32, 112, 105, 101, 99, 101, 32]⟩ : ByteArray)) ++ tx e.pi = tt_ph e := by
  have l1 : (⟨#[104, 117, 114, 116, 32]⟩ : ByteArray) = (⟨#[104, 117, 114, 116]⟩ : ByteArray) ++ (⟨#[32]⟩ : ByteArray) := by decide
  rw [l1]
  have l2 : (⟨#[32, 112, 105, 101, 99, 101, 32]⟩ : ByteArray) = (⟨#[32, 112, 105, 101, 99, 101]⟩ : ByteArray) ++ (⟨#[32]⟩ : ByteArray) := by decide
  rw [l2]
  unfold tt_ph
  simp [say, fn1, fn2, fn3, ByteArray.append_assoc]
theorem sp_sh (e : Ev) : ((((⟨#[104, 117, 114, 116, 32]⟩ : ByteArray) ++ tx e.sr) ++ ((⟨#[32]⟩ : ByteArray) ++ tx e.nn)) ++ (⟨#[32, 115, 105, 100, 101, 32]⟩ : ByteArray)) ++ tx e.si = tt_sh e := by
  have l1 : (⟨#[104, 117, 114, 116, 32]⟩ : ByteArray) = (⟨#[104, 117, 114, 116]⟩ : ByteArray) ++ (⟨#[32]⟩ : ByteArray) := by decide
  rw [l1]
  have l2 : (⟨#[32, 115, 105, 100, 101, 32]⟩ : ByteArray) = (⟨#[32, 115, 105, 100, 101]⟩ : ByteArray) ++ (⟨#[32]⟩ : ByteArray) := by decide
  rw [l2]
  unfold tt_sh
  simp [say, fn1, fn2, fn3, ByteArray.append_assoc]
theorem sp_pm (e : Ev) : ((((⟨#[109, 111, 118, 101, 32]⟩ : ByteArray) ++ tx e.pi) ++ (⟨#[32]⟩ : ByteArray)) ++ tx e.zo) ++ ((⟨#[32]⟩ : ByteArray) ++ tx e.nn) = say (⟨#[109, 111, 118, 101]⟩ : ByteArray) (fn3 e.pi e.zo e.nn) 3 := by
  have l1 : (⟨#[109, 111, 118, 101, 32]⟩ : ByteArray) = (⟨#[109, 111, 118, 101]⟩ : ByteArray) ++ (⟨#[32]⟩ : ByteArray) := by decide
  rw [l1]
  simp [say, fn1, fn2, fn3, ByteArray.append_assoc]
theorem sp_sg (e : Ev) : ((⟨#[103, 97, 105, 110, 32]⟩ : ByteArray) ++ tx e.si) ++ ((⟨#[32]⟩ : ByteArray) ++ tx e.nn) = tt_sg e := by
  have l1 : (⟨#[103, 97, 105, 110, 32]⟩ : ByteArray) = (⟨#[103, 97, 105, 110]⟩ : ByteArray) ++ (⟨#[32]⟩ : ByteArray) := by decide
  rw [l1]
  unfold tt_sg
  simp [say, fn1, fn2, fn3, ByteArray.append_assoc]
theorem sp_sl (e : Ev) : ((⟨#[108, 111, 115, 101, 32]⟩ : ByteArray) ++ tx e.si) ++ ((⟨#[32]⟩ : ByteArray) ++ tx e.nn) = tt_sl e := by
  have l1 : (⟨#[108, 111, 115, 101, 32]⟩ : ByteArray) = (⟨#[108, 111, 115, 101]⟩ : ByteArray) ++ (⟨#[32]⟩ : ByteArray) := by decide
  rw [l1]
  unfold tt_sl
  simp [say, fn1, fn2, fn3, ByteArray.append_assoc]
theorem sp_pp (e : Ev) : ((⟨#[112, 117, 116, 32]⟩ : ByteArray) ++ tx e.pi) ++ ((⟨#[32]⟩ : ByteArray) ++ tx e.nn) = tt_pp e := by
  have l1 : (⟨#[112, 117, 116, 32]⟩ : ByteArray) = (⟨#[112, 117, 116]⟩ : ByteArray) ++ (⟨#[32]⟩ : ByteArray) := by decide
  rw [l1]
  unfold tt_pp
  simp [say, fn1, fn2, fn3, ByteArray.append_assoc]
theorem sp_pc (e : Ev) : ((⟨#[99, 117, 116, 32]⟩ : ByteArray) ++ tx e.pi) ++ ((⟨#[32]⟩ : ByteArray) ++ tx e.nn) = tt_pc e := by
  have l1 : (⟨#[99, 117, 116, 32]⟩ : ByteArray) = (⟨#[99, 117, 116]⟩ : ByteArray) ++ (⟨#[32]⟩ : ByteArray) := by decide
  rw [l1]
  unfold tt_pc
  simp [say, fn1, fn2, fn3, ByteArray.append_assoc]
set_option maxHeartbeats 4000000 in
theorem sptext_bad (e : Ev) (hb : okE e = false) (w : World) : Calls Tryd.prog 4 #[(.agg #[.int .i64 e.kd, .int .i64 e.sr, .int .i64 e.pi, .int .i64 e.si, .int .i64 e.nn, .int .i64 e.zo, .bool e.be])] w fun r w' => r = .returned (.string (⟨#[]⟩)) ∧ Below w.heap.size w w' := by
  have HO : Hid (∀ w : World, Calls Tryd.prog 7 #[(.agg #[.int .i64 e.kd, .int .i64 e.sr, .int .i64 e.pi, .int .i64 e.si, .int .i64 e.nn, .int .i64 e.zo, .bool e.be])] w fun r w' => r = .returned (.bool false) ∧ Below w.heap.size w w') := fun w => by have := specEventOk_any e w; rw [hb] at this; exact this
  clear hb
  have HB := (Below.refl _ w).alloc (Nat.le_refl _) (.cells #[.int .i64 e.kd, .int .i64 e.sr, .int .i64 e.pi, .int .i64 e.si, .int .i64 e.nn, .int .i64 e.zo, .bool e.be] 25)
  go_enter Tryd.func4, Tryd.ntmps4
  go_wp2_with fail
  refine (HO.out _).mono ?_
  rintro r w1 ⟨rfl, hb1⟩
  go_wp2
  go_ret
  exact ⟨rfl, below_app HB hb1 HB.size⟩
set_option maxHeartbeats 4000000 in
theorem sptext_ph (e : Ev) (hk : e.kd = 1) (hp : ¬ e.pi = 0) (hb : okE e = true) (hw : wf64 e) (w : World) : Calls Tryd.prog 4 #[(.agg #[.int .i64 e.kd, .int .i64 e.sr, .int .i64 e.pi, .int .i64 e.si, .int .i64 e.nn, .int .i64 e.zo, .bool e.be])] w fun r w' => r = .returned (.string (((((⟨#[104, 117, 114, 116, 32]⟩ : ByteArray) ++ tx e.sr) ++ ((⟨#[32]⟩ : ByteArray) ++ tx e.nn)) ++ (⟨#[32, 112, 105, 101, 99, 101, 32]⟩ : ByteArray)) ++ tx e.pi)) ∧ Below w.heap.size w w' := by
  have HO : Hid (∀ w : World, Calls Tryd.prog 7 #[(.agg #[.int .i64 e.kd, .int .i64 e.sr, .int .i64 e.pi, .int .i64 e.si, .int .i64 e.nn, .int .i64 e.zo, .bool e.be])] w fun r w' => r = .returned (.bool true) ∧ Below w.heap.size w w') := fun w => by have := specEventOk_any e w; rw [hb] at this; exact this
  clear hb
  have HHK : Hid (e.kd = 1) := hk
  clear hk
  have HHP : Hid (¬ e.pi = 0) := hp
  clear hp
  obtain ⟨⟨a1, b1⟩, ⟨a2, b2⟩, ⟨a3, b3⟩, ⟨a4, b4⟩, ⟨a5, b5⟩⟩ := hw
  have s1 := tx_size e.sr a1 b1
  have s2 := tx_size e.pi a2 b2
  have s3 := tx_size e.si a3 b3
  have s4 := tx_size e.nn a4 b4
  have s5 := tx_size e.zo a5 b5
  have bx := boxE_new w 25 e
  have HB := (Below.refl _ w).alloc (Nat.le_refl _) (.cells #[.int .i64 e.kd, .int .i64 e.sr, .int .i64 e.pi, .int .i64 e.si, .int .i64 e.nn, .int .i64 e.zo, .bool e.be] 25)
  generalize hW : w.alloc (.cells #[.int .i64 e.kd, .int .i64 e.sr, .int .i64 e.pi, .int .i64 e.si, .int .i64 e.nn, .int .i64 e.zo, .bool e.be] 25) = W at HB bx
  obtain ⟨k0, k1, k2, k3, k4, k5, k6⟩ : Cells7 _ _ _ := bx.cells
  go_enter Tryd.func4, Tryd.ntmps4
  go_wp2_with fail
  refine (HO.out _).mono ?_
  rintro r w1 ⟨rfl, hb1⟩
  clear k0 k1 k2 k3 k4 k5 k6 hW
  replace bx := bx.grew hb1
  replace HB := below_app HB hb1 HB.size
  clear hb1
  obtain ⟨k0, k1, k2, k3, k4, k5, k6⟩ : Cells7 _ _ _ := bx.cells
  go_wp2_with fail
  refine (specNumText_b e.nn _ a4 b4).mono ?_
  rintro r w2 ⟨rfl, hb2⟩
  clear k0 k1 k2 k3 k4 k5 k6
  replace bx := bx.grew hb2
  replace HB := below_app HB hb2 HB.size
  clear hb2
  obtain ⟨k0, k1, k2, k3, k4, k5, k6⟩ : Cells7 _ _ _ := bx.cells
  have hk := HHK.out
  have hp := HHP.out
  have hne := bw_ne w2
  have c0 := fun x : BW w2 => x.cell k0
  have c1 := fun x : BW w2 => x.cell k1
  have c2 := fun x : BW w2 => x.cell k2
  have c3 := fun x : BW w2 => x.cell k3
  have c4 := fun x : BW w2 => x.cell k4
  have c5 := fun x : BW w2 => x.cell k5
  have c6 := fun x : BW w2 => x.cell k6
  go_wp2_with fail
  clear k0 k1 k2 k3 k4 k5 k6
  refine wp_region_below_lit (W := w2) 12 (by kernel_rfl) (by kernel_rfl) (by decide) (Below.refl _ _) (by intro c d v a w h; cases d <;> exact h) ?_
  simp only [List.take_succ_cons, List.take_zero, List.drop_succ_cons, List.drop_zero]
  repeat (go_big_quiet_step ((go_at_call 8; refine quiet_below (specNumText_b _ _ (by assumption) (by assumption)))))
  refine wpQuiet_nil ?_
  rintro _ ⟨x, rfl⟩
  clear c0 c1 c2 c3 c4 c5 c6
  go_wp2
  go_ret
  exact ⟨rfl, below_app HB x.h HB.size⟩
set_option maxHeartbeats 4000000 in
theorem sptext_sh (e : Ev) (hk : e.kd = 1) (hp : e.pi = 0) (hb : okE e = true) (hw : wf64 e) (w : World) : Calls Tryd.prog 4 #[(.agg #[.int .i64 e.kd, .int .i64 e.sr, .int .i64 e.pi, .int .i64 e.si, .int .i64 e.nn, .int .i64 e.zo, .bool e.be])] w fun r w' => r = .returned (.string (((((⟨#[104, 117, 114, 116, 32]⟩ : ByteArray) ++ tx e.sr) ++ ((⟨#[32]⟩ : ByteArray) ++ tx e.nn)) ++ (⟨#[32, 115, 105, 100, 101, 32]⟩ : ByteArray)) ++ tx e.si)) ∧ Below w.heap.size w w' := by
  have HO : Hid (∀ w : World, Calls Tryd.prog 7 #[(.agg #[.int .i64 e.kd, .int .i64 e.sr, .int .i64 e.pi, .int .i64 e.si, .int .i64 e.nn, .int .i64 e.zo, .bool e.be])] w fun r w' => r = .returned (.bool true) ∧ Below w.heap.size w w') := fun w => by have := specEventOk_any e w; rw [hb] at this; exact this
  clear hb
  have HHK : Hid (e.kd = 1) := hk
  clear hk
  have HHP : Hid (e.pi = 0) := hp
  clear hp
  obtain ⟨⟨a1, b1⟩, ⟨a2, b2⟩, ⟨a3, b3⟩, ⟨a4, b4⟩, ⟨a5, b5⟩⟩ := hw
  have s1 := tx_size e.sr a1 b1
  have s2 := tx_size e.pi a2 b2
  have s3 := tx_size e.si a3 b3
  have s4 := tx_size e.nn a4 b4
  have s5 := tx_size e.zo a5 b5
  have bx := boxE_new w 25 e
  have HB := (Below.refl _ w).alloc (Nat.le_refl _) (.cells #[.int .i64 e.kd, .int .i64 e.sr, .int .i64 e.pi, .int .i64 e.si, .int .i64 e.nn, .int .i64 e.zo, .bool e.be] 25)
  generalize hW : w.alloc (.cells #[.int .i64 e.kd, .int .i64 e.sr, .int .i64 e.pi, .int .i64 e.si, .int .i64 e.nn, .int .i64 e.zo, .bool e.be] 25) = W at HB bx
  obtain ⟨k0, k1, k2, k3, k4, k5, k6⟩ : Cells7 _ _ _ := bx.cells
  go_enter Tryd.func4, Tryd.ntmps4
  go_wp2_with fail
  refine (HO.out _).mono ?_
  rintro r w1 ⟨rfl, hb1⟩
  clear k0 k1 k2 k3 k4 k5 k6 hW
  replace bx := bx.grew hb1
  replace HB := below_app HB hb1 HB.size
  clear hb1
  obtain ⟨k0, k1, k2, k3, k4, k5, k6⟩ : Cells7 _ _ _ := bx.cells
  go_wp2_with fail
  refine (specNumText_b e.nn _ a4 b4).mono ?_
  rintro r w2 ⟨rfl, hb2⟩
  clear k0 k1 k2 k3 k4 k5 k6
  replace bx := bx.grew hb2
  replace HB := below_app HB hb2 HB.size
  clear hb2
  obtain ⟨k0, k1, k2, k3, k4, k5, k6⟩ : Cells7 _ _ _ := bx.cells
  have hk := HHK.out
  have hp := HHP.out
  have hne := bw_ne w2
  have c0 := fun x : BW w2 => x.cell k0
  have c1 := fun x : BW w2 => x.cell k1
  have c2 := fun x : BW w2 => x.cell k2
  have c3 := fun x : BW w2 => x.cell k3
  have c4 := fun x : BW w2 => x.cell k4
  have c5 := fun x : BW w2 => x.cell k5
  have c6 := fun x : BW w2 => x.cell k6
  go_wp2_with fail
  clear k0 k1 k2 k3 k4 k5 k6
  refine wp_region_below_lit (W := w2) 12 (by kernel_rfl) (by kernel_rfl) (by decide) (Below.refl _ _) (by intro c d v a w h; cases d <;> exact h) ?_
  simp only [List.take_succ_cons, List.take_zero, List.drop_succ_cons, List.drop_zero]
  repeat (go_big_quiet_step ((go_at_call 8; refine quiet_below (specNumText_b _ _ (by assumption) (by assumption)))))
  refine wpQuiet_nil ?_
  rintro _ ⟨x, rfl⟩
  clear c0 c1 c2 c3 c4 c5 c6
  go_wp2
  go_ret
  exact ⟨rfl, below_app HB x.h HB.size⟩
set_option maxHeartbeats 4000000 in
theorem sptext_pm0 (e : Ev) (hk : e.kd = 2) (hbe : e.be = false) (hb : okE e = true) (hw : wf64 e) (w : World) : Calls Tryd.prog 4 #[(.agg #[.int .i64 e.kd, .int .i64 e.sr, .int .i64 e.pi, .int .i64 e.si, .int .i64 e.nn, .int .i64 e.zo, .bool e.be])] w fun r w' => r = .returned (.string (((((⟨#[109, 111, 118, 101, 32]⟩ : ByteArray) ++ tx e.pi) ++ (⟨#[32]⟩ : ByteArray)) ++ tx e.zo) ++ ((⟨#[32]⟩ : ByteArray) ++ tx e.nn))) ∧ Below w.heap.size w w' := by
  have HO : Hid (∀ w : World, Calls Tryd.prog 7 #[(.agg #[.int .i64 e.kd, .int .i64 e.sr, .int .i64 e.pi, .int .i64 e.si, .int .i64 e.nn, .int .i64 e.zo, .bool e.be])] w fun r w' => r = .returned (.bool true) ∧ Below w.heap.size w w') := fun w => by have := specEventOk_any e w; rw [hb] at this; exact this
  clear hb
  have HHK : Hid (e.kd = 2) := hk
  clear hk
  have HHBE : Hid (e.be = false) := hbe
  clear hbe
  obtain ⟨⟨a1, b1⟩, ⟨a2, b2⟩, ⟨a3, b3⟩, ⟨a4, b4⟩, ⟨a5, b5⟩⟩ := hw
  have s1 := tx_size e.sr a1 b1
  have s2 := tx_size e.pi a2 b2
  have s3 := tx_size e.si a3 b3
  have s4 := tx_size e.nn a4 b4
  have s5 := tx_size e.zo a5 b5
  have bx := boxE_new w 25 e
  have HB := (Below.refl _ w).alloc (Nat.le_refl _) (.cells #[.int .i64 e.kd, .int .i64 e.sr, .int .i64 e.pi, .int .i64 e.si, .int .i64 e.nn, .int .i64 e.zo, .bool e.be] 25)
  generalize hW : w.alloc (.cells #[.int .i64 e.kd, .int .i64 e.sr, .int .i64 e.pi, .int .i64 e.si, .int .i64 e.nn, .int .i64 e.zo, .bool e.be] 25) = W at HB bx
  obtain ⟨k0, k1, k2, k3, k4, k5, k6⟩ : Cells7 _ _ _ := bx.cells
  go_enter Tryd.func4, Tryd.ntmps4
  go_wp2_with fail
  refine (HO.out _).mono ?_
  rintro r w1 ⟨rfl, hb1⟩
  clear k0 k1 k2 k3 k4 k5 k6 hW
  replace bx := bx.grew hb1
  replace HB := below_app HB hb1 HB.size
  clear hb1
  obtain ⟨k0, k1, k2, k3, k4, k5, k6⟩ : Cells7 _ _ _ := bx.cells
  go_wp2_with fail
  refine (specNumText_b e.nn _ a4 b4).mono ?_
  rintro r w2 ⟨rfl, hb2⟩
  clear k0 k1 k2 k3 k4 k5 k6
  replace bx := bx.grew hb2
  replace HB := below_app HB hb2 HB.size
  clear hb2
  obtain ⟨k0, k1, k2, k3, k4, k5, k6⟩ : Cells7 _ _ _ := bx.cells
  have hk := HHK.out
  have hbe := HHBE.out
  have hne := bw_ne w2
  have c0 := fun x : BW w2 => x.cell k0
  have c1 := fun x : BW w2 => x.cell k1
  have c2 := fun x : BW w2 => x.cell k2
  have c3 := fun x : BW w2 => x.cell k3
  have c4 := fun x : BW w2 => x.cell k4
  have c5 := fun x : BW w2 => x.cell k5
  have c6 := fun x : BW w2 => x.cell k6
  go_wp2_with fail
  clear k0 k1 k2 k3 k4 k5 k6
  refine wp_region_below_lit (W := w2) 12 (by kernel_rfl) (by kernel_rfl) (by decide) (Below.refl _ _) (by intro c d v a w h; cases d <;> exact h) ?_
  simp only [List.take_succ_cons, List.take_zero, List.drop_succ_cons, List.drop_zero]
  repeat (go_big_quiet_step ((go_at_call 8; refine quiet_below (specNumText_b _ _ (by assumption) (by assumption)))))
  refine wpQuiet_nil ?_
  rintro _ ⟨x, rfl⟩
  have k6 := c6 x
  clear c0 c1 c2 c3 c4 c5 c6
  go_wp2
  go_ret
  exact ⟨rfl, below_app HB x.h HB.size⟩
set_option maxHeartbeats 4000000 in
theorem sptext_pm1 (e : Ev) (hk : e.kd = 2) (hbe : e.be = true) (hb : okE e = true) (hw : wf64 e) (w : World) : Calls Tryd.prog 4 #[(.agg #[.int .i64 e.kd, .int .i64 e.sr, .int .i64 e.pi, .int .i64 e.si, .int .i64 e.nn, .int .i64 e.zo, .bool e.be])] w fun r w' => r = .returned (.string ((((((⟨#[109, 111, 118, 101, 32]⟩ : ByteArray) ++ tx e.pi) ++ (⟨#[32]⟩ : ByteArray)) ++ tx e.zo) ++ ((⟨#[32]⟩ : ByteArray) ++ tx e.nn)) ++ (⟨#[32, 98, 101, 110, 116]⟩ : ByteArray))) ∧ Below w.heap.size w w' := by
  have HO : Hid (∀ w : World, Calls Tryd.prog 7 #[(.agg #[.int .i64 e.kd, .int .i64 e.sr, .int .i64 e.pi, .int .i64 e.si, .int .i64 e.nn, .int .i64 e.zo, .bool e.be])] w fun r w' => r = .returned (.bool true) ∧ Below w.heap.size w w') := fun w => by have := specEventOk_any e w; rw [hb] at this; exact this
  clear hb
  have HHK : Hid (e.kd = 2) := hk
  clear hk
  have HHBE : Hid (e.be = true) := hbe
  clear hbe
  obtain ⟨⟨a1, b1⟩, ⟨a2, b2⟩, ⟨a3, b3⟩, ⟨a4, b4⟩, ⟨a5, b5⟩⟩ := hw
  have s1 := tx_size e.sr a1 b1
  have s2 := tx_size e.pi a2 b2
  have s3 := tx_size e.si a3 b3
  have s4 := tx_size e.nn a4 b4
  have s5 := tx_size e.zo a5 b5
  have bx := boxE_new w 25 e
  have HB := (Below.refl _ w).alloc (Nat.le_refl _) (.cells #[.int .i64 e.kd, .int .i64 e.sr, .int .i64 e.pi, .int .i64 e.si, .int .i64 e.nn, .int .i64 e.zo, .bool e.be] 25)
  generalize hW : w.alloc (.cells #[.int .i64 e.kd, .int .i64 e.sr, .int .i64 e.pi, .int .i64 e.si, .int .i64 e.nn, .int .i64 e.zo, .bool e.be] 25) = W at HB bx
  obtain ⟨k0, k1, k2, k3, k4, k5, k6⟩ : Cells7 _ _ _ := bx.cells
  go_enter Tryd.func4, Tryd.ntmps4
  go_wp2_with fail
  refine (HO.out _).mono ?_
  rintro r w1 ⟨rfl, hb1⟩
  clear k0 k1 k2 k3 k4 k5 k6 hW
  replace bx := bx.grew hb1
  replace HB := below_app HB hb1 HB.size
  clear hb1
  obtain ⟨k0, k1, k2, k3, k4, k5, k6⟩ : Cells7 _ _ _ := bx.cells
  go_wp2_with fail
  refine (specNumText_b e.nn _ a4 b4).mono ?_
  rintro r w2 ⟨rfl, hb2⟩
  clear k0 k1 k2 k3 k4 k5 k6
  replace bx := bx.grew hb2
  replace HB := below_app HB hb2 HB.size
  clear hb2
  obtain ⟨k0, k1, k2, k3, k4, k5, k6⟩ : Cells7 _ _ _ := bx.cells
  have hk := HHK.out
  have hbe := HHBE.out
  have hne := bw_ne w2
  have c0 := fun x : BW w2 => x.cell k0
  have c1 := fun x : BW w2 => x.cell k1
  have c2 := fun x : BW w2 => x.cell k2
  have c3 := fun x : BW w2 => x.cell k3
  have c4 := fun x : BW w2 => x.cell k4
  have c5 := fun x : BW w2 => x.cell k5
  have c6 := fun x : BW w2 => x.cell k6
  go_wp2_with fail
  clear k0 k1 k2 k3 k4 k5 k6
  refine wp_region_below_lit (W := w2) 12 (by kernel_rfl) (by kernel_rfl) (by decide) (Below.refl _ _) (by intro c d v a w h; cases d <;> exact h) ?_
  simp only [List.take_succ_cons, List.take_zero, List.drop_succ_cons, List.drop_zero]
  repeat (go_big_quiet_step ((go_at_call 8; refine quiet_below (specNumText_b _ _ (by assumption) (by assumption)))))
  refine wpQuiet_nil ?_
  rintro _ ⟨x, rfl⟩
  have k6 := c6 x
  clear c0 c1 c2 c3 c4 c5 c6
  go_wp2
  go_ret
  exact ⟨rfl, below_app HB x.h HB.size⟩
set_option maxHeartbeats 4000000 in
theorem sptext_sg (e : Ev) (hk : e.kd = 3) (hb : okE e = true) (hw : wf64 e) (w : World) : Calls Tryd.prog 4 #[(.agg #[.int .i64 e.kd, .int .i64 e.sr, .int .i64 e.pi, .int .i64 e.si, .int .i64 e.nn, .int .i64 e.zo, .bool e.be])] w fun r w' => r = .returned (.string (((⟨#[103, 97, 105, 110, 32]⟩ : ByteArray) ++ tx e.si) ++ ((⟨#[32]⟩ : ByteArray) ++ tx e.nn))) ∧ Below w.heap.size w w' := by
  have HO : Hid (∀ w : World, Calls Tryd.prog 7 #[(.agg #[.int .i64 e.kd, .int .i64 e.sr, .int .i64 e.pi, .int .i64 e.si, .int .i64 e.nn, .int .i64 e.zo, .bool e.be])] w fun r w' => r = .returned (.bool true) ∧ Below w.heap.size w w') := fun w => by have := specEventOk_any e w; rw [hb] at this; exact this
  clear hb
  have HHK : Hid (e.kd = 3) := hk
  clear hk
  obtain ⟨⟨a1, b1⟩, ⟨a2, b2⟩, ⟨a3, b3⟩, ⟨a4, b4⟩, ⟨a5, b5⟩⟩ := hw
  have s1 := tx_size e.sr a1 b1
  have s2 := tx_size e.pi a2 b2
  have s3 := tx_size e.si a3 b3
  have s4 := tx_size e.nn a4 b4
  have s5 := tx_size e.zo a5 b5
  have bx := boxE_new w 25 e
  have HB := (Below.refl _ w).alloc (Nat.le_refl _) (.cells #[.int .i64 e.kd, .int .i64 e.sr, .int .i64 e.pi, .int .i64 e.si, .int .i64 e.nn, .int .i64 e.zo, .bool e.be] 25)
  generalize hW : w.alloc (.cells #[.int .i64 e.kd, .int .i64 e.sr, .int .i64 e.pi, .int .i64 e.si, .int .i64 e.nn, .int .i64 e.zo, .bool e.be] 25) = W at HB bx
  obtain ⟨k0, k1, k2, k3, k4, k5, k6⟩ : Cells7 _ _ _ := bx.cells
  go_enter Tryd.func4, Tryd.ntmps4
  go_wp2_with fail
  refine (HO.out _).mono ?_
  rintro r w1 ⟨rfl, hb1⟩
  clear k0 k1 k2 k3 k4 k5 k6 hW
  replace bx := bx.grew hb1
  replace HB := below_app HB hb1 HB.size
  clear hb1
  obtain ⟨k0, k1, k2, k3, k4, k5, k6⟩ : Cells7 _ _ _ := bx.cells
  go_wp2_with fail
  refine (specNumText_b e.nn _ a4 b4).mono ?_
  rintro r w2 ⟨rfl, hb2⟩
  clear k0 k1 k2 k3 k4 k5 k6
  replace bx := bx.grew hb2
  replace HB := below_app HB hb2 HB.size
  clear hb2
  obtain ⟨k0, k1, k2, k3, k4, k5, k6⟩ : Cells7 _ _ _ := bx.cells
  have hk := HHK.out
  go_wp2_with fail
  refine (specNumText_b e.si _ a3 b3).mono ?_
  rintro r w3 ⟨rfl, hb3⟩
  clear k0 k1 k2 k3 k4 k5 k6
  go_wp2
  go_ret
  exact ⟨rfl, below_app HB hb3 HB.size⟩
set_option maxHeartbeats 4000000 in
theorem sptext_sl (e : Ev) (hk : e.kd = 4) (hb : okE e = true) (hw : wf64 e) (w : World) : Calls Tryd.prog 4 #[(.agg #[.int .i64 e.kd, .int .i64 e.sr, .int .i64 e.pi, .int .i64 e.si, .int .i64 e.nn, .int .i64 e.zo, .bool e.be])] w fun r w' => r = .returned (.string (((⟨#[108, 111, 115, 101, 32]⟩ : ByteArray) ++ tx e.si) ++ ((⟨#[32]⟩ : ByteArray) ++ tx e.nn))) ∧ Below w.heap.size w w' := by
  have HO : Hid (∀ w : World, Calls Tryd.prog 7 #[(.agg #[.int .i64 e.kd, .int .i64 e.sr, .int .i64 e.pi, .int .i64 e.si, .int .i64 e.nn, .int .i64 e.zo, .bool e.be])] w fun r w' => r = .returned (.bool true) ∧ Below w.heap.size w w') := fun w => by have := specEventOk_any e w; rw [hb] at this; exact this
  clear hb
  have HHK : Hid (e.kd = 4) := hk
  clear hk
  obtain ⟨⟨a1, b1⟩, ⟨a2, b2⟩, ⟨a3, b3⟩, ⟨a4, b4⟩, ⟨a5, b5⟩⟩ := hw
  have s1 := tx_size e.sr a1 b1
  have s2 := tx_size e.pi a2 b2
  have s3 := tx_size e.si a3 b3
  have s4 := tx_size e.nn a4 b4
  have s5 := tx_size e.zo a5 b5
  have bx := boxE_new w 25 e
  have HB := (Below.refl _ w).alloc (Nat.le_refl _) (.cells #[.int .i64 e.kd, .int .i64 e.sr, .int .i64 e.pi, .int .i64 e.si, .int .i64 e.nn, .int .i64 e.zo, .bool e.be] 25)
  generalize hW : w.alloc (.cells #[.int .i64 e.kd, .int .i64 e.sr, .int .i64 e.pi, .int .i64 e.si, .int .i64 e.nn, .int .i64 e.zo, .bool e.be] 25) = W at HB bx
  obtain ⟨k0, k1, k2, k3, k4, k5, k6⟩ : Cells7 _ _ _ := bx.cells
  go_enter Tryd.func4, Tryd.ntmps4
  go_wp2_with fail
  refine (HO.out _).mono ?_
  rintro r w1 ⟨rfl, hb1⟩
  clear k0 k1 k2 k3 k4 k5 k6 hW
  replace bx := bx.grew hb1
  replace HB := below_app HB hb1 HB.size
  clear hb1
  obtain ⟨k0, k1, k2, k3, k4, k5, k6⟩ : Cells7 _ _ _ := bx.cells
  go_wp2_with fail
  refine (specNumText_b e.nn _ a4 b4).mono ?_
  rintro r w2 ⟨rfl, hb2⟩
  clear k0 k1 k2 k3 k4 k5 k6
  replace bx := bx.grew hb2
  replace HB := below_app HB hb2 HB.size
  clear hb2
  obtain ⟨k0, k1, k2, k3, k4, k5, k6⟩ : Cells7 _ _ _ := bx.cells
  have hk := HHK.out
  go_wp2_with fail
  refine (specNumText_b e.si _ a3 b3).mono ?_
  rintro r w3 ⟨rfl, hb3⟩
  clear k0 k1 k2 k3 k4 k5 k6
  go_wp2
  go_ret
  exact ⟨rfl, below_app HB hb3 HB.size⟩
set_option maxHeartbeats 4000000 in
theorem sptext_pp (e : Ev) (hk : e.kd = 5) (hb : okE e = true) (hw : wf64 e) (w : World) : Calls Tryd.prog 4 #[(.agg #[.int .i64 e.kd, .int .i64 e.sr, .int .i64 e.pi, .int .i64 e.si, .int .i64 e.nn, .int .i64 e.zo, .bool e.be])] w fun r w' => r = .returned (.string (((⟨#[112, 117, 116, 32]⟩ : ByteArray) ++ tx e.pi) ++ ((⟨#[32]⟩ : ByteArray) ++ tx e.nn))) ∧ Below w.heap.size w w' := by
  have HO : Hid (∀ w : World, Calls Tryd.prog 7 #[(.agg #[.int .i64 e.kd, .int .i64 e.sr, .int .i64 e.pi, .int .i64 e.si, .int .i64 e.nn, .int .i64 e.zo, .bool e.be])] w fun r w' => r = .returned (.bool true) ∧ Below w.heap.size w w') := fun w => by have := specEventOk_any e w; rw [hb] at this; exact this
  clear hb
  have HHK : Hid (e.kd = 5) := hk
  clear hk
  obtain ⟨⟨a1, b1⟩, ⟨a2, b2⟩, ⟨a3, b3⟩, ⟨a4, b4⟩, ⟨a5, b5⟩⟩ := hw
  have s1 := tx_size e.sr a1 b1
  have s2 := tx_size e.pi a2 b2
  have s3 := tx_size e.si a3 b3
  have s4 := tx_size e.nn a4 b4
  have s5 := tx_size e.zo a5 b5
  have bx := boxE_new w 25 e
  have HB := (Below.refl _ w).alloc (Nat.le_refl _) (.cells #[.int .i64 e.kd, .int .i64 e.sr, .int .i64 e.pi, .int .i64 e.si, .int .i64 e.nn, .int .i64 e.zo, .bool e.be] 25)
  generalize hW : w.alloc (.cells #[.int .i64 e.kd, .int .i64 e.sr, .int .i64 e.pi, .int .i64 e.si, .int .i64 e.nn, .int .i64 e.zo, .bool e.be] 25) = W at HB bx
  obtain ⟨k0, k1, k2, k3, k4, k5, k6⟩ : Cells7 _ _ _ := bx.cells
  go_enter Tryd.func4, Tryd.ntmps4
  go_wp2_with fail
  refine (HO.out _).mono ?_
  rintro r w1 ⟨rfl, hb1⟩
  clear k0 k1 k2 k3 k4 k5 k6 hW
  replace bx := bx.grew hb1
  replace HB := below_app HB hb1 HB.size
  clear hb1
  obtain ⟨k0, k1, k2, k3, k4, k5, k6⟩ : Cells7 _ _ _ := bx.cells
  go_wp2_with fail
  refine (specNumText_b e.nn _ a4 b4).mono ?_
  rintro r w2 ⟨rfl, hb2⟩
  clear k0 k1 k2 k3 k4 k5 k6
  replace bx := bx.grew hb2
  replace HB := below_app HB hb2 HB.size
  clear hb2
  obtain ⟨k0, k1, k2, k3, k4, k5, k6⟩ : Cells7 _ _ _ := bx.cells
  have hk := HHK.out
  go_wp2_with fail
  refine (specNumText_b e.pi _ a2 b2).mono ?_
  rintro r w3 ⟨rfl, hb3⟩
  clear k0 k1 k2 k3 k4 k5 k6
  go_wp2
  go_ret
  exact ⟨rfl, below_app HB hb3 HB.size⟩
set_option maxHeartbeats 4000000 in
theorem sptext_pc (e : Ev) (hk : e.kd = 6) (hb : okE e = true) (hw : wf64 e) (w : World) : Calls Tryd.prog 4 #[(.agg #[.int .i64 e.kd, .int .i64 e.sr, .int .i64 e.pi, .int .i64 e.si, .int .i64 e.nn, .int .i64 e.zo, .bool e.be])] w fun r w' => r = .returned (.string (((⟨#[99, 117, 116, 32]⟩ : ByteArray) ++ tx e.pi) ++ ((⟨#[32]⟩ : ByteArray) ++ tx e.nn))) ∧ Below w.heap.size w w' := by
  have HO : Hid (∀ w : World, Calls Tryd.prog 7 #[(.agg #[.int .i64 e.kd, .int .i64 e.sr, .int .i64 e.pi, .int .i64 e.si, .int .i64 e.nn, .int .i64 e.zo, .bool e.be])] w fun r w' => r = .returned (.bool true) ∧ Below w.heap.size w w') := fun w => by have := specEventOk_any e w; rw [hb] at this; exact this
  clear hb
  have HHK : Hid (e.kd = 6) := hk
  clear hk
  obtain ⟨⟨a1, b1⟩, ⟨a2, b2⟩, ⟨a3, b3⟩, ⟨a4, b4⟩, ⟨a5, b5⟩⟩ := hw
  have s1 := tx_size e.sr a1 b1
  have s2 := tx_size e.pi a2 b2
  have s3 := tx_size e.si a3 b3
  have s4 := tx_size e.nn a4 b4
  have s5 := tx_size e.zo a5 b5
  have bx := boxE_new w 25 e
  have HB := (Below.refl _ w).alloc (Nat.le_refl _) (.cells #[.int .i64 e.kd, .int .i64 e.sr, .int .i64 e.pi, .int .i64 e.si, .int .i64 e.nn, .int .i64 e.zo, .bool e.be] 25)
  generalize hW : w.alloc (.cells #[.int .i64 e.kd, .int .i64 e.sr, .int .i64 e.pi, .int .i64 e.si, .int .i64 e.nn, .int .i64 e.zo, .bool e.be] 25) = W at HB bx
  obtain ⟨k0, k1, k2, k3, k4, k5, k6⟩ : Cells7 _ _ _ := bx.cells
  go_enter Tryd.func4, Tryd.ntmps4
  go_wp2_with fail
  refine (HO.out _).mono ?_
  rintro r w1 ⟨rfl, hb1⟩
  clear k0 k1 k2 k3 k4 k5 k6 hW
  replace bx := bx.grew hb1
  replace HB := below_app HB hb1 HB.size
  clear hb1
  obtain ⟨k0, k1, k2, k3, k4, k5, k6⟩ : Cells7 _ _ _ := bx.cells
  go_wp2_with fail
  refine (specNumText_b e.nn _ a4 b4).mono ?_
  rintro r w2 ⟨rfl, hb2⟩
  clear k0 k1 k2 k3 k4 k5 k6
  replace bx := bx.grew hb2
  replace HB := below_app HB hb2 HB.size
  clear hb2
  obtain ⟨k0, k1, k2, k3, k4, k5, k6⟩ : Cells7 _ _ _ := bx.cells
  have hk := HHK.out
  go_wp2_with fail
  refine (specNumText_b e.pi _ a2 b2).mono ?_
  rintro r w3 ⟨rfl, hb3⟩
  clear k0 k1 k2 k3 k4 k5 k6
  go_wp2
  go_ret
  exact ⟨rfl, below_app HB hb3 HB.size⟩
theorem specEventText_any (e : Ev) (hw : wf64 e) (w : World) : Calls Tryd.prog 4 #[(.agg #[.int .i64 e.kd, .int .i64 e.sr, .int .i64 e.pi, .int .i64 e.si, .int .i64 e.nn, .int .i64 e.zo, .bool e.be])] w fun r w' => r = .returned (.string (txE e)) ∧ Below w.heap.size w w' := by
  cases hb : okE e with
  | false =>
    have : txE e = ⟨#[]⟩ := by unfold txE tk_ph tk_sh tk_pm tk_sg tk_sl tk_pp tk_pc; simp [hb]
    rw [this]; exact sptext_bad e hb w
  | true =>
    unfold txE
    by_cases h1 : e.kd = 1
    · rw [if_pos h1]
      by_cases hp : e.pi = 0
      · rw [if_pos hp]; unfold tk_sh; rw [if_pos hb, ← sp_sh]; exact sptext_sh e h1 hp hb hw w
      · rw [if_neg hp]; unfold tk_ph; rw [if_pos hb, ← sp_ph]; exact sptext_ph e h1 hp hb hw w
    rw [if_neg h1]
    by_cases h2 : e.kd = 2
    · rw [if_pos h2]; unfold tk_pm; rw [if_pos hb]; unfold tt_pm; rw [← sp_pm]
      cases hbe : e.be with
      | false =>
        have := sptext_pm0 e h2 hbe hb hw w
        have h0 : (bnB false) = ByteArray.empty := rfl
        rw [h0, ByteArray.append_empty]; rw [hbe] at this; exact this
      | true => have := sptext_pm1 e h2 hbe hb hw w; rw [hbe] at this; exact this
    rw [if_neg h2]
    by_cases h3 : e.kd = 3
    · rw [if_pos h3]; unfold tk_sg; rw [if_pos hb, ← sp_sg]; exact sptext_sg e h3 hb hw w
    rw [if_neg h3]
    by_cases h4 : e.kd = 4
    · rw [if_pos h4]; unfold tk_sl; rw [if_pos hb, ← sp_sl]; exact sptext_sl e h4 hb hw w
    rw [if_neg h4]
    by_cases h5 : e.kd = 5
    · rw [if_pos h5]; unfold tk_pp; rw [if_pos hb, ← sp_pp]; exact sptext_pp e h5 hb hw w
    rw [if_neg h5]
    by_cases h6 : e.kd = 6
    · rw [if_pos h6]; unfold tk_pc; rw [if_pos hb, ← sp_pc]; exact sptext_pc e h6 hb hw w
    exfalso
    unfold okE at hb
    simp [h1, h2, h3, h4, h5, h6] at hb
end Go.Proofs.YtjpimkolkhbflaqDoor
