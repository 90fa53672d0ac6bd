/-
  Chapter 9: what an act says: the specification's ActText. Written by tools/act.gen.py. Chapter 9: what acts that are alike say. Written by tools/exactact.py. Own work.
-/
import Derived.Test.YtgaodfjmehofgasDoorAcT
import Derived.Test.YtgaodfjmehofgasDoorAcL
namespace Go.Proofs.YtgaodfjmehofgasDoor
open Go.ChangeShapes Go.WideShapes Go.ChangeAt Go.RowKit
set_option maxRecDepth 100000
set_option linter.unusedVariables false
set_option linter.unusedSimpArgs false

theorem sp_say (wd ws : ByteArray) (x : Int) (h : ws = wd ++ (⟨#[32]⟩ : ByteArray)) : ws ++ tx x = say wd (fn1 x) 1 := by
  rw [h]; simp [say, fn1, ByteArray.append_assoc]
set_option maxHeartbeats 2000000 in
theorem ats_bad (a : Ac) (w : World) (hok : a.ok w) (hn : a.ln ≤ 1048577) (hb : okAc a = false) : Calls Tryd.prog 5 #[(.agg #[.int .i64 a.kd, .int .i64 a.nn, .int .i64 a.pi, .int .i64 a.si, .int .i64 a.zo, .bool a.be, .slice a.la a.ln a.lcap])] w fun r w' => r = .returned (.string (⟨#[]⟩ : ByteArray)) ∧ Below w.heap.size w w' := by
  have HO : Hid (∀ u : World, Below w.heap.size w u → Calls Tryd.prog 10 #[(.agg #[.int .i64 a.kd, .int .i64 a.nn, .int .i64 a.pi, .int .i64 a.si, .int .i64 a.zo, .bool a.be, .slice a.la a.ln a.lcap])] u fun r w' => r = .returned (.bool false) ∧ Below u.heap.size u w') := fun u hu => by have := specActOk_any a u (act_grew hok hu) hn; rw [hb] at this; exact this
  have HI : Hid a.in64 := hok.in64
  clear hb hok
  have HB := (Below.refl _ w).alloc (Nat.le_refl _) (.cells #[.int .i64 a.kd, .int .i64 a.nn, .int .i64 a.pi, .int .i64 a.si, .int .i64 a.zo, .bool a.be, .slice a.la a.ln a.lcap] 29)
  have bx := boxR_new w 29 #[.int .i64 a.kd, .int .i64 a.nn, .int .i64 a.pi, .int .i64 a.si, .int .i64 a.zo, .bool a.be, .slice a.la a.ln a.lcap]
  generalize hW : w.alloc (.cells #[.int .i64 a.kd, .int .i64 a.nn, .int .i64 a.pi, .int .i64 a.si, .int .i64 a.zo, .bool a.be, .slice a.la a.ln a.lcap] 29) = W at HB bx
  have c0 := bx.cell 0
  have c1 := bx.cell 1
  have c2 := bx.cell 2
  have c3 := bx.cell 3
  have c4 := bx.cell 4
  have c5 := bx.cell 5
  have c6 := bx.cell 6
  simp at c0 c1 c2 c3 c4 c5 c6
  go_enter Tryd.func5, Tryd.ntmps5
  go_wp2_with fail
  refine (HO.out _ HB).mono ?_
  rintro r w1 ⟨rfl, hb1⟩
  replace bx := bx.grew hb1
  replace HB := below_app HB hb1 HB.size
  clear hW hb1 c0 c1 c2 c3 c4 c5 c6
  have d0 := bx.cell 0
  have d1 := bx.cell 1
  have d2 := bx.cell 2
  have d3 := bx.cell 3
  have d4 := bx.cell 4
  have d5 := bx.cell 5
  have d6 := bx.cell 6
  simp at d0 d1 d2 d3 d4 d5 d6
  go_wp2
  go_ret
  exact ⟨rfl, HB⟩
set_option maxHeartbeats 2000000 in
theorem ats_1 (a : Ac) (w : World) (hok : a.ok w) (hn : a.ln ≤ 1048577) (hb : okAc a = true) (hk : a.kd = 1) : Calls Tryd.prog 5 #[(.agg #[.int .i64 a.kd, .int .i64 a.nn, .int .i64 a.pi, .int .i64 a.si, .int .i64 a.zo, .bool a.be, .slice a.la a.ln a.lcap])] w fun r w' => r = .returned (.string (⟨#[115, 116, 111, 112]⟩ : ByteArray)) ∧ Below w.heap.size w w' := by
  have HO : Hid (∀ u : World, Below w.heap.size w u → Calls Tryd.prog 10 #[(.agg #[.int .i64 a.kd, .int .i64 a.nn, .int .i64 a.pi, .int .i64 a.si, .int .i64 a.zo, .bool a.be, .slice a.la a.ln a.lcap])] u fun r w' => r = .returned (.bool true) ∧ Below u.heap.size u w') := fun u hu => by have := specActOk_any a u (act_grew hok hu) hn; rw [hb] at this; exact this
  have HI : Hid a.in64 := hok.in64
  clear hb hok
  have HK : Hid (a.kd = 1) := hk
  clear hk
  have HB := (Below.refl _ w).alloc (Nat.le_refl _) (.cells #[.int .i64 a.kd, .int .i64 a.nn, .int .i64 a.pi, .int .i64 a.si, .int .i64 a.zo, .bool a.be, .slice a.la a.ln a.lcap] 29)
  have bx := boxR_new w 29 #[.int .i64 a.kd, .int .i64 a.nn, .int .i64 a.pi, .int .i64 a.si, .int .i64 a.zo, .bool a.be, .slice a.la a.ln a.lcap]
  generalize hW : w.alloc (.cells #[.int .i64 a.kd, .int .i64 a.nn, .int .i64 a.pi, .int .i64 a.si, .int .i64 a.zo, .bool a.be, .slice a.la a.ln a.lcap] 29) = W at HB bx
  have c0 := bx.cell 0
  have c1 := bx.cell 1
  have c2 := bx.cell 2
  have c3 := bx.cell 3
  have c4 := bx.cell 4
  have c5 := bx.cell 5
  have c6 := bx.cell 6
  simp at c0 c1 c2 c3 c4 c5 c6
  go_enter Tryd.func5, Tryd.ntmps5
  go_wp2_with fail
  refine (HO.out _ HB).mono ?_
  rintro r w1 ⟨rfl, hb1⟩
  replace bx := bx.grew hb1
  replace HB := below_app HB hb1 HB.size
  clear hW hb1 c0 c1 c2 c3 c4 c5 c6
  have q0 : (a.kd : Int) = 1 := HK.out
  have d0 := bx.cell 0
  have d1 := bx.cell 1
  have d2 := bx.cell 2
  have d3 := bx.cell 3
  have d4 := bx.cell 4
  have d5 := bx.cell 5
  have d6 := bx.cell 6
  simp at d0 d1 d2 d3 d4 d5 d6
  rw [q0] at d0
  go_wp2
  go_ret
  exact ⟨rfl, HB⟩
set_option maxHeartbeats 2000000 in
theorem ats_2 (a : Ac) (w : World) (hok : a.ok w) (hn : a.ln ≤ 1048577) (hb : okAc a = true) (hk : a.kd = 2) : Calls Tryd.prog 5 #[(.agg #[.int .i64 a.kd, .int .i64 a.nn, .int .i64 a.pi, .int .i64 a.si, .int .i64 a.zo, .bool a.be, .slice a.la a.ln a.lcap])] w fun r w' => r = .returned (.string (⟨#[115, 104, 105, 101, 108, 100]⟩ : ByteArray)) ∧ Below w.heap.size w w' := by
  have HO : Hid (∀ u : World, Below w.heap.size w u → Calls Tryd.prog 10 #[(.agg #[.int .i64 a.kd, .int .i64 a.nn, .int .i64 a.pi, .int .i64 a.si, .int .i64 a.zo, .bool a.be, .slice a.la a.ln a.lcap])] u fun r w' => r = .returned (.bool true) ∧ Below u.heap.size u w') := fun u hu => by have := specActOk_any a u (act_grew hok hu) hn; rw [hb] at this; exact this
  have HI : Hid a.in64 := hok.in64
  clear hb hok
  have HK : Hid (a.kd = 2) := hk
  clear hk
  have HB := (Below.refl _ w).alloc (Nat.le_refl _) (.cells #[.int .i64 a.kd, .int .i64 a.nn, .int .i64 a.pi, .int .i64 a.si, .int .i64 a.zo, .bool a.be, .slice a.la a.ln a.lcap] 29)
  have bx := boxR_new w 29 #[.int .i64 a.kd, .int .i64 a.nn, .int .i64 a.pi, .int .i64 a.si, .int .i64 a.zo, .bool a.be, .slice a.la a.ln a.lcap]
  generalize hW : w.alloc (.cells #[.int .i64 a.kd, .int .i64 a.nn, .int .i64 a.pi, .int .i64 a.si, .int .i64 a.zo, .bool a.be, .slice a.la a.ln a.lcap] 29) = W at HB bx
  have c0 := bx.cell 0
  have c1 := bx.cell 1
  have c2 := bx.cell 2
  have c3 := bx.cell 3
  have c4 := bx.cell 4
  have c5 := bx.cell 5
  have c6 := bx.cell 6
  simp at c0 c1 c2 c3 c4 c5 c6
  go_enter Tryd.func5, Tryd.ntmps5
  go_wp2_with fail
  refine (HO.out _ HB).mono ?_
  rintro r w1 ⟨rfl, hb1⟩
  replace bx := bx.grew hb1
  replace HB := below_app HB hb1 HB.size
  clear hW hb1 c0 c1 c2 c3 c4 c5 c6
  have q0 : (a.kd : Int) = 2 := HK.out
  have d0 := bx.cell 0
  have d1 := bx.cell 1
  have d2 := bx.cell 2
  have d3 := bx.cell 3
  have d4 := bx.cell 4
  have d5 := bx.cell 5
  have d6 := bx.cell 6
  simp at d0 d1 d2 d3 d4 d5 d6
  rw [q0] at d0
  go_wp2
  go_ret
  exact ⟨rfl, HB⟩
set_option maxHeartbeats 2000000 in
theorem ats_4 (a : Ac) (w : World) (hok : a.ok w) (hn : a.ln ≤ 1048577) (hb : okAc a = true) (hk : a.kd = 4) : Calls Tryd.prog 5 #[(.agg #[.int .i64 a.kd, .int .i64 a.nn, .int .i64 a.pi, .int .i64 a.si, .int .i64 a.zo, .bool a.be, .slice a.la a.ln a.lcap])] w fun r w' => r = .returned (.string (⟨#[116, 119, 105, 99, 101]⟩ : ByteArray)) ∧ Below w.heap.size w w' := by
  have HO : Hid (∀ u : World, Below w.heap.size w u → Calls Tryd.prog 10 #[(.agg #[.int .i64 a.kd, .int .i64 a.nn, .int .i64 a.pi, .int .i64 a.si, .int .i64 a.zo, .bool a.be, .slice a.la a.ln a.lcap])] u fun r w' => r = .returned (.bool true) ∧ Below u.heap.size u w') := fun u hu => by have := specActOk_any a u (act_grew hok hu) hn; rw [hb] at this; exact this
  have HI : Hid a.in64 := hok.in64
  clear hb hok
  have HK : Hid (a.kd = 4) := hk
  clear hk
  have HB := (Below.refl _ w).alloc (Nat.le_refl _) (.cells #[.int .i64 a.kd, .int .i64 a.nn, .int .i64 a.pi, .int .i64 a.si, .int .i64 a.zo, .bool a.be, .slice a.la a.ln a.lcap] 29)
  have bx := boxR_new w 29 #[.int .i64 a.kd, .int .i64 a.nn, .int .i64 a.pi, .int .i64 a.si, .int .i64 a.zo, .bool a.be, .slice a.la a.ln a.lcap]
  generalize hW : w.alloc (.cells #[.int .i64 a.kd, .int .i64 a.nn, .int .i64 a.pi, .int .i64 a.si, .int .i64 a.zo, .bool a.be, .slice a.la a.ln a.lcap] 29) = W at HB bx
  have c0 := bx.cell 0
  have c1 := bx.cell 1
  have c2 := bx.cell 2
  have c3 := bx.cell 3
  have c4 := bx.cell 4
  have c5 := bx.cell 5
  have c6 := bx.cell 6
  simp at c0 c1 c2 c3 c4 c5 c6
  go_enter Tryd.func5, Tryd.ntmps5
  go_wp2_with fail
  refine (HO.out _ HB).mono ?_
  rintro r w1 ⟨rfl, hb1⟩
  replace bx := bx.grew hb1
  replace HB := below_app HB hb1 HB.size
  clear hW hb1 c0 c1 c2 c3 c4 c5 c6
  have q0 : (a.kd : Int) = 4 := HK.out
  have d0 := bx.cell 0
  have d1 := bx.cell 1
  have d2 := bx.cell 2
  have d3 := bx.cell 3
  have d4 := bx.cell 4
  have d5 := bx.cell 5
  have d6 := bx.cell 6
  simp at d0 d1 d2 d3 d4 d5 d6
  rw [q0] at d0
  go_wp2
  go_ret
  exact ⟨rfl, HB⟩
set_option maxHeartbeats 2000000 in
theorem ats_5 (a : Ac) (w : World) (hok : a.ok w) (hn : a.ln ≤ 1048577) (hb : okAc a = true) (hk : a.kd = 5) : Calls Tryd.prog 5 #[(.agg #[.int .i64 a.kd, .int .i64 a.nn, .int .i64 a.pi, .int .i64 a.si, .int .i64 a.zo, .bool a.be, .slice a.la a.ln a.lcap])] w fun r w' => r = .returned (.string (⟨#[104, 97, 108, 102]⟩ : ByteArray)) ∧ Below w.heap.size w w' := by
  have HO : Hid (∀ u : World, Below w.heap.size w u → Calls Tryd.prog 10 #[(.agg #[.int .i64 a.kd, .int .i64 a.nn, .int .i64 a.pi, .int .i64 a.si, .int .i64 a.zo, .bool a.be, .slice a.la a.ln a.lcap])] u fun r w' => r = .returned (.bool true) ∧ Below u.heap.size u w') := fun u hu => by have := specActOk_any a u (act_grew hok hu) hn; rw [hb] at this; exact this
  have HI : Hid a.in64 := hok.in64
  clear hb hok
  have HK : Hid (a.kd = 5) := hk
  clear hk
  have HB := (Below.refl _ w).alloc (Nat.le_refl _) (.cells #[.int .i64 a.kd, .int .i64 a.nn, .int .i64 a.pi, .int .i64 a.si, .int .i64 a.zo, .bool a.be, .slice a.la a.ln a.lcap] 29)
  have bx := boxR_new w 29 #[.int .i64 a.kd, .int .i64 a.nn, .int .i64 a.pi, .int .i64 a.si, .int .i64 a.zo, .bool a.be, .slice a.la a.ln a.lcap]
  generalize hW : w.alloc (.cells #[.int .i64 a.kd, .int .i64 a.nn, .int .i64 a.pi, .int .i64 a.si, .int .i64 a.zo, .bool a.be, .slice a.la a.ln a.lcap] 29) = W at HB bx
  have c0 := bx.cell 0
  have c1 := bx.cell 1
  have c2 := bx.cell 2
  have c3 := bx.cell 3
  have c4 := bx.cell 4
  have c5 := bx.cell 5
  have c6 := bx.cell 6
  simp at c0 c1 c2 c3 c4 c5 c6
  go_enter Tryd.func5, Tryd.ntmps5
  go_wp2_with fail
  refine (HO.out _ HB).mono ?_
  rintro r w1 ⟨rfl, hb1⟩
  replace bx := bx.grew hb1
  replace HB := below_app HB hb1 HB.size
  clear hW hb1 c0 c1 c2 c3 c4 c5 c6
  have q0 : (a.kd : Int) = 5 := HK.out
  have d0 := bx.cell 0
  have d1 := bx.cell 1
  have d2 := bx.cell 2
  have d3 := bx.cell 3
  have d4 := bx.cell 4
  have d5 := bx.cell 5
  have d6 := bx.cell 6
  simp at d0 d1 d2 d3 d4 d5 d6
  rw [q0] at d0
  go_wp2
  go_ret
  exact ⟨rfl, HB⟩
set_option maxHeartbeats 2000000 in
theorem ats_3 (a : Ac) (w : World) (hok : a.ok w) (hn : a.ln ≤ 1048577) (hb : okAc a = true) (hk : a.kd = 3) : Calls Tryd.prog 5 #[(.agg #[.int .i64 a.kd, .int .i64 a.nn, .int .i64 a.pi, .int .i64 a.si, .int .i64 a.zo, .bool a.be, .slice a.la a.ln a.lcap])] w fun r w' => r = .returned (.string ((⟨#[109, 111, 114, 101, 32]⟩ : ByteArray) ++ tx a.nn)) ∧ Below w.heap.size w w' := by
  have HO : Hid (∀ u : World, Below w.heap.size w u → Calls Tryd.prog 10 #[(.agg #[.int .i64 a.kd, .int .i64 a.nn, .int .i64 a.pi, .int .i64 a.si, .int .i64 a.zo, .bool a.be, .slice a.la a.ln a.lcap])] u fun r w' => r = .returned (.bool true) ∧ Below u.heap.size u w') := fun u hu => by have := specActOk_any a u (act_grew hok hu) hn; rw [hb] at this; exact this
  have HI : Hid a.in64 := hok.in64
  clear hb hok
  have HK : Hid (a.kd = 3) := hk
  clear hk
  have HB := (Below.refl _ w).alloc (Nat.le_refl _) (.cells #[.int .i64 a.kd, .int .i64 a.nn, .int .i64 a.pi, .int .i64 a.si, .int .i64 a.zo, .bool a.be, .slice a.la a.ln a.lcap] 29)
  have bx := boxR_new w 29 #[.int .i64 a.kd, .int .i64 a.nn, .int .i64 a.pi, .int .i64 a.si, .int .i64 a.zo, .bool a.be, .slice a.la a.ln a.lcap]
  generalize hW : w.alloc (.cells #[.int .i64 a.kd, .int .i64 a.nn, .int .i64 a.pi, .int .i64 a.si, .int .i64 a.zo, .bool a.be, .slice a.la a.ln a.lcap] 29) = W at HB bx
  have c0 := bx.cell 0
  have c1 := bx.cell 1
  have c2 := bx.cell 2
  have c3 := bx.cell 3
  have c4 := bx.cell 4
  have c5 := bx.cell 5
  have c6 := bx.cell 6
  simp at c0 c1 c2 c3 c4 c5 c6
  go_enter Tryd.func5, Tryd.ntmps5
  go_wp2_with fail
  refine (HO.out _ HB).mono ?_
  rintro r w1 ⟨rfl, hb1⟩
  replace bx := bx.grew hb1
  replace HB := below_app HB hb1 HB.size
  clear hW hb1 c0 c1 c2 c3 c4 c5 c6
  have q0 : (a.kd : Int) = 3 := HK.out
  have d0 := bx.cell 0
  have d1 := bx.cell 1
  have d2 := bx.cell 2
  have d3 := bx.cell 3
  have d4 := bx.cell 4
  have d5 := bx.cell 5
  have d6 := bx.cell 6
  simp at d0 d1 d2 d3 d4 d5 d6
  rw [q0] at d0
  obtain ⟨a1, b1⟩ : In64 a.nn := HI.out.1
  have s1 := tx_size a.nn a1 b1
  go_wp2_with fail
  refine (specNumText_b a.nn _ a1 b1).mono ?_
  rintro r v ⟨rfl, hbv⟩
  go_wp2
  go_ret
  exact ⟨rfl, below_app HB hbv HB.size⟩
set_option maxHeartbeats 2000000 in
theorem ats_7 (a : Ac) (w : World) (hok : a.ok w) (hn : a.ln ≤ 1048577) (hb : okAc a = true) (hk : a.kd = 7) : Calls Tryd.prog 5 #[(.agg #[.int .i64 a.kd, .int .i64 a.nn, .int .i64 a.pi, .int .i64 a.si, .int .i64 a.zo, .bool a.be, .slice a.la a.ln a.lcap])] w fun r w' => r = .returned (.string ((⟨#[122, 111, 110, 101, 32]⟩ : ByteArray) ++ tx a.zo)) ∧ Below w.heap.size w w' := by
  have HO : Hid (∀ u : World, Below w.heap.size w u → Calls Tryd.prog 10 #[(.agg #[.int .i64 a.kd, .int .i64 a.nn, .int .i64 a.pi, .int .i64 a.si, .int .i64 a.zo, .bool a.be, .slice a.la a.ln a.lcap])] u fun r w' => r = .returned (.bool true) ∧ Below u.heap.size u w') := fun u hu => by have := specActOk_any a u (act_grew hok hu) hn; rw [hb] at this; exact this
  have HI : Hid a.in64 := hok.in64
  clear hb hok
  have HK : Hid (a.kd = 7) := hk
  clear hk
  have HB := (Below.refl _ w).alloc (Nat.le_refl _) (.cells #[.int .i64 a.kd, .int .i64 a.nn, .int .i64 a.pi, .int .i64 a.si, .int .i64 a.zo, .bool a.be, .slice a.la a.ln a.lcap] 29)
  have bx := boxR_new w 29 #[.int .i64 a.kd, .int .i64 a.nn, .int .i64 a.pi, .int .i64 a.si, .int .i64 a.zo, .bool a.be, .slice a.la a.ln a.lcap]
  generalize hW : w.alloc (.cells #[.int .i64 a.kd, .int .i64 a.nn, .int .i64 a.pi, .int .i64 a.si, .int .i64 a.zo, .bool a.be, .slice a.la a.ln a.lcap] 29) = W at HB bx
  have c0 := bx.cell 0
  have c1 := bx.cell 1
  have c2 := bx.cell 2
  have c3 := bx.cell 3
  have c4 := bx.cell 4
  have c5 := bx.cell 5
  have c6 := bx.cell 6
  simp at c0 c1 c2 c3 c4 c5 c6
  go_enter Tryd.func5, Tryd.ntmps5
  go_wp2_with fail
  refine (HO.out _ HB).mono ?_
  rintro r w1 ⟨rfl, hb1⟩
  replace bx := bx.grew hb1
  replace HB := below_app HB hb1 HB.size
  clear hW hb1 c0 c1 c2 c3 c4 c5 c6
  have q0 : (a.kd : Int) = 7 := HK.out
  have d0 := bx.cell 0
  have d1 := bx.cell 1
  have d2 := bx.cell 2
  have d3 := bx.cell 3
  have d4 := bx.cell 4
  have d5 := bx.cell 5
  have d6 := bx.cell 6
  simp at d0 d1 d2 d3 d4 d5 d6
  rw [q0] at d0
  obtain ⟨a1, b1⟩ : In64 a.zo := HI.out.2.2.2
  have s1 := tx_size a.zo a1 b1
  go_wp2_with fail
  refine (specNumText_b a.zo _ a1 b1).mono ?_
  rintro r v ⟨rfl, hbv⟩
  go_wp2
  go_ret
  exact ⟨rfl, below_app HB hbv HB.size⟩
set_option maxHeartbeats 2000000 in
theorem ats_9 (a : Ac) (w : World) (hok : a.ok w) (hn : a.ln ≤ 1048577) (hb : okAc a = true) (hk : a.kd = 9) : Calls Tryd.prog 5 #[(.agg #[.int .i64 a.kd, .int .i64 a.nn, .int .i64 a.pi, .int .i64 a.si, .int .i64 a.zo, .bool a.be, .slice a.la a.ln a.lcap])] w fun r w' => r = .returned (.string ((⟨#[112, 97, 114, 116, 115, 32]⟩ : ByteArray) ++ tx a.ln)) ∧ Below w.heap.size w w' := by
  have HO : Hid (∀ u : World, Below w.heap.size w u → Calls Tryd.prog 10 #[(.agg #[.int .i64 a.kd, .int .i64 a.nn, .int .i64 a.pi, .int .i64 a.si, .int .i64 a.zo, .bool a.be, .slice a.la a.ln a.lcap])] u fun r w' => r = .returned (.bool true) ∧ Below u.heap.size u w') := fun u hu => by have := specActOk_any a u (act_grew hok hu) hn; rw [hb] at this; exact this
  have HI : Hid a.in64 := hok.in64
  clear hb hok
  have HK : Hid (a.kd = 9) := hk
  clear hk
  have HB := (Below.refl _ w).alloc (Nat.le_refl _) (.cells #[.int .i64 a.kd, .int .i64 a.nn, .int .i64 a.pi, .int .i64 a.si, .int .i64 a.zo, .bool a.be, .slice a.la a.ln a.lcap] 29)
  have bx := boxR_new w 29 #[.int .i64 a.kd, .int .i64 a.nn, .int .i64 a.pi, .int .i64 a.si, .int .i64 a.zo, .bool a.be, .slice a.la a.ln a.lcap]
  generalize hW : w.alloc (.cells #[.int .i64 a.kd, .int .i64 a.nn, .int .i64 a.pi, .int .i64 a.si, .int .i64 a.zo, .bool a.be, .slice a.la a.ln a.lcap] 29) = W at HB bx
  have c0 := bx.cell 0
  have c1 := bx.cell 1
  have c2 := bx.cell 2
  have c3 := bx.cell 3
  have c4 := bx.cell 4
  have c5 := bx.cell 5
  have c6 := bx.cell 6
  simp at c0 c1 c2 c3 c4 c5 c6
  go_enter Tryd.func5, Tryd.ntmps5
  go_wp2_with fail
  refine (HO.out _ HB).mono ?_
  rintro r w1 ⟨rfl, hb1⟩
  replace bx := bx.grew hb1
  replace HB := below_app HB hb1 HB.size
  clear hW hb1 c0 c1 c2 c3 c4 c5 c6
  have q0 : (a.kd : Int) = 9 := HK.out
  have d0 := bx.cell 0
  have d1 := bx.cell 1
  have d2 := bx.cell 2
  have d3 := bx.cell 3
  have d4 := bx.cell 4
  have d5 := bx.cell 5
  have d6 := bx.cell 6
  simp at d0 d1 d2 d3 d4 d5 d6
  rw [q0] at d0
  obtain ⟨a1, b1⟩ : In64 (a.ln : Int) := ⟨by omega, by omega⟩
  have s1 := tx_size (a.ln : Int) a1 b1
  go_wp2_with fail
  refine (specNumText_b (a.ln : Int) _ a1 b1).mono ?_
  rintro r v ⟨rfl, hbv⟩
  go_wp2
  go_ret
  exact ⟨rfl, below_app HB hbv HB.size⟩
set_option maxHeartbeats 2000000 in
theorem ats_60 (a : Ac) (w : World) (hok : a.ok w) (hn : a.ln ≤ 1048577) (hb : okAc a = true) (hk : a.kd = 6) (hp : a.pi = 0) : Calls Tryd.prog 5 #[(.agg #[.int .i64 a.kd, .int .i64 a.nn, .int .i64 a.pi, .int .i64 a.si, .int .i64 a.zo, .bool a.be, .slice a.la a.ln a.lcap])] w fun r w' => r = .returned (.string ((⟨#[116, 117, 114, 110, 32, 115, 105, 100, 101, 32]⟩ : ByteArray) ++ tx a.si)) ∧ Below w.heap.size w w' := by
  have HP : Hid ((a.pi == 0) = true) := by show _ = true; simpa using hp
  clear hp
  have HO : Hid (∀ u : World, Below w.heap.size w u → Calls Tryd.prog 10 #[(.agg #[.int .i64 a.kd, .int .i64 a.nn, .int .i64 a.pi, .int .i64 a.si, .int .i64 a.zo, .bool a.be, .slice a.la a.ln a.lcap])] u fun r w' => r = .returned (.bool true) ∧ Below u.heap.size u w') := fun u hu => by have := specActOk_any a u (act_grew hok hu) hn; rw [hb] at this; exact this
  have HI : Hid a.in64 := hok.in64
  clear hb hok
  have HK : Hid (a.kd = 6) := hk
  clear hk
  have HB := (Below.refl _ w).alloc (Nat.le_refl _) (.cells #[.int .i64 a.kd, .int .i64 a.nn, .int .i64 a.pi, .int .i64 a.si, .int .i64 a.zo, .bool a.be, .slice a.la a.ln a.lcap] 29)
  have bx := boxR_new w 29 #[.int .i64 a.kd, .int .i64 a.nn, .int .i64 a.pi, .int .i64 a.si, .int .i64 a.zo, .bool a.be, .slice a.la a.ln a.lcap]
  generalize hW : w.alloc (.cells #[.int .i64 a.kd, .int .i64 a.nn, .int .i64 a.pi, .int .i64 a.si, .int .i64 a.zo, .bool a.be, .slice a.la a.ln a.lcap] 29) = W at HB bx
  have c0 := bx.cell 0
  have c1 := bx.cell 1
  have c2 := bx.cell 2
  have c3 := bx.cell 3
  have c4 := bx.cell 4
  have c5 := bx.cell 5
  have c6 := bx.cell 6
  simp at c0 c1 c2 c3 c4 c5 c6
  go_enter Tryd.func5, Tryd.ntmps5
  go_wp2_with fail
  refine (HO.out _ HB).mono ?_
  rintro r w1 ⟨rfl, hb1⟩
  replace bx := bx.grew hb1
  replace HB := below_app HB hb1 HB.size
  clear hW hb1 c0 c1 c2 c3 c4 c5 c6
  have q0 : (a.kd : Int) = 6 := HK.out
  have d0 := bx.cell 0
  have d1 := bx.cell 1
  have d2 := bx.cell 2
  have d3 := bx.cell 3
  have d4 := bx.cell 4
  have d5 := bx.cell 5
  have d6 := bx.cell 6
  simp at d0 d1 d2 d3 d4 d5 d6
  rw [q0] at d0
  obtain ⟨a1, b1⟩ : In64 a.si := HI.out.2.2.1
  have s1 := tx_size a.si a1 b1
  have q1 := HP.out
  go_wp2_with fail
  refine (specNumText_b a.si _ a1 b1).mono ?_
  rintro r v ⟨rfl, hbv⟩
  go_wp2
  go_ret
  exact ⟨rfl, below_app HB hbv HB.size⟩
set_option maxHeartbeats 2000000 in
theorem ats_61 (a : Ac) (w : World) (hok : a.ok w) (hn : a.ln ≤ 1048577) (hb : okAc a = true) (hk : a.kd = 6) (hp : ¬ a.pi = 0) : Calls Tryd.prog 5 #[(.agg #[.int .i64 a.kd, .int .i64 a.nn, .int .i64 a.pi, .int .i64 a.si, .int .i64 a.zo, .bool a.be, .slice a.la a.ln a.lcap])] w fun r w' => r = .returned (.string ((⟨#[116, 117, 114, 110, 32, 112, 105, 101, 99, 101, 32]⟩ : ByteArray) ++ tx a.pi)) ∧ Below w.heap.size w w' := by
  have HP : Hid ((a.pi == 0) = false) := by show _ = false; simpa using hp
  clear hp
  have HO : Hid (∀ u : World, Below w.heap.size w u → Calls Tryd.prog 10 #[(.agg #[.int .i64 a.kd, .int .i64 a.nn, .int .i64 a.pi, .int .i64 a.si, .int .i64 a.zo, .bool a.be, .slice a.la a.ln a.lcap])] u fun r w' => r = .returned (.bool true) ∧ Below u.heap.size u w') := fun u hu => by have := specActOk_any a u (act_grew hok hu) hn; rw [hb] at this; exact this
  have HI : Hid a.in64 := hok.in64
  clear hb hok
  have HK : Hid (a.kd = 6) := hk
  clear hk
  have HB := (Below.refl _ w).alloc (Nat.le_refl _) (.cells #[.int .i64 a.kd, .int .i64 a.nn, .int .i64 a.pi, .int .i64 a.si, .int .i64 a.zo, .bool a.be, .slice a.la a.ln a.lcap] 29)
  have bx := boxR_new w 29 #[.int .i64 a.kd, .int .i64 a.nn, .int .i64 a.pi, .int .i64 a.si, .int .i64 a.zo, .bool a.be, .slice a.la a.ln a.lcap]
  generalize hW : w.alloc (.cells #[.int .i64 a.kd, .int .i64 a.nn, .int .i64 a.pi, .int .i64 a.si, .int .i64 a.zo, .bool a.be, .slice a.la a.ln a.lcap] 29) = W at HB bx
  have c0 := bx.cell 0
  have c1 := bx.cell 1
  have c2 := bx.cell 2
  have c3 := bx.cell 3
  have c4 := bx.cell 4
  have c5 := bx.cell 5
  have c6 := bx.cell 6
  simp at c0 c1 c2 c3 c4 c5 c6
  go_enter Tryd.func5, Tryd.ntmps5
  go_wp2_with fail
  refine (HO.out _ HB).mono ?_
  rintro r w1 ⟨rfl, hb1⟩
  replace bx := bx.grew hb1
  replace HB := below_app HB hb1 HB.size
  clear hW hb1 c0 c1 c2 c3 c4 c5 c6
  have q0 : (a.kd : Int) = 6 := HK.out
  have d0 := bx.cell 0
  have d1 := bx.cell 1
  have d2 := bx.cell 2
  have d3 := bx.cell 3
  have d4 := bx.cell 4
  have d5 := bx.cell 5
  have d6 := bx.cell 6
  simp at d0 d1 d2 d3 d4 d5 d6
  rw [q0] at d0
  obtain ⟨a1, b1⟩ : In64 a.pi := HI.out.2.1
  have s1 := tx_size a.pi a1 b1
  have q1 := HP.out
  go_wp2_with fail
  refine (specNumText_b a.pi _ a1 b1).mono ?_
  rintro r v ⟨rfl, hbv⟩
  go_wp2
  go_ret
  exact ⟨rfl, below_app HB hbv HB.size⟩
set_option maxHeartbeats 2000000 in
theorem ats_80 (a : Ac) (w : World) (hok : a.ok w) (hn : a.ln ≤ 1048577) (hb : okAc a = true) (hk : a.kd = 8) (hbe : a.be = false) : Calls Tryd.prog 5 #[(.agg #[.int .i64 a.kd, .int .i64 a.nn, .int .i64 a.pi, .int .i64 a.si, .int .i64 a.zo, .bool a.be, .slice a.la a.ln a.lcap])] w fun r w' => r = .returned (.string ((⟨#[101, 110, 116, 101, 114, 32]⟩ : ByteArray) ++ tx a.nn)) ∧ Below w.heap.size w w' := by
  have HE : Hid (a.be = false) := hbe
  clear hbe
  have HO : Hid (∀ u : World, Below w.heap.size w u → Calls Tryd.prog 10 #[(.agg #[.int .i64 a.kd, .int .i64 a.nn, .int .i64 a.pi, .int .i64 a.si, .int .i64 a.zo, .bool a.be, .slice a.la a.ln a.lcap])] u fun r w' => r = .returned (.bool true) ∧ Below u.heap.size u w') := fun u hu => by have := specActOk_any a u (act_grew hok hu) hn; rw [hb] at this; exact this
  have HI : Hid a.in64 := hok.in64
  clear hb hok
  have HK : Hid (a.kd = 8) := hk
  clear hk
  have HB := (Below.refl _ w).alloc (Nat.le_refl _) (.cells #[.int .i64 a.kd, .int .i64 a.nn, .int .i64 a.pi, .int .i64 a.si, .int .i64 a.zo, .bool a.be, .slice a.la a.ln a.lcap] 29)
  have bx := boxR_new w 29 #[.int .i64 a.kd, .int .i64 a.nn, .int .i64 a.pi, .int .i64 a.si, .int .i64 a.zo, .bool a.be, .slice a.la a.ln a.lcap]
  generalize hW : w.alloc (.cells #[.int .i64 a.kd, .int .i64 a.nn, .int .i64 a.pi, .int .i64 a.si, .int .i64 a.zo, .bool a.be, .slice a.la a.ln a.lcap] 29) = W at HB bx
  have c0 := bx.cell 0
  have c1 := bx.cell 1
  have c2 := bx.cell 2
  have c3 := bx.cell 3
  have c4 := bx.cell 4
  have c5 := bx.cell 5
  have c6 := bx.cell 6
  simp at c0 c1 c2 c3 c4 c5 c6
  go_enter Tryd.func5, Tryd.ntmps5
  go_wp2_with fail
  refine (HO.out _ HB).mono ?_
  rintro r w1 ⟨rfl, hb1⟩
  replace bx := bx.grew hb1
  replace HB := below_app HB hb1 HB.size
  clear hW hb1 c0 c1 c2 c3 c4 c5 c6
  have q0 : (a.kd : Int) = 8 := HK.out
  have d0 := bx.cell 0
  have d1 := bx.cell 1
  have d2 := bx.cell 2
  have d3 := bx.cell 3
  have d4 := bx.cell 4
  have d5 := bx.cell 5
  have d6 := bx.cell 6
  simp at d0 d1 d2 d3 d4 d5 d6
  rw [q0] at d0
  obtain ⟨a1, b1⟩ : In64 a.nn := HI.out.1
  have s1 := tx_size a.nn a1 b1
  rw [HE.out] at d5
  go_wp2_with fail
  refine (specNumText_b a.nn _ a1 b1).mono ?_
  rintro r v ⟨rfl, hbv⟩
  go_wp2
  go_ret
  exact ⟨rfl, below_app HB hbv HB.size⟩
set_option maxHeartbeats 2000000 in
theorem ats_81 (a : Ac) (w : World) (hok : a.ok w) (hn : a.ln ≤ 1048577) (hb : okAc a = true) (hk : a.kd = 8) (hbe : a.be = true) : Calls Tryd.prog 5 #[(.agg #[.int .i64 a.kd, .int .i64 a.nn, .int .i64 a.pi, .int .i64 a.si, .int .i64 a.zo, .bool a.be, .slice a.la a.ln a.lcap])] w fun r w' => r = .returned (.string (((⟨#[101, 110, 116, 101, 114, 32]⟩ : ByteArray) ++ tx a.nn) ++ (⟨#[32, 98, 101, 110, 116]⟩ : ByteArray))) ∧ Below w.heap.size w w' := by
  have HE : Hid (a.be = true) := hbe
  clear hbe
  have HO : Hid (∀ u : World, Below w.heap.size w u → Calls Tryd.prog 10 #[(.agg #[.int .i64 a.kd, .int .i64 a.nn, .int .i64 a.pi, .int .i64 a.si, .int .i64 a.zo, .bool a.be, .slice a.la a.ln a.lcap])] u fun r w' => r = .returned (.bool true) ∧ Below u.heap.size u w') := fun u hu => by have := specActOk_any a u (act_grew hok hu) hn; rw [hb] at this; exact this
  have HI : Hid a.in64 := hok.in64
  clear hb hok
  have HK : Hid (a.kd = 8) := hk
  clear hk
  have HB := (Below.refl _ w).alloc (Nat.le_refl _) (.cells #[.int .i64 a.kd, .int .i64 a.nn, .int .i64 a.pi, .int .i64 a.si, .int .i64 a.zo, .bool a.be, .slice a.la a.ln a.lcap] 29)
  have bx := boxR_new w 29 #[.int .i64 a.kd, .int .i64 a.nn, .int .i64 a.pi, .int .i64 a.si, .int .i64 a.zo, .bool a.be, .slice a.la a.ln a.lcap]
  generalize hW : w.alloc (.cells #[.int .i64 a.kd, .int .i64 a.nn, .int .i64 a.pi, .int .i64 a.si, .int .i64 a.zo, .bool a.be, .slice a.la a.ln a.lcap] 29) = W at HB bx
  have c0 := bx.cell 0
  have c1 := bx.cell 1
  have c2 := bx.cell 2
  have c3 := bx.cell 3
  have c4 := bx.cell 4
  have c5 := bx.cell 5
  have c6 := bx.cell 6
  simp at c0 c1 c2 c3 c4 c5 c6
  go_enter Tryd.func5, Tryd.ntmps5
  go_wp2_with fail
  refine (HO.out _ HB).mono ?_
  rintro r w1 ⟨rfl, hb1⟩
  replace bx := bx.grew hb1
  replace HB := below_app HB hb1 HB.size
  clear hW hb1 c0 c1 c2 c3 c4 c5 c6
  have q0 : (a.kd : Int) = 8 := HK.out
  have d0 := bx.cell 0
  have d1 := bx.cell 1
  have d2 := bx.cell 2
  have d3 := bx.cell 3
  have d4 := bx.cell 4
  have d5 := bx.cell 5
  have d6 := bx.cell 6
  simp at d0 d1 d2 d3 d4 d5 d6
  rw [q0] at d0
  obtain ⟨a1, b1⟩ : In64 a.nn := HI.out.1
  have s1 := tx_size a.nn a1 b1
  rw [HE.out] at d5
  go_wp2_with fail
  refine (specNumText_b a.nn _ a1 b1).mono ?_
  rintro r v ⟨rfl, hbv⟩
  go_wp2
  go_ret
  exact ⟨rfl, below_app HB hbv HB.size⟩
theorem specActText_any (a : Ac) (w : World) (hok : a.ok w) (hn : a.ln ≤ 1048577) : Calls Tryd.prog 5 #[(.agg #[.int .i64 a.kd, .int .i64 a.nn, .int .i64 a.pi, .int .i64 a.si, .int .i64 a.zo, .bool a.be, .slice a.la a.ln a.lcap])] w fun r w' => r = .returned (.string (txA a)) ∧ Below w.heap.size w w' := by
  cases hb : okAc a with
  | false => rw [show txA a = ⟨#[]⟩ from by unfold txA; rw [hb]; rfl]; exact ats_bad a w hok hn hb
  | true =>
    rw [show txA a = wdA a from by unfold txA; rw [if_pos hb]]
    rcases kd_ok hb with h | h | h | h | h | h | h | h | h
    · rw [show wdA a = (⟨#[115, 116, 111, 112]⟩ : ByteArray) from by unfold wdA; simp [h]]; exact ats_1 a w hok hn hb h
    · rw [show wdA a = (⟨#[115, 104, 105, 101, 108, 100]⟩ : ByteArray) from by unfold wdA; simp [h]]; exact ats_2 a w hok hn hb h
    · rw [show wdA a = say (⟨#[109, 111, 114, 101]⟩ : ByteArray) (fn1 a.nn) 1 from by unfold wdA; simp [h]]; exact (by rw [← sp_say (⟨#[109, 111, 114, 101]⟩ : ByteArray) (⟨#[109, 111, 114, 101, 32]⟩ : ByteArray) a.nn (by decide)]; exact ats_3 a w hok hn hb h)
    · rw [show wdA a = (⟨#[116, 119, 105, 99, 101]⟩ : ByteArray) from by unfold wdA; simp [h]]; exact ats_4 a w hok hn hb h
    · rw [show wdA a = (⟨#[104, 97, 108, 102]⟩ : ByteArray) from by unfold wdA; simp [h]]; exact ats_5 a w hok hn hb h
    · rw [show wdA a = aiT a from by unfold wdA; simp [h]]; exact (by
        unfold aiT
        by_cases hp : a.pi = 0
        · rw [if_pos hp, ← sp_say (⟨#[116, 117, 114, 110, 32, 115, 105, 100, 101]⟩ : ByteArray) (⟨#[116, 117, 114, 110, 32, 115, 105, 100, 101, 32]⟩ : ByteArray) a.si (by decide)]; exact ats_60 a w hok hn hb h hp
        · rw [if_neg hp, ← sp_say (⟨#[116, 117, 114, 110, 32, 112, 105, 101, 99, 101]⟩ : ByteArray) (⟨#[116, 117, 114, 110, 32, 112, 105, 101, 99, 101, 32]⟩ : ByteArray) a.pi (by decide)]; exact ats_61 a w hok hn hb h hp)
    · rw [show wdA a = say (⟨#[122, 111, 110, 101]⟩ : ByteArray) (fn1 a.zo) 1 from by unfold wdA; simp [h]]; exact (by rw [← sp_say (⟨#[122, 111, 110, 101]⟩ : ByteArray) (⟨#[122, 111, 110, 101, 32]⟩ : ByteArray) a.zo (by decide)]; exact ats_7 a w hok hn hb h)
    · rw [show wdA a = say (⟨#[101, 110, 116, 101, 114]⟩ : ByteArray) (fn1 a.nn) 1 ++ bnB a.be from by unfold wdA; simp [h]]; exact (by
        rw [← sp_say (⟨#[101, 110, 116, 101, 114]⟩ : ByteArray) (⟨#[101, 110, 116, 101, 114, 32]⟩ : ByteArray) a.nn (by decide)]
        cases hbe : a.be with
        | false => rw [show bnB false = ByteArray.empty from rfl, ByteArray.append_empty]; have := ats_80 a w hok hn hb h hbe; rw [hbe] at this; exact this
        | true => have := ats_81 a w hok hn hb h hbe; rw [hbe] at this; exact this)
    · rw [show wdA a = say (⟨#[112, 97, 114, 116, 115]⟩ : ByteArray) (fn1 a.ln) 1 from by unfold wdA; simp [h]]; exact (by rw [← sp_say (⟨#[112, 97, 114, 116, 115]⟩ : ByteArray) (⟨#[112, 97, 114, 116, 115, 32]⟩ : ByteArray) (a.ln : Int) (by decide)]; exact ats_9 a w hok hn hb h)
end Go.Proofs.YtgaodfjmehofgasDoor
namespace Go.Proofs.YtgaodfjmehofgasDoor
open Go.ChangeShapes Go.WideShapes Go.ChangeAt Go.RowKit
set_option maxRecDepth 100000
set_option linter.unusedVariables false
set_option linter.unusedSimpArgs false

theorem alike_txA {t a : Ac} (h : AlikeA t a) : txA t = txA a := by unfold txA wdA aiT; rw [alike_okAc h, h.kd, h.nn, h.pi, h.si, h.zo, h.be, h.ln]
theorem specActText_al {w0 w : World} {B : Nat} {t a : Ac} (h : OwnA w B t) (k : AlikeA t a) (hs : a.ok w0) (hn : a.ln ≤ 1048576) : Calls Tryd.prog 5 #[(.agg #[.int .i64 t.kd, .int .i64 t.nn, .int .i64 t.pi, .int .i64 t.si, .int .i64 t.zo, .bool t.be, .slice t.la t.ln t.lcap])] w fun e w' => e = .returned (.string (txA a)) ∧ Below w.heap.size w w' := by
  rw [← alike_txA k]; exact specActText_any t w (okT9 h k hs) (by rw [k.ln]; omega)
theorem implActText_al {w0 w : World} {B : Nat} {t a : Ac} (h : OwnA w B t) (k : AlikeA t a) (hs : a.ok w0) (hn : a.ln ≤ 1048576) (ht : Pow w) : Calls Tryd.prog 7 #[(.agg #[.int .i64 t.kd, .int .i64 t.nn, .int .i64 t.pi, .int .i64 t.si, .int .i64 t.zo, .bool t.be, .slice t.la t.ln t.lcap])] w fun e w' => e = .returned (.string (txA a)) ∧ Below w.heap.size w w' := by
  rw [← alike_txA k]; exact implActText_any t w (okT9 h k hs) (by rw [k.ln]; omega) ht
end Go.Proofs.YtgaodfjmehofgasDoor
