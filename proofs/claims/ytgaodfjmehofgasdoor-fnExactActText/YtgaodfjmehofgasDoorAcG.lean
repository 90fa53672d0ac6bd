/-
  Chapter 9: the program's partsOk, Parts. Written by tools/aci.gen.py. Own work.
-/
import Derived.Test.YtgaodfjmehofgasDoorAcF
namespace Go.Proofs.YtgaodfjmehofgasDoor
open Go.ChangeShapes Go.WideShapes Go.ChangeAt Go.RowKit
set_option maxRecDepth 100000
set_option linter.unusedVariables false
set_option linter.unusedSimpArgs false

set_option maxHeartbeats 4000000 in
theorem partsOk_any (la : Option Addr) (lb n c : Nat) (f : Nat → Ev) (w : World) (hn : n ≤ 1048577) (r1 : RdE evC 7 w lb la n f) : Calls Tryd.prog 30 #[.slice la n c] w fun e w' => e = .returned (.bool (apL n f)) ∧ Below w.heap.size w w' := by
  go_enter Tryd.func30, Tryd.ntmps30
  go_wp2
  go_loopw [7] (fun i wr => ∃ k : Nat, k ≤ n ∧ i = .int .i64 k ∧ Hid (∀ j, j < k → ptE (f j) = true) ∧ Below w.heap.size w wr) (fun i _ => n - (intOf i).toNat)
  case atStart => exact ⟨0, Nat.zero_le _, rfl, fun j hj => by omega, Below.refl _ _⟩
  case round =>
    obtain ⟨k, hk, rfl, hall, hb⟩ := hrel
    by_cases hlt : k < n
    · rcases r1.grew evC_ne hb with g1 | ⟨o1, hpa, g1⟩
      · omega
      subst hpa
      obtain ⟨k0, k1, k2, k3, k4, k5, k6⟩ : AtEv wr lb (o1 + k * 7) (f k) := AtEv_of (g1 k hlt)
      clear g1
      have y1 : (0 : Int) ≤ (k : Int) := by omega
      have y2 : (k : Int) < (n : Int) := by omega
      obtain ⟨x, hx⟩ : ∃ x, f k = x := ⟨_, rfl⟩
      rw [hx] at k0 k1 k2 k3 k4 k5 k6
      have bV := boxR_new wr 43 #[.int .i64 x.kd, .int .i64 x.sr, .int .i64 x.pi, .int .i64 x.si, .int .i64 x.nn, .int .i64 x.zo, .bool x.be]
      have hbV := below_new2' wr (.cells #[.int .i64 x.kd, .int .i64 x.sr, .int .i64 x.pi, .int .i64 x.si, .int .i64 x.nn, .int .i64 x.zo, .bool x.be] 43)
      generalize hV : wr.alloc (.cells #[.int .i64 x.kd, .int .i64 x.sr, .int .i64 x.pi, .int .i64 x.si, .int .i64 x.nn, .int .i64 x.zo, .bool x.be] 43) = V at bV hbV
      have hB := below_app hb hbV hb.size
      have m0 := bV.cell 0
      have m1 := bV.cell 1
      have m2 := bV.cell 2
      have m3 := bV.cell 3
      have m4 := bV.cell 4
      have m5 := bV.cell 5
      have m6 := bV.cell 6
      simp at m0 m1 m2 m3 m4 m5 m6
      clear bV
      cases hp : ptE x
      case false =>
        have HR : Hid (apL n f = false) := apL_no hlt (by rw [hx]; exact hp)
        have HP : Hid (∀ w : World, Calls Tryd.prog 34 #[(.agg #[.int .i64 x.kd, .int .i64 x.sr, .int .i64 x.pi, .int .i64 x.si, .int .i64 x.nn, .int .i64 x.zo, .bool x.be])] w fun r w' => r = .returned (.bool false) ∧ Below w.heap.size w w') := fun w => by have := partOk_any x w; rw [hp] at this; exact this
        go_wp2_with fail
        refine (HP.out _).mono ?_
        rintro r w1 ⟨rfl, hb1⟩
        go_wp2
        go_ret
        exact ⟨ret_bool' HR.out.symm, below_app hB hb1 hB.size⟩
      case true =>
        have HN : Hid (∀ j, j < k + 1 → ptE (f j) = true) := fun j hj => by
          by_cases ej : j = k
          · rw [ej, hx]; exact hp
          · exact hall.out j (by omega)
        have HP : Hid (∀ w : World, Calls Tryd.prog 34 #[(.agg #[.int .i64 x.kd, .int .i64 x.sr, .int .i64 x.pi, .int .i64 x.si, .int .i64 x.nn, .int .i64 x.zo, .bool x.be])] w fun r w' => r = .returned (.bool true) ∧ Below w.heap.size w w') := fun w => by have := partOk_any x w; rw [hp] at this; exact this
        go_wp2_with fail
        refine (HP.out _).mono ?_
        rintro r w1 ⟨rfl, hb1⟩
        have hb2 := below_app hB hb1 hB.size
        clear m0 m1 m2 m3 m4 m5 m6 k0 k1 k2 k3 k4 k5 k6 hb hB hbV
        go_wp2
        go_roundw
        case rel => first | exact ⟨k + 1, by omega, by go_num, HN, hb2⟩ | ((repeat apply Exists.intro); exact ⟨⟨k + 1, by omega, by go_num, HN, hb2⟩, rfl⟩)
        case measure => simp [intOf]; omega
    · have HL : Hid (apL n f = true) := apL_yes (fun j hj => hall.out j (by omega))
      obtain rfl : k = n := by omega
      clear hall hk hlt
      go_wp2
      go_ret
      exact ⟨ret_bool' HL.out.symm, hb⟩
theorem paF_same (a : Ac) (e : Ev) (i : Nat) : paF a e i = sameE (a.es i) e.nn := rfl
end Go.Proofs.YtgaodfjmehofgasDoor
