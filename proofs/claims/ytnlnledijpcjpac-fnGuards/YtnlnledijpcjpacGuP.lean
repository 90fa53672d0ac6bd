/-
  Chapter 8, the program: GuardOk, Stronger, BentOf. Written by tools/guf.gen.py. Chapter 5, the program: hasSide. Written by tools/guf.gen.py. Chapter 8, the program: what the methods of a guard answer. Written by tools/guf.gen.py. Chapter 8, the program: Holds. Written by tools/guf.gen.py. Chapter 8: Holds, BentOf of both at states that are alike. Written by tools/gu.gen.py. Own work.
-/
import Derived.Test.YtnlnledijpcjpacGuE
import Derived.Test.YtnlnledijpcjpacStField
import Derived.Test.YtnlnledijpcjpacState5
import Derived.Test.YtnlnledijpcjpacPieceI1
import Derived.Deep.RegionHeld
import Derived.Test.YtnlnledijpcjpacGuS
import Derived.Test.YtnlnledijpcjpacStLaw
namespace Go.Proofs.Ytnlnledijpcjpac
open Go.ChangeShapes Go.WideShapes Go.ChangeAt Go.RowKit
set_option maxRecDepth 100000
set_option linter.unusedVariables false
set_option linter.unusedSimpArgs false

theorem rule_one (a b : Int) (k : Nat) : (#[Value.int .i64 a, .int .i64 b, rfn k] : Array Value).all (·.oneCell') = true := by
  unfold rfn
  split <;> simp [Value.oneCell']
set_option maxHeartbeats 4000000 in
theorem implGuardOk_any (g : Gd) (w : World) : Calls Try.prog 26 #[(.agg #[.int .i64 g.kd, .int .i64 g.nn])] w fun e w' => e = .returned (.bool (okGd g)) ∧ Below w.heap.size w w' := by
  have HB := (Below.refl _ w).alloc (Nat.le_refl _) (.cells #[.int .i64 g.kd, .int .i64 g.nn] 42)
  have bx := boxGd_new w 42 g
  generalize hW : w.alloc (.cells #[.int .i64 g.kd, .int .i64 g.nn] 42) = W at HB bx
  obtain ⟨c0, c1⟩ : CellsGd _ _ _ := bx.cells
  go_enter Try.func26, Try.ntmps26
  go_wp2_with fail
  refine (rightRule_any g _).mono ?_
  rintro e v1 ⟨rfl, hb⟩
  replace HB := below_app HB hb HB.size
  clear hW c0 c1
  have hb4 := below_setRow (HB.alloc HB.size (.cells #[.int .i64 0, .int .i64 0, .nilFunc] 78)) HB.size #[.int .i64 (rlo (rlK g)), .int .i64 (rhi (rlK g)), rfn (rlK g)]
  go_wp2_with (refine wpList_store_row rfl 78 (.tmp 3) _ rfl v1.heap.size #[.int .i64 (rlo (rlK g)), .int .i64 (rhi (rlK g)), rfn (rlK g)] (by rfl) (by rfl) _ _ (heap_alloc_new v1 _) (by kernel_rfl) (by rfl) (rule_one _ _ _) ?_; (try simp only [Act.put, List.setIfInBounds_toArray, List.set_cons_zero, List.set_cons_succ]))
  go_ret
  exact ⟨rfl, hb4⟩
/-- whether a guard asks at least as much as another of its kind -/
def amG (g h : Gd) : Bool := bif decide (g.kd = 1) then decide (g.nn ≤ h.nn) else decide (h.nn ≤ g.nn)
set_option maxHeartbeats 2000000 in
theorem asksAsMuch_any (g h : Gd) (w : World) : Calls Try.prog 57 #[(.agg #[.int .i64 g.kd, .int .i64 g.nn]), (.agg #[.int .i64 h.kd, .int .i64 h.nn])] w fun e w' => e = .returned (.bool (amG g h)) ∧ Below w.heap.size w w' := by
  have HB := ((Below.refl _ w).alloc (Nat.le_refl _) (.cells #[.int .i64 g.kd, .int .i64 g.nn] 42)).alloc (by simp) (.cells #[.int .i64 h.kd, .int .i64 h.nn] 42)
  have bp := (boxGd_new w 42 g).alloc (.cells #[.int .i64 h.kd, .int .i64 h.nn] 42)
  have bq : BoxGd ((w.alloc (.cells #[.int .i64 g.kd, .int .i64 g.nn] 42)).alloc (.cells #[.int .i64 h.kd, .int .i64 h.nn] 42)) (w.heap.size + 1) 42 h := heap_alloc2_new _ _ _
  generalize hW : (w.alloc (.cells #[.int .i64 g.kd, .int .i64 g.nn] 42)).alloc (.cells #[.int .i64 h.kd, .int .i64 h.nn] 42) = W at HB bp bq
  obtain ⟨a0, a1⟩ : CellsGd _ _ _ := bp.cells
  obtain ⟨b0, b1⟩ : CellsGd _ _ _ := bq.cells
  cases q : (g.kd == 1)
  case false =>
    have HA : Hid (amG g h = decide (h.nn ≤ g.nn)) := by
      show amG g h = _
      unfold amG
      have : ¬ g.kd = 1 := by simpa using q
      simp [this]
    go_enter Try.func57, Try.ntmps57
    go_wp2
    go_ret
    exact ⟨ret_bool' (by rw [HA.out] <;> first | rfl | (rw [Bool.eq_iff_iff]; simp)), HB⟩
  case true =>
    have HA : Hid (amG g h = decide (g.nn ≤ h.nn)) := by
      show amG g h = _
      unfold amG
      have : g.kd = 1 := by simpa using q
      simp [this]
    go_enter Try.func57, Try.ntmps57
    go_wp2
    go_ret
    exact ⟨ret_bool' (by rw [HA.out] <;> first | rfl | (rw [Bool.eq_iff_iff]; simp)), HB⟩
set_option maxHeartbeats 2000000 in
theorem istr_g (g h : Gd) (w : World) (kg : okGd g = false) : Calls Try.prog 23 #[(.agg #[.int .i64 g.kd, .int .i64 g.nn]), (.agg #[.int .i64 h.kd, .int .i64 h.nn])] w fun e w' => e = .returned (.bool (srG g h)) ∧ Below w.heap.size w w' := by
  have HN : Hid (srG g h = false) := by show srG g h = false; unfold srG; rw [kg]; rfl
  have HG : Hid (∀ w : World, Calls Try.prog 26 #[(.agg #[.int .i64 g.kd, .int .i64 g.nn])] w fun e w' => e = .returned (.bool false) ∧ Below w.heap.size w w') := fun w => by have := implGuardOk_any g w; rw [kg] at this; exact this
  have HB := ((Below.refl _ w).alloc (Nat.le_refl _) (.cells #[.int .i64 g.kd, .int .i64 g.nn] 42)).alloc (by simp) (.cells #[.int .i64 h.kd, .int .i64 h.nn] 42)
  have bp := (boxGd_new w 42 g).alloc (.cells #[.int .i64 h.kd, .int .i64 h.nn] 42)
  have bq : BoxGd ((w.alloc (.cells #[.int .i64 g.kd, .int .i64 g.nn] 42)).alloc (.cells #[.int .i64 h.kd, .int .i64 h.nn] 42)) (w.heap.size + 1) 42 h := heap_alloc2_new _ _ _
  generalize hW : (w.alloc (.cells #[.int .i64 g.kd, .int .i64 g.nn] 42)).alloc (.cells #[.int .i64 h.kd, .int .i64 h.nn] 42) = W at HB bp bq
  obtain ⟨a0, a1⟩ : CellsGd _ _ _ := bp.cells
  obtain ⟨b0, b1⟩ : CellsGd _ _ _ := bq.cells
  go_enter Try.func23, Try.ntmps23
  go_wp2_with fail
  refine (HG.out _).mono ?_
  rintro e v1 ⟨rfl, hb⟩
  replace HB := below_app HB hb HB.size
  go_wp2
  go_ret
  exact ⟨ret_bool' HN.out.symm, HB⟩
set_option maxHeartbeats 2000000 in
theorem istr_h (g h : Gd) (w : World) (kg : okGd g = true) (kh : okGd h = false) : Calls Try.prog 23 #[(.agg #[.int .i64 g.kd, .int .i64 g.nn]), (.agg #[.int .i64 h.kd, .int .i64 h.nn])] w fun e w' => e = .returned (.bool (srG g h)) ∧ Below w.heap.size w w' := by
  have HN : Hid (srG g h = false) := by show srG g h = false; unfold srG; rw [kg, kh]; rfl
  have HG : Hid (∀ w : World, Calls Try.prog 26 #[(.agg #[.int .i64 g.kd, .int .i64 g.nn])] w fun e w' => e = .returned (.bool true) ∧ Below w.heap.size w w') := fun w => by have := implGuardOk_any g w; rw [kg] at this; exact this
  have HH : Hid (∀ w : World, Calls Try.prog 26 #[(.agg #[.int .i64 h.kd, .int .i64 h.nn])] w fun e w' => e = .returned (.bool false) ∧ Below w.heap.size w w') := fun w => by have := implGuardOk_any h w; rw [kh] at this; exact this
  have HB := ((Below.refl _ w).alloc (Nat.le_refl _) (.cells #[.int .i64 g.kd, .int .i64 g.nn] 42)).alloc (by simp) (.cells #[.int .i64 h.kd, .int .i64 h.nn] 42)
  have bp := (boxGd_new w 42 g).alloc (.cells #[.int .i64 h.kd, .int .i64 h.nn] 42)
  have bq : BoxGd ((w.alloc (.cells #[.int .i64 g.kd, .int .i64 g.nn] 42)).alloc (.cells #[.int .i64 h.kd, .int .i64 h.nn] 42)) (w.heap.size + 1) 42 h := heap_alloc2_new _ _ _
  generalize hW : (w.alloc (.cells #[.int .i64 g.kd, .int .i64 g.nn] 42)).alloc (.cells #[.int .i64 h.kd, .int .i64 h.nn] 42) = W at HB bp bq
  obtain ⟨a0, a1⟩ : CellsGd _ _ _ := bp.cells
  obtain ⟨b0, b1⟩ : CellsGd _ _ _ := bq.cells
  go_enter Try.func23, Try.ntmps23
  go_wp2_with fail
  refine (HG.out _).mono ?_
  rintro e v1 ⟨rfl, hb⟩
  clear hW
  replace bp := bp.grew hb
  replace bq := bq.grew hb
  replace HB := below_app HB hb HB.size
  clear hb a0 a1 b0 b1
  obtain ⟨a0, a1⟩ : CellsGd _ _ _ := bp.cells
  obtain ⟨b0, b1⟩ : CellsGd _ _ _ := bq.cells
  go_wp2_with fail
  refine (HH.out _).mono ?_
  rintro e v2 ⟨rfl, hb⟩
  replace HB := below_app HB hb HB.size
  go_wp2
  go_ret
  exact ⟨ret_bool' HN.out.symm, HB⟩
set_option maxHeartbeats 4000000 in
theorem istr_0 (g h : Gd) (w : World) (kg : okGd g = true) (kh : okGd h = true) (q0 : (h.kd == 0) = true) : Calls Try.prog 23 #[(.agg #[.int .i64 g.kd, .int .i64 g.nn]), (.agg #[.int .i64 h.kd, .int .i64 h.nn])] w fun e w' => e = .returned (.bool (srG g h)) ∧ Below w.heap.size w w' := by
  have HN : Hid (srG g h = true) := by
    show srG g h = _
    unfold srG
    rw [kg, kh]
    have e0 : h.kd = 0 := by simpa using q0
    simp [e0]
  have HG : Hid (∀ w : World, Calls Try.prog 26 #[(.agg #[.int .i64 g.kd, .int .i64 g.nn])] w fun e w' => e = .returned (.bool true) ∧ Below w.heap.size w w') := fun w => by have := implGuardOk_any g w; rw [kg] at this; exact this
  have HH : Hid (∀ w : World, Calls Try.prog 26 #[(.agg #[.int .i64 h.kd, .int .i64 h.nn])] w fun e w' => e = .returned (.bool true) ∧ Below w.heap.size w w') := fun w => by have := implGuardOk_any h w; rw [kh] at this; exact this
  have HB := ((Below.refl _ w).alloc (Nat.le_refl _) (.cells #[.int .i64 g.kd, .int .i64 g.nn] 42)).alloc (by simp) (.cells #[.int .i64 h.kd, .int .i64 h.nn] 42)
  have bp := (boxGd_new w 42 g).alloc (.cells #[.int .i64 h.kd, .int .i64 h.nn] 42)
  have bq : BoxGd ((w.alloc (.cells #[.int .i64 g.kd, .int .i64 g.nn] 42)).alloc (.cells #[.int .i64 h.kd, .int .i64 h.nn] 42)) (w.heap.size + 1) 42 h := heap_alloc2_new _ _ _
  generalize hW : (w.alloc (.cells #[.int .i64 g.kd, .int .i64 g.nn] 42)).alloc (.cells #[.int .i64 h.kd, .int .i64 h.nn] 42) = W at HB bp bq
  obtain ⟨a0, a1⟩ : CellsGd _ _ _ := bp.cells
  obtain ⟨b0, b1⟩ : CellsGd _ _ _ := bq.cells
  go_enter Try.func23, Try.ntmps23
  go_wp2_with fail
  refine (HG.out _).mono ?_
  rintro e v1 ⟨rfl, hb⟩
  clear hW
  replace bp := bp.grew hb
  replace bq := bq.grew hb
  replace HB := below_app HB hb HB.size
  clear hb a0 a1 b0 b1
  obtain ⟨a0, a1⟩ : CellsGd _ _ _ := bp.cells
  obtain ⟨b0, b1⟩ : CellsGd _ _ _ := bq.cells
  go_wp2_with fail
  refine (HH.out _).mono ?_
  rintro e v2 ⟨rfl, hb⟩
  replace bp := bp.grew hb
  replace bq := bq.grew hb
  replace HB := below_app HB hb HB.size
  clear hb a0 a1 b0 b1
  obtain ⟨a0, a1⟩ : CellsGd _ _ _ := bp.cells
  obtain ⟨b0, b1⟩ : CellsGd _ _ _ := bq.cells
  clear kg kh
  go_wp2
  go_ret
  exact ⟨ret_bool' HN.out.symm, HB⟩
set_option maxHeartbeats 4000000 in
theorem istr_1 (g h : Gd) (w : World) (kg : okGd g = true) (kh : okGd h = true) (q0 : (h.kd == 0) = false) (q1 : (g.kd == h.kd) = false) : Calls Try.prog 23 #[(.agg #[.int .i64 g.kd, .int .i64 g.nn]), (.agg #[.int .i64 h.kd, .int .i64 h.nn])] w fun e w' => e = .returned (.bool (srG g h)) ∧ Below w.heap.size w w' := by
  have HN : Hid (srG g h = false) := by
    show srG g h = _
    unfold srG
    rw [kg, kh]
    have e0 : ¬ h.kd = 0 := by simpa using q0
    have e1 : ¬ g.kd = h.kd := by simpa using q1
    simp [e0, e1]
  have HG : Hid (∀ w : World, Calls Try.prog 26 #[(.agg #[.int .i64 g.kd, .int .i64 g.nn])] w fun e w' => e = .returned (.bool true) ∧ Below w.heap.size w w') := fun w => by have := implGuardOk_any g w; rw [kg] at this; exact this
  have HH : Hid (∀ w : World, Calls Try.prog 26 #[(.agg #[.int .i64 h.kd, .int .i64 h.nn])] w fun e w' => e = .returned (.bool true) ∧ Below w.heap.size w w') := fun w => by have := implGuardOk_any h w; rw [kh] at this; exact this
  have HB := ((Below.refl _ w).alloc (Nat.le_refl _) (.cells #[.int .i64 g.kd, .int .i64 g.nn] 42)).alloc (by simp) (.cells #[.int .i64 h.kd, .int .i64 h.nn] 42)
  have bp := (boxGd_new w 42 g).alloc (.cells #[.int .i64 h.kd, .int .i64 h.nn] 42)
  have bq : BoxGd ((w.alloc (.cells #[.int .i64 g.kd, .int .i64 g.nn] 42)).alloc (.cells #[.int .i64 h.kd, .int .i64 h.nn] 42)) (w.heap.size + 1) 42 h := heap_alloc2_new _ _ _
  generalize hW : (w.alloc (.cells #[.int .i64 g.kd, .int .i64 g.nn] 42)).alloc (.cells #[.int .i64 h.kd, .int .i64 h.nn] 42) = W at HB bp bq
  obtain ⟨a0, a1⟩ : CellsGd _ _ _ := bp.cells
  obtain ⟨b0, b1⟩ : CellsGd _ _ _ := bq.cells
  go_enter Try.func23, Try.ntmps23
  go_wp2_with fail
  refine (HG.out _).mono ?_
  rintro e v1 ⟨rfl, hb⟩
  clear hW
  replace bp := bp.grew hb
  replace bq := bq.grew hb
  replace HB := below_app HB hb HB.size
  clear hb a0 a1 b0 b1
  obtain ⟨a0, a1⟩ : CellsGd _ _ _ := bp.cells
  obtain ⟨b0, b1⟩ : CellsGd _ _ _ := bq.cells
  go_wp2_with fail
  refine (HH.out _).mono ?_
  rintro e v2 ⟨rfl, hb⟩
  replace bp := bp.grew hb
  replace bq := bq.grew hb
  replace HB := below_app HB hb HB.size
  clear hb a0 a1 b0 b1
  obtain ⟨a0, a1⟩ : CellsGd _ _ _ := bp.cells
  obtain ⟨b0, b1⟩ : CellsGd _ _ _ := bq.cells
  clear kg kh
  go_wp2
  go_ret
  exact ⟨ret_bool' HN.out.symm, HB⟩
set_option maxHeartbeats 4000000 in
theorem istr_2 (g h : Gd) (w : World) (kg : okGd g = true) (kh : okGd h = true) (q0 : (h.kd == 0) = false) (q1 : (g.kd == h.kd) = true) : Calls Try.prog 23 #[(.agg #[.int .i64 g.kd, .int .i64 g.nn]), (.agg #[.int .i64 h.kd, .int .i64 h.nn])] w fun e w' => e = .returned (.bool (srG g h)) ∧ Below w.heap.size w w' := by
  have HN : Hid (srG g h = amG g h) := by
    show srG g h = _
    unfold srG
    rw [kg, kh]
    have e0 : ¬ h.kd = 0 := by simpa using q0
    have e1 : g.kd = h.kd := by simpa using q1
    unfold amG; simp [e0, e1]
  have HG : Hid (∀ w : World, Calls Try.prog 26 #[(.agg #[.int .i64 g.kd, .int .i64 g.nn])] w fun e w' => e = .returned (.bool true) ∧ Below w.heap.size w w') := fun w => by have := implGuardOk_any g w; rw [kg] at this; exact this
  have HH : Hid (∀ w : World, Calls Try.prog 26 #[(.agg #[.int .i64 h.kd, .int .i64 h.nn])] w fun e w' => e = .returned (.bool true) ∧ Below w.heap.size w w') := fun w => by have := implGuardOk_any h w; rw [kh] at this; exact this
  have HB := ((Below.refl _ w).alloc (Nat.le_refl _) (.cells #[.int .i64 g.kd, .int .i64 g.nn] 42)).alloc (by simp) (.cells #[.int .i64 h.kd, .int .i64 h.nn] 42)
  have bp := (boxGd_new w 42 g).alloc (.cells #[.int .i64 h.kd, .int .i64 h.nn] 42)
  have bq : BoxGd ((w.alloc (.cells #[.int .i64 g.kd, .int .i64 g.nn] 42)).alloc (.cells #[.int .i64 h.kd, .int .i64 h.nn] 42)) (w.heap.size + 1) 42 h := heap_alloc2_new _ _ _
  generalize hW : (w.alloc (.cells #[.int .i64 g.kd, .int .i64 g.nn] 42)).alloc (.cells #[.int .i64 h.kd, .int .i64 h.nn] 42) = W at HB bp bq
  obtain ⟨a0, a1⟩ : CellsGd _ _ _ := bp.cells
  obtain ⟨b0, b1⟩ : CellsGd _ _ _ := bq.cells
  go_enter Try.func23, Try.ntmps23
  go_wp2_with fail
  refine (HG.out _).mono ?_
  rintro e v1 ⟨rfl, hb⟩
  clear hW
  replace bp := bp.grew hb
  replace bq := bq.grew hb
  replace HB := below_app HB hb HB.size
  clear hb a0 a1 b0 b1
  obtain ⟨a0, a1⟩ : CellsGd _ _ _ := bp.cells
  obtain ⟨b0, b1⟩ : CellsGd _ _ _ := bq.cells
  go_wp2_with fail
  refine (HH.out _).mono ?_
  rintro e v2 ⟨rfl, hb⟩
  replace bp := bp.grew hb
  replace bq := bq.grew hb
  replace HB := below_app HB hb HB.size
  clear hb a0 a1 b0 b1
  obtain ⟨a0, a1⟩ : CellsGd _ _ _ := bp.cells
  obtain ⟨b0, b1⟩ : CellsGd _ _ _ := bq.cells
  clear kg kh
  go_wp2_with fail
  refine (asksAsMuch_any g h _).mono ?_
  rintro e v3 ⟨rfl, hb⟩
  replace HB := below_app HB hb HB.size
  clear a0 a1 b0 b1
  go_wp2
  go_ret
  exact ⟨ret_bool' HN.out.symm, HB⟩
theorem implStronger_any (g h : Gd) (w : World) : Calls Try.prog 23 #[(.agg #[.int .i64 g.kd, .int .i64 g.nn]), (.agg #[.int .i64 h.kd, .int .i64 h.nn])] w fun e w' => e = .returned (.bool (srG g h)) ∧ Below w.heap.size w w' := by
  cases kg : okGd g
  case false => exact istr_g g h w kg
  cases kh : okGd h
  case false => exact istr_h g h w kg kh
  cases q0 : (h.kd == 0)
  case true => exact istr_0 g h w kg kh q0
  cases q1 : (g.kd == h.kd)
  case false => exact istr_1 g h w kg kh q0 q1
  case true => exact istr_2 g h w kg kh q0 q1
set_option maxHeartbeats 4000000 in
theorem implBentOf_any (s : Stt) (side : Int) (w : World) (hok : s.ok w) (hn : s.pn ≤ 1048576) : Calls Try.prog 29 #[(.agg #[.slice s.pa s.pn s.pcap, .slice s.sa s.sn s.scap, .int .i64 s.ac, .int .i64 s.cl]), .int .i64 side] w fun e w' => e = .returned (.int .i64 (bnG s side)) ∧ Below w.heap.size w w' := by
  obtain ⟨_, _, r1, _⟩ := hok
  have hb0 := (Below.refl _ w).alloc (Nat.le_refl _) (.cells #[.slice s.pa s.pn s.pcap, .slice s.sa s.sn s.scap, .int .i64 s.ac, .int .i64 s.cl] 27)
  have x1 := boxR_new w 27 #[.slice s.pa s.pn s.pcap, .slice s.sa s.sn s.scap, .int .i64 s.ac, .int .i64 s.cl]
  generalize hW : w.alloc (.cells #[.slice s.pa s.pn s.pcap, .slice s.sa s.sn s.scap, .int .i64 s.ac, .int .i64 s.cl] 27) = W at hb0 x1
  have c0 := x1.cell 0
  simp at c0
  go_enter Try.func29, Try.ntmps29
  go_wp2
  clear hW c0
  go_loopw [5, 11] (fun c i wr => ∃ k : Nat, k ≤ s.pn ∧ i = .int .i64 k ∧ c = .int .i64 (cnG (bnP side) k s.ps) ∧ Below W.heap.size W wr) (fun _ i _ => s.pn - (intOf i).toNat)
  case atStart => exact ⟨0, Nat.zero_le _, rfl, rfl, Below.refl _ _⟩
  case round =>
    obtain ⟨k, hk, rfl, rfl, hb⟩ := hrel
    have hB := below_app hb0 hb hb0.size
    by_cases hlt : k < s.pn
    · rcases r1.grew pcC_ne hB with g1 | ⟨o1, hpa, g1⟩
      · omega
      rw [hpa]
      obtain ⟨k0, k1, k2, k3, k4, k5, k6, k7, k8, k9, k10, k11, k12⟩ : At13 wr s.pb (o1 + k * 13) (s.ps k) := At13_of (g1 k hlt)
      have y1 : (0 : Int) ≤ (k : Int) := by omega
      have y2 : (k : Int) < (s.pn : Int) := by omega
      have hl := cnG_le (bnP side) k s.ps
      have bV := box_new wr 72 (s.ps k)
      have hbV := below_new2' wr (.cells #[.int .i64 (s.ps k).id, .int .i64 (s.ps k).ow, .int .i64 (s.ps k).si, .int .i64 (s.ps k).zo, .int .i64 (s.ps k).st, .int .i64 (s.ps k).po, .int .i64 (s.ps k).to, .int .i64 (s.ps k).tr, .int .i64 (s.ps k).pl, .int .i64 (s.ps k).mi, .int .i64 (s.ps k).ma, .bool (s.ps k).de, .bool (s.ps k).be] 72)
      generalize hV : wr.alloc (.cells #[.int .i64 (s.ps k).id, .int .i64 (s.ps k).ow, .int .i64 (s.ps k).si, .int .i64 (s.ps k).zo, .int .i64 (s.ps k).st, .int .i64 (s.ps k).po, .int .i64 (s.ps k).to, .int .i64 (s.ps k).tr, .int .i64 (s.ps k).pl, .int .i64 (s.ps k).mi, .int .i64 (s.ps k).ma, .bool (s.ps k).de, .bool (s.ps k).be] 72) = V at bV hbV
      clear g1
      obtain ⟨m0, m1, m2, m3, m4, m5, m6, m7, m8, m9, m10, m11, m12⟩ : Cells13 _ _ _ := bV.cells
      have hbV' := below_app hb hbV hb.size
      clear hb hbV bV m0 m1 m4 m5 m6 m7 m8 m9 m10 m11
      cases q3 : ((s.ps k).zo == 2)
      case false =>
        have hf : bnP side (s.ps k) = false := by unfold bnP; simp_all
        have HE : Hid (cnG (bnP side) (k + 1) s.ps = cnG (bnP side) k s.ps) := cnG_no hf
        clear hf
        go_wp2
        go_roundw
        case rel => first | exact ⟨k + 1, by omega, by go_num, by (rw [HE.out]; try (first | go_num | simp)), hbV'⟩ | ((repeat apply Exists.intro); exact ⟨⟨k + 1, by omega, by go_num, by (rw [HE.out]; try (first | go_num | simp)), hbV'⟩, rfl⟩)
        case measure => simp [intOf]; omega
      case true =>
        cases q2 : ((s.ps k).si == side)
        case false =>
          have hf : bnP side (s.ps k) = false := by unfold bnP; simp_all
          have HE : Hid (cnG (bnP side) (k + 1) s.ps = cnG (bnP side) k s.ps) := cnG_no hf
          clear hf
          go_wp2
          go_roundw
          case rel => first | exact ⟨k + 1, by omega, by go_num, by (rw [HE.out]; try (first | go_num | simp)), hbV'⟩ | ((repeat apply Exists.intro); exact ⟨⟨k + 1, by omega, by go_num, by (rw [HE.out]; try (first | go_num | simp)), hbV'⟩, rfl⟩)
          case measure => simp [intOf]; omega
        case true =>
          have HE : Hid (cnG (bnP side) (k + 1) s.ps = bif (s.ps k).be then cnG (bnP side) k s.ps + 1 else cnG (bnP side) k s.ps) := by
            show cnG (bnP side) (k + 1) s.ps = _
            cases q1 : (s.ps k).be
            · exact cnG_no (by unfold bnP; simp_all)
            · exact cnG_yes (by unfold bnP; simp_all)
          go_wp2
          all_goals (go_roundw; (case rel => first | exact ⟨k + 1, by omega, by go_num, by (rw [HE.out]; first | (simp_all; done) | (simp_all; go_num)), hbV'⟩ | ((repeat apply Exists.intro); exact ⟨⟨k + 1, by omega, by go_num, by (rw [HE.out]; first | (simp_all; done) | (simp_all; go_num)), hbV'⟩, rfl⟩)); (case measure => simp [intOf]; omega))
    · obtain rfl : k = s.pn := by omega
      go_wp2
      go_ret
      exact ⟨rfl, below_app hb0 hb hb0.size⟩
end Go.Proofs.Ytnlnledijpcjpac
namespace Go.Proofs.Ytnlnledijpcjpac
open Go.ChangeShapes Go.WideShapes Go.ChangeAt Go.RowKit
set_option maxRecDepth 100000
set_option linter.unusedVariables false
set_option linter.unusedSimpArgs false

theorem hasSide_any (s : Stt) (side : Int) (w : World) (hn2 : s.sn ≤ 1048577) : Calls Try.prog 54 #[(.agg #[.slice s.pa s.pn s.pcap, .slice s.sa s.sn s.scap, .int .i64 s.ac, .int .i64 s.cl]), .int .i64 side] w fun e w' => e = .returned (.bool (ib side 0 ((s.sn : Int) - 1))) ∧ Below w.heap.size w w' := by
  have hb0 := (Below.refl _ w).alloc (Nat.le_refl _) (.cells #[.slice s.pa s.pn s.pcap, .slice s.sa s.sn s.scap, .int .i64 s.ac, .int .i64 s.cl] 27)
  have x1 := boxR_new w 27 #[.slice s.pa s.pn s.pcap, .slice s.sa s.sn s.scap, .int .i64 s.ac, .int .i64 s.cl]
  generalize hW : w.alloc (.cells #[.slice s.pa s.pn s.pcap, .slice s.sa s.sn s.scap, .int .i64 s.ac, .int .i64 s.cl] 27) = W at hb0 x1
  have c1 := x1.cell 1
  simp at c1
  go_enter Try.func54, Try.ntmps54
  go_wp2_with fail
  refine (between_any _ _ _ _).mono ?_
  rintro e v ⟨rfl, rfl⟩
  go_wp2
  go_ret
  exact ⟨rfl, hb0⟩
end Go.Proofs.Ytnlnledijpcjpac
namespace Go.Proofs.Ytnlnledijpcjpac
open Go.ChangeShapes Go.WideShapes Go.ChangeAt Go.RowKit
set_option maxRecDepth 100000
set_option linter.unusedVariables false
set_option linter.unusedSimpArgs false

theorem ofP_mnP {side : Int} (h : side ≠ -1) (p : Pc) : ofP side p = mnP side p := by
  unfold ofP mnP
  rw [Bool.eq_iff_iff]
  simp [h]
theorem of_len (n : Nat) (f : Nat → Pc) (side : Int) (h : side ≠ -1) : (ofL n f side).length = cnG (mnP side) n f := by
  unfold ofL cnG
  rw [List.length_map]
  congr 2
  funext i
  exact ofP_mnP h _
set_option maxHeartbeats 4000000 in
theorem asksNothing_any (g : Gd) (s : Stt) (side : Int) (w : World) : Calls Try.prog 83 #[(.agg #[.int .i64 g.kd, .int .i64 g.nn]), (.agg #[.slice s.pa s.pn s.pcap, .slice s.sa s.sn s.scap, .int .i64 s.ac, .int .i64 s.cl]), .int .i64 side] w fun e w' => e = .returned (.bool (true)) ∧ Below w.heap.size w w' := by
  have HB := ((Below.refl _ w).alloc (Nat.le_refl _) (.cells #[.int .i64 g.kd, .int .i64 g.nn] 42)).alloc (by simp) (.cells #[.slice s.pa s.pn s.pcap, .slice s.sa s.sn s.scap, .int .i64 s.ac, .int .i64 s.cl] 27)
  have x2 := (boxGd_new w 42 g).alloc (.cells #[.slice s.pa s.pn s.pcap, .slice s.sa s.sn s.scap, .int .i64 s.ac, .int .i64 s.cl] 27)
  have x1 : BoxR ((w.alloc (.cells #[.int .i64 g.kd, .int .i64 g.nn] 42)).alloc (.cells #[.slice s.pa s.pn s.pcap, .slice s.sa s.sn s.scap, .int .i64 s.ac, .int .i64 s.cl] 27)) (w.heap.size + 1) 27 #[.slice s.pa s.pn s.pcap, .slice s.sa s.sn s.scap, .int .i64 s.ac, .int .i64 s.cl] := heap_alloc2_new _ _ _
  generalize hW : (w.alloc (.cells #[.int .i64 g.kd, .int .i64 g.nn] 42)).alloc (.cells #[.slice s.pa s.pn s.pcap, .slice s.sa s.sn s.scap, .int .i64 s.ac, .int .i64 s.cl] 27) = W at HB x1 x2
  clear x1 x2
  go_enter Try.func83, Try.ntmps83
  go_wp2
  go_ret
  exact ⟨rfl, HB⟩
set_option maxHeartbeats 4000000 in
theorem turnIsOn_any (g : Gd) (s : Stt) (side : Int) (w : World) : Calls Try.prog 86 #[(.agg #[.int .i64 g.kd, .int .i64 g.nn]), (.agg #[.slice s.pa s.pn s.pcap, .slice s.sa s.sn s.scap, .int .i64 s.ac, .int .i64 s.cl]), .int .i64 side] w fun e w' => e = .returned (.bool (decide (s.ac = side))) ∧ Below w.heap.size w w' := by
  have HB := ((Below.refl _ w).alloc (Nat.le_refl _) (.cells #[.int .i64 g.kd, .int .i64 g.nn] 42)).alloc (by simp) (.cells #[.slice s.pa s.pn s.pcap, .slice s.sa s.sn s.scap, .int .i64 s.ac, .int .i64 s.cl] 27)
  have x2 := (boxGd_new w 42 g).alloc (.cells #[.slice s.pa s.pn s.pcap, .slice s.sa s.sn s.scap, .int .i64 s.ac, .int .i64 s.cl] 27)
  have x1 : BoxR ((w.alloc (.cells #[.int .i64 g.kd, .int .i64 g.nn] 42)).alloc (.cells #[.slice s.pa s.pn s.pcap, .slice s.sa s.sn s.scap, .int .i64 s.ac, .int .i64 s.cl] 27)) (w.heap.size + 1) 27 #[.slice s.pa s.pn s.pcap, .slice s.sa s.sn s.scap, .int .i64 s.ac, .int .i64 s.cl] := heap_alloc2_new _ _ _
  generalize hW : (w.alloc (.cells #[.int .i64 g.kd, .int .i64 g.nn] 42)).alloc (.cells #[.slice s.pa s.pn s.pcap, .slice s.sa s.sn s.scap, .int .i64 s.ac, .int .i64 s.cl] 27) = W at HB x1 x2
  have c2 := x1.cell 2
  simp at c2
  go_enter Try.func86, Try.ntmps86
  go_wp2
  go_ret
  exact ⟨ret_bool' (by first | rfl | (rw [Bool.eq_iff_iff]; simp)), HB⟩
set_option maxHeartbeats 4000000 in
theorem lifeIsLow_any (g : Gd) (s : Stt) (side : Int) (w : World) (hok : s.ok w) (hn2 : s.sn ≤ 1048576) (hs : 0 ≤ side ∧ side ≤ (s.sn : Int) - 1) : Calls Try.prog 84 #[(.agg #[.int .i64 g.kd, .int .i64 g.nn]), (.agg #[.slice s.pa s.pn s.pcap, .slice s.sa s.sn s.scap, .int .i64 s.ac, .int .i64 s.cl]), .int .i64 side] w fun e w' => e = .returned (.bool (decide ((s.ss side.toNat).li ≤ g.nn))) ∧ Below w.heap.size w w' := by
  have HB := ((Below.refl _ w).alloc (Nat.le_refl _) (.cells #[.int .i64 g.kd, .int .i64 g.nn] 42)).alloc (by simp) (.cells #[.slice s.pa s.pn s.pcap, .slice s.sa s.sn s.scap, .int .i64 s.ac, .int .i64 s.cl] 27)
  have x2 := (boxGd_new w 42 g).alloc (.cells #[.slice s.pa s.pn s.pcap, .slice s.sa s.sn s.scap, .int .i64 s.ac, .int .i64 s.cl] 27)
  have x1 : BoxR ((w.alloc (.cells #[.int .i64 g.kd, .int .i64 g.nn] 42)).alloc (.cells #[.slice s.pa s.pn s.pcap, .slice s.sa s.sn s.scap, .int .i64 s.ac, .int .i64 s.cl] 27)) (w.heap.size + 1) 27 #[.slice s.pa s.pn s.pcap, .slice s.sa s.sn s.scap, .int .i64 s.ac, .int .i64 s.cl] := heap_alloc2_new _ _ _
  generalize hW : (w.alloc (.cells #[.int .i64 g.kd, .int .i64 g.nn] 42)).alloc (.cells #[.slice s.pa s.pn s.pcap, .slice s.sa s.sn s.scap, .int .i64 s.ac, .int .i64 s.cl] 27) = W at HB x1 x2
  obtain ⟨k, rfl⟩ := Int.eq_ofNat_of_zero_le hs.1
  have hlt : k < s.sn := by omega
  have hlt2 : (k : Int) < (s.sn : Int) := by omega
  have r2 := hok.2.2.2.2.2.1
  have c1 := x1.cell 1
  simp at c1
  obtain ⟨b0, b1⟩ : CellsGd _ _ _ := x2.cells
  rcases r2.grew sdC_ne HB with g2 | ⟨o2, hsa, g2⟩
  · omega
  have k0 := g2 k hlt 0 _ rfl
  rw [Nat.add_zero] at k0
  rw [hsa] at c1
  clear hsa g2 r2 hok
  go_enter Try.func84, Try.ntmps84
  go_wp2_with fail
  go_region
  all_goals go_wp2
  all_goals go_ret
  all_goals exact ⟨ret_bool' (by first | rfl | simp), HB.drew⟩
set_option maxHeartbeats 4000000 in
theorem piecesAreMany_any (g : Gd) (s : Stt) (side : Int) (w : World) (hok : s.ok w) (hn : s.pn ≤ 1048576) (hs : side ≠ -1) : Calls Try.prog 85 #[(.agg #[.int .i64 g.kd, .int .i64 g.nn]), (.agg #[.slice s.pa s.pn s.pcap, .slice s.sa s.sn s.scap, .int .i64 s.ac, .int .i64 s.cl]), .int .i64 side] w fun e w' => e = .returned (.bool (decide (g.nn ≤ (mnG s side : Int)))) ∧ Below w.heap.size w w' := by
  have HB := ((Below.refl _ w).alloc (Nat.le_refl _) (.cells #[.int .i64 g.kd, .int .i64 g.nn] 42)).alloc (by simp) (.cells #[.slice s.pa s.pn s.pcap, .slice s.sa s.sn s.scap, .int .i64 s.ac, .int .i64 s.cl] 27)
  have x2 := (boxGd_new w 42 g).alloc (.cells #[.slice s.pa s.pn s.pcap, .slice s.sa s.sn s.scap, .int .i64 s.ac, .int .i64 s.cl] 27)
  have x1 : BoxR ((w.alloc (.cells #[.int .i64 g.kd, .int .i64 g.nn] 42)).alloc (.cells #[.slice s.pa s.pn s.pcap, .slice s.sa s.sn s.scap, .int .i64 s.ac, .int .i64 s.cl] 27)) (w.heap.size + 1) 27 #[.slice s.pa s.pn s.pcap, .slice s.sa s.sn s.scap, .int .i64 s.ac, .int .i64 s.cl] := heap_alloc2_new _ _ _
  generalize hW : (w.alloc (.cells #[.int .i64 g.kd, .int .i64 g.nn] 42)).alloc (.cells #[.slice s.pa s.pn s.pcap, .slice s.sa s.sn s.scap, .int .i64 s.ac, .int .i64 s.cl] 27) = W at HB x1 x2
  have SK : Hid (∀ u : World, Below W.heap.size W u → u.cell? ⟨w.heap.size + 1, 0, none⟩ = some (.slice s.pa s.pn s.pcap) ∧ u.cell? ⟨w.heap.size + 1, 1, none⟩ = some (.slice s.sa s.sn s.scap) ∧ u.cell? ⟨w.heap.size + 1, 2, none⟩ = some (.int .i64 s.ac) ∧ u.cell? ⟨w.heap.size + 1, 3, none⟩ = some (.int .i64 s.cl) ∧ u.cell? ⟨w.heap.size, 0, none⟩ = some (.int .i64 g.kd) ∧ u.cell? ⟨w.heap.size, 1, none⟩ = some (.int .i64 g.nn)) := fun u hu => by
    have y1 := x1.grew hu
    obtain ⟨b0, b1⟩ : CellsGd _ _ _ := (x2.grew hu).cells
    exact ⟨y1.cell 0, y1.cell 1, y1.cell 2, y1.cell 3, b0, b1⟩
  have okK : ∀ u : World, Below W.heap.size W u → s.ok u := fun u hu => stt_grew hok (below_app HB hu HB.size)
  have hD : Below W.heap.size W W.drew := (Below.refl _ _).drew
  have hm : mnG s side ≤ s.pn := cnG_le _ _ _
  obtain ⟨c0, c1, c2, c3, b0, b1⟩ := SK.out W (Below.refl _ _)
  clear x1 x2 hok
  go_enter Try.func85, Try.ntmps85
  go_wp2_with fail
  clear hW c0 c1 c2 c3 b0 b1
  go_region_held (fun u : World => u.cell? ⟨w.heap.size + 1, 0, none⟩ = some (.slice s.pa s.pn s.pcap) ∧ u.cell? ⟨w.heap.size + 1, 1, none⟩ = some (.slice s.sa s.sn s.scap) ∧ u.cell? ⟨w.heap.size + 1, 2, none⟩ = some (.int .i64 s.ac) ∧ u.cell? ⟨w.heap.size + 1, 3, none⟩ = some (.int .i64 s.cl) ∧ u.cell? ⟨w.heap.size, 0, none⟩ = some (.int .i64 g.kd) ∧ u.cell? ⟨w.heap.size, 1, none⟩ = some (.int .i64 g.nn)) (first | (refine SK.out _ ?_; first | with_reducible exact hD | with_reducible exact hq)) ((go_at_call 31; refine (implOnField_any s side _ (okK _ hD) (by omega)).mono ?_; rintro e v3 ⟨q, cap, rfl, hb3, ho3⟩; have hq : Below W.heap.size W v3 := below_app hD hb3 hD.size; have hlen := of_len s.pn s.ps side hs; clear ho3; rw [hlen]))
  all_goals go_wp2
  all_goals go_ret
  all_goals exact ⟨ret_bool' (by first | rfl | simp), below_app HB hq HB.size⟩
set_option maxHeartbeats 4000000 in
theorem bentAreMany_any (g : Gd) (s : Stt) (side : Int) (w : World) (hok : s.ok w) (hn : s.pn ≤ 1048576) : Calls Try.prog 87 #[(.agg #[.int .i64 g.kd, .int .i64 g.nn]), (.agg #[.slice s.pa s.pn s.pcap, .slice s.sa s.sn s.scap, .int .i64 s.ac, .int .i64 s.cl]), .int .i64 side] w fun e w' => e = .returned (.bool (decide (g.nn ≤ (bnG s side : Int)))) ∧ Below w.heap.size w w' := by
  have HB := ((Below.refl _ w).alloc (Nat.le_refl _) (.cells #[.int .i64 g.kd, .int .i64 g.nn] 42)).alloc (by simp) (.cells #[.slice s.pa s.pn s.pcap, .slice s.sa s.sn s.scap, .int .i64 s.ac, .int .i64 s.cl] 27)
  have x2 := (boxGd_new w 42 g).alloc (.cells #[.slice s.pa s.pn s.pcap, .slice s.sa s.sn s.scap, .int .i64 s.ac, .int .i64 s.cl] 27)
  have x1 : BoxR ((w.alloc (.cells #[.int .i64 g.kd, .int .i64 g.nn] 42)).alloc (.cells #[.slice s.pa s.pn s.pcap, .slice s.sa s.sn s.scap, .int .i64 s.ac, .int .i64 s.cl] 27)) (w.heap.size + 1) 27 #[.slice s.pa s.pn s.pcap, .slice s.sa s.sn s.scap, .int .i64 s.ac, .int .i64 s.cl] := heap_alloc2_new _ _ _
  generalize hW : (w.alloc (.cells #[.int .i64 g.kd, .int .i64 g.nn] 42)).alloc (.cells #[.slice s.pa s.pn s.pcap, .slice s.sa s.sn s.scap, .int .i64 s.ac, .int .i64 s.cl] 27) = W at HB x1 x2
  have SK : Hid (∀ u : World, Below W.heap.size W u → u.cell? ⟨w.heap.size + 1, 0, none⟩ = some (.slice s.pa s.pn s.pcap) ∧ u.cell? ⟨w.heap.size + 1, 1, none⟩ = some (.slice s.sa s.sn s.scap) ∧ u.cell? ⟨w.heap.size + 1, 2, none⟩ = some (.int .i64 s.ac) ∧ u.cell? ⟨w.heap.size + 1, 3, none⟩ = some (.int .i64 s.cl) ∧ u.cell? ⟨w.heap.size, 0, none⟩ = some (.int .i64 g.kd) ∧ u.cell? ⟨w.heap.size, 1, none⟩ = some (.int .i64 g.nn)) := fun u hu => by
    have y1 := x1.grew hu
    obtain ⟨b0, b1⟩ : CellsGd _ _ _ := (x2.grew hu).cells
    exact ⟨y1.cell 0, y1.cell 1, y1.cell 2, y1.cell 3, b0, b1⟩
  have okK : ∀ u : World, Below W.heap.size W u → s.ok u := fun u hu => stt_grew hok (below_app HB hu HB.size)
  have hD : Below W.heap.size W W.drew := (Below.refl _ _).drew
  have hm : bnG s side ≤ s.pn := cnG_le _ _ _
  obtain ⟨c0, c1, c2, c3, b0, b1⟩ := SK.out W (Below.refl _ _)
  clear x1 x2 hok
  go_enter Try.func87, Try.ntmps87
  go_wp2_with fail
  clear hW c0 c1 c2 c3 b0 b1
  go_region_held (fun u : World => u.cell? ⟨w.heap.size + 1, 0, none⟩ = some (.slice s.pa s.pn s.pcap) ∧ u.cell? ⟨w.heap.size + 1, 1, none⟩ = some (.slice s.sa s.sn s.scap) ∧ u.cell? ⟨w.heap.size + 1, 2, none⟩ = some (.int .i64 s.ac) ∧ u.cell? ⟨w.heap.size + 1, 3, none⟩ = some (.int .i64 s.cl) ∧ u.cell? ⟨w.heap.size, 0, none⟩ = some (.int .i64 g.kd) ∧ u.cell? ⟨w.heap.size, 1, none⟩ = some (.int .i64 g.nn)) (first | (refine SK.out _ ?_; first | with_reducible exact hD | with_reducible exact hq)) ((go_at_call 29; refine (implBentOf_any s side _ (okK _ hD) hn).mono ?_; rintro e v3 ⟨rfl, hb3⟩; have hq : Below W.heap.size W v3 := below_app hD hb3 hD.size))
  all_goals go_wp2
  all_goals go_ret
  all_goals exact ⟨ret_bool' (by first | rfl | simp), below_app HB hq HB.size⟩
end Go.Proofs.Ytnlnledijpcjpac
namespace Go.Proofs.Ytnlnledijpcjpac
open Go.ChangeShapes Go.WideShapes Go.ChangeAt Go.RowKit
set_option maxRecDepth 100000
set_option linter.unusedVariables false
set_option linter.unusedSimpArgs false

set_option maxHeartbeats 4000000 in
theorem ihol_g (s : Stt) (side : Int) (g : Gd) (w : World) (hok : s.ok w) (hn : s.pn ≤ 1048576) (hn2 : s.sn ≤ 1048576) (hg : okGd g = false) (hi : ib side 0 ((s.sn : Int) - 1) = ib side 0 ((s.sn : Int) - 1)) : Calls Try.prog 24 #[(.agg #[.slice s.pa s.pn s.pcap, .slice s.sa s.sn s.scap, .int .i64 s.ac, .int .i64 s.cl]), .int .i64 side, (.agg #[.int .i64 g.kd, .int .i64 g.nn])] w fun e w' => e = .returned (.bool (hdG s side g)) ∧ Below w.heap.size w w' := by
  have HA : Hid (hdG s side g = false) := by show hdG s side g = _; exact hdG_no (.inl hg)
  have HB := ((Below.refl _ w).alloc (Nat.le_refl _) (.cells #[.slice s.pa s.pn s.pcap, .slice s.sa s.sn s.scap, .int .i64 s.ac, .int .i64 s.cl] 27)).alloc (by simp) (.cells #[.int .i64 g.kd, .int .i64 g.nn] 42)
  have x1 := (boxR_new w 27 #[.slice s.pa s.pn s.pcap, .slice s.sa s.sn s.scap, .int .i64 s.ac, .int .i64 s.cl]).alloc (.cells #[.int .i64 g.kd, .int .i64 g.nn] 42)
  have x2 : BoxGd ((w.alloc (.cells #[.slice s.pa s.pn s.pcap, .slice s.sa s.sn s.scap, .int .i64 s.ac, .int .i64 s.cl] 27)).alloc (.cells #[.int .i64 g.kd, .int .i64 g.nn] 42)) (w.heap.size + 1) 42 g := heap_alloc2_new _ _ _
  generalize hW : (w.alloc (.cells #[.slice s.pa s.pn s.pcap, .slice s.sa s.sn s.scap, .int .i64 s.ac, .int .i64 s.cl] 27)).alloc (.cells #[.int .i64 g.kd, .int .i64 g.nn] 42) = W at HB x1 x2
  have SK : Hid (∀ u : World, Below W.heap.size W u → u.cell? ⟨w.heap.size, 0, none⟩ = some (.slice s.pa s.pn s.pcap) ∧ u.cell? ⟨w.heap.size, 1, none⟩ = some (.slice s.sa s.sn s.scap) ∧ u.cell? ⟨w.heap.size, 2, none⟩ = some (.int .i64 s.ac) ∧ u.cell? ⟨w.heap.size, 3, none⟩ = some (.int .i64 s.cl) ∧ u.cell? ⟨w.heap.size + 1, 0, none⟩ = some (.int .i64 g.kd) ∧ u.cell? ⟨w.heap.size + 1, 1, none⟩ = some (.int .i64 g.nn)) := fun u hu => by
    have y1 := x1.grew hu
    obtain ⟨b0, b1⟩ : CellsGd _ _ _ := (x2.grew hu).cells
    exact ⟨y1.cell 0, y1.cell 1, y1.cell 2, y1.cell 3, b0, b1⟩
  have HR : Hid (∀ w : World, Calls Try.prog 58 #[(.agg #[.int .i64 g.kd, .int .i64 g.nn])] w fun e w' => e = .returned (.tuple #[.agg #[.int .i64 (rlo (rlK g)), .int .i64 (rhi (rlK g)), rfn (rlK g)], .bool false]) ∧ Below w.heap.size w w') := fun w => by have := rightRule_any g w; rw [hg] at this; exact this
  have HI : Hid (∀ w : World, Calls Try.prog 54 #[(.agg #[.slice s.pa s.pn s.pcap, .slice s.sa s.sn s.scap, .int .i64 s.ac, .int .i64 s.cl]), .int .i64 side] w fun e w' => e = .returned (.bool (ib side 0 ((s.sn : Int) - 1))) ∧ Below w.heap.size w w') := fun w => by have := hasSide_any s side w (by omega); rw [hi] at this; exact this
  have okK : Hid (∀ u : World, Below W.heap.size W u → s.ok u) := fun u hu => stt_grew hok (below_app HB hu HB.size)
  clear hg
  obtain ⟨c0, c1, c2, c3, b0, b1⟩ := SK.out W (Below.refl _ _)
  clear x1 x2 hok
  go_enter Try.func24, Try.ntmps24
  go_wp2_with fail
  refine (HR.out _).mono ?_
  rintro e v1 ⟨rfl, hb⟩
  clear hW c0 c1 c2 c3 b0 b1
  have hY : ∃ Y, Y = (v1.alloc (.cells #[.int .i64 0, .int .i64 0, .nilFunc] 78)).setRow v1.heap.size #[.int .i64 (rlo (rlK g)), .int .i64 (rhi (rlK g)), rfn (rlK g)] := ⟨_, rfl⟩
  obtain ⟨Y, hY⟩ := hY
  have hbY : Below W.heap.size W Y := by rw [hY]; exact below_setRow (hb.alloc hb.size _) hb.size _
  have y3 : BoxR Y v1.heap.size 78 #[.int .i64 (rlo (rlK g)), .int .i64 (rhi (rlK g)), rfn (rlK g)] := by rw [hY]; exact (boxR_new v1 _ _).rowNew
  have HBY := below_app HB hbY HB.size
  obtain ⟨c0, c1, c2, c3, b0, b1⟩ := SK.out Y hbY
  go_wp2_with (refine wpList_store_row rfl 78 (.tmp 7) _ rfl v1.heap.size #[.int .i64 (rlo (rlK g)), .int .i64 (rhi (rlK g)), rfn (rlK g)] (by rfl) (by rfl) _ _ (heap_alloc_new v1 _) (by kernel_rfl) (by rfl) (rule_one _ _ _) ?_; rw [← hY]; clear hY; (try simp only [Act.put, List.setIfInBounds_toArray, List.set_cons_zero, List.set_cons_succ]))
  go_ret
  exact ⟨ret_bool' HA.out.symm, HBY⟩
set_option maxHeartbeats 4000000 in
theorem ihol_i (s : Stt) (side : Int) (g : Gd) (w : World) (hok : s.ok w) (hn : s.pn ≤ 1048576) (hn2 : s.sn ≤ 1048576) (hg : okGd g = true) (hi : ib side 0 ((s.sn : Int) - 1) = false) : Calls Try.prog 24 #[(.agg #[.slice s.pa s.pn s.pcap, .slice s.sa s.sn s.scap, .int .i64 s.ac, .int .i64 s.cl]), .int .i64 side, (.agg #[.int .i64 g.kd, .int .i64 g.nn])] w fun e w' => e = .returned (.bool (hdG s side g)) ∧ Below w.heap.size w w' := by
  have HA : Hid (hdG s side g = false) := by show hdG s side g = _; exact hdG_no (.inr hi)
  have HB := ((Below.refl _ w).alloc (Nat.le_refl _) (.cells #[.slice s.pa s.pn s.pcap, .slice s.sa s.sn s.scap, .int .i64 s.ac, .int .i64 s.cl] 27)).alloc (by simp) (.cells #[.int .i64 g.kd, .int .i64 g.nn] 42)
  have x1 := (boxR_new w 27 #[.slice s.pa s.pn s.pcap, .slice s.sa s.sn s.scap, .int .i64 s.ac, .int .i64 s.cl]).alloc (.cells #[.int .i64 g.kd, .int .i64 g.nn] 42)
  have x2 : BoxGd ((w.alloc (.cells #[.slice s.pa s.pn s.pcap, .slice s.sa s.sn s.scap, .int .i64 s.ac, .int .i64 s.cl] 27)).alloc (.cells #[.int .i64 g.kd, .int .i64 g.nn] 42)) (w.heap.size + 1) 42 g := heap_alloc2_new _ _ _
  generalize hW : (w.alloc (.cells #[.slice s.pa s.pn s.pcap, .slice s.sa s.sn s.scap, .int .i64 s.ac, .int .i64 s.cl] 27)).alloc (.cells #[.int .i64 g.kd, .int .i64 g.nn] 42) = W at HB x1 x2
  have SK : Hid (∀ u : World, Below W.heap.size W u → u.cell? ⟨w.heap.size, 0, none⟩ = some (.slice s.pa s.pn s.pcap) ∧ u.cell? ⟨w.heap.size, 1, none⟩ = some (.slice s.sa s.sn s.scap) ∧ u.cell? ⟨w.heap.size, 2, none⟩ = some (.int .i64 s.ac) ∧ u.cell? ⟨w.heap.size, 3, none⟩ = some (.int .i64 s.cl) ∧ u.cell? ⟨w.heap.size + 1, 0, none⟩ = some (.int .i64 g.kd) ∧ u.cell? ⟨w.heap.size + 1, 1, none⟩ = some (.int .i64 g.nn)) := fun u hu => by
    have y1 := x1.grew hu
    obtain ⟨b0, b1⟩ : CellsGd _ _ _ := (x2.grew hu).cells
    exact ⟨y1.cell 0, y1.cell 1, y1.cell 2, y1.cell 3, b0, b1⟩
  have HR : Hid (∀ w : World, Calls Try.prog 58 #[(.agg #[.int .i64 g.kd, .int .i64 g.nn])] w fun e w' => e = .returned (.tuple #[.agg #[.int .i64 (rlo (rlK g)), .int .i64 (rhi (rlK g)), rfn (rlK g)], .bool true]) ∧ Below w.heap.size w w') := fun w => by have := rightRule_any g w; rw [hg] at this; exact this
  have HI : Hid (∀ w : World, Calls Try.prog 54 #[(.agg #[.slice s.pa s.pn s.pcap, .slice s.sa s.sn s.scap, .int .i64 s.ac, .int .i64 s.cl]), .int .i64 side] w fun e w' => e = .returned (.bool false) ∧ Below w.heap.size w w') := fun w => by have := hasSide_any s side w (by omega); rw [hi] at this; exact this
  have okK : Hid (∀ u : World, Below W.heap.size W u → s.ok u) := fun u hu => stt_grew hok (below_app HB hu HB.size)
  clear hg
  obtain ⟨c0, c1, c2, c3, b0, b1⟩ := SK.out W (Below.refl _ _)
  clear x1 x2 hok
  go_enter Try.func24, Try.ntmps24
  go_wp2_with fail
  refine (HR.out _).mono ?_
  rintro e v1 ⟨rfl, hb⟩
  clear hW c0 c1 c2 c3 b0 b1
  have hY : ∃ Y, Y = (v1.alloc (.cells #[.int .i64 0, .int .i64 0, .nilFunc] 78)).setRow v1.heap.size #[.int .i64 (rlo (rlK g)), .int .i64 (rhi (rlK g)), rfn (rlK g)] := ⟨_, rfl⟩
  obtain ⟨Y, hY⟩ := hY
  have hbY : Below W.heap.size W Y := by rw [hY]; exact below_setRow (hb.alloc hb.size _) hb.size _
  have y3 : BoxR Y v1.heap.size 78 #[.int .i64 (rlo (rlK g)), .int .i64 (rhi (rlK g)), rfn (rlK g)] := by rw [hY]; exact (boxR_new v1 _ _).rowNew
  have HBY := below_app HB hbY HB.size
  obtain ⟨c0, c1, c2, c3, b0, b1⟩ := SK.out Y hbY
  go_wp2_with (refine wpList_store_row rfl 78 (.tmp 7) _ rfl v1.heap.size #[.int .i64 (rlo (rlK g)), .int .i64 (rhi (rlK g)), rfn (rlK g)] (by rfl) (by rfl) _ _ (heap_alloc_new v1 _) (by kernel_rfl) (by rfl) (rule_one _ _ _) ?_; rw [← hY]; clear hY; (try simp only [Act.put, List.setIfInBounds_toArray, List.set_cons_zero, List.set_cons_succ]))
  refine (HI.out _).mono ?_
  rintro e v2 ⟨rfl, hb2⟩
  have hbV := below_app hbY hb2 hbY.size
  have HBV := below_app HB hbV HB.size
  clear c0 c1 c2 c3 b0 b1
  go_wp2
  go_ret
  exact ⟨ret_bool' HA.out.symm, HBV⟩
set_option maxHeartbeats 4000000 in
theorem ihol_0 (s : Stt) (side : Int) (nn : Int) (w : World) (hok : s.ok w) (hn : s.pn ≤ 1048576) (hn2 : s.sn ≤ 1048576) (hg : okGd (⟨0, nn⟩ : Gd) = true) (hi : ib side 0 ((s.sn : Int) - 1) = true) : Calls Try.prog 24 #[(.agg #[.slice s.pa s.pn s.pcap, .slice s.sa s.sn s.scap, .int .i64 s.ac, .int .i64 s.cl]), .int .i64 side, (.agg #[.int .i64 0, .int .i64 nn])] w fun e w' => e = .returned (.bool (hdG s side (⟨0, nn⟩ : Gd))) ∧ Below w.heap.size w w' := by
  have HA : Hid (hdG s side (⟨0, nn⟩ : Gd) = hdK s side (⟨0, nn⟩ : Gd)) := by show hdG s side (⟨0, nn⟩ : Gd) = _; exact hdG_yes hg hi
  have HB := ((Below.refl _ w).alloc (Nat.le_refl _) (.cells #[.slice s.pa s.pn s.pcap, .slice s.sa s.sn s.scap, .int .i64 s.ac, .int .i64 s.cl] 27)).alloc (by simp) (.cells #[.int .i64 0, .int .i64 nn] 42)
  have x1 := (boxR_new w 27 #[.slice s.pa s.pn s.pcap, .slice s.sa s.sn s.scap, .int .i64 s.ac, .int .i64 s.cl]).alloc (.cells #[.int .i64 0, .int .i64 nn] 42)
  have x2 : BoxGd ((w.alloc (.cells #[.slice s.pa s.pn s.pcap, .slice s.sa s.sn s.scap, .int .i64 s.ac, .int .i64 s.cl] 27)).alloc (.cells #[.int .i64 0, .int .i64 nn] 42)) (w.heap.size + 1) 42 (⟨0, nn⟩ : Gd) := heap_alloc2_new _ _ _
  generalize hW : (w.alloc (.cells #[.slice s.pa s.pn s.pcap, .slice s.sa s.sn s.scap, .int .i64 s.ac, .int .i64 s.cl] 27)).alloc (.cells #[.int .i64 0, .int .i64 nn] 42) = W at HB x1 x2
  have SK : Hid (∀ u : World, Below W.heap.size W u → u.cell? ⟨w.heap.size, 0, none⟩ = some (.slice s.pa s.pn s.pcap) ∧ u.cell? ⟨w.heap.size, 1, none⟩ = some (.slice s.sa s.sn s.scap) ∧ u.cell? ⟨w.heap.size, 2, none⟩ = some (.int .i64 s.ac) ∧ u.cell? ⟨w.heap.size, 3, none⟩ = some (.int .i64 s.cl) ∧ u.cell? ⟨w.heap.size + 1, 0, none⟩ = some (.int .i64 0) ∧ u.cell? ⟨w.heap.size + 1, 1, none⟩ = some (.int .i64 nn)) := fun u hu => by
    have y1 := x1.grew hu
    obtain ⟨b0, b1⟩ : CellsGd _ _ _ := (x2.grew hu).cells
    exact ⟨y1.cell 0, y1.cell 1, y1.cell 2, y1.cell 3, b0, b1⟩
  have HR : Hid (∀ w : World, Calls Try.prog 58 #[(.agg #[.int .i64 0, .int .i64 nn])] w fun e w' => e = .returned (.tuple #[.agg #[.int .i64 0, .int .i64 0, .func (.func 83) #[] #[]], .bool true]) ∧ Below w.heap.size w w') := fun w => by have := rightRule_any (⟨0, nn⟩ : Gd) w; rw [hg] at this; exact this
  have HI : Hid (∀ w : World, Calls Try.prog 54 #[(.agg #[.slice s.pa s.pn s.pcap, .slice s.sa s.sn s.scap, .int .i64 s.ac, .int .i64 s.cl]), .int .i64 side] w fun e w' => e = .returned (.bool true) ∧ Below w.heap.size w w') := fun w => by have := hasSide_any s side w (by omega); rw [hi] at this; exact this
  have okK : Hid (∀ u : World, Below W.heap.size W u → s.ok u) := fun u hu => stt_grew hok (below_app HB hu HB.size)
  clear hg
  obtain ⟨c0, c1, c2, c3, b0, b1⟩ := SK.out W (Below.refl _ _)
  clear x1 x2 hok
  go_enter Try.func24, Try.ntmps24
  go_wp2_with fail
  refine (HR.out _).mono ?_
  rintro e v1 ⟨rfl, hb⟩
  clear hW c0 c1 c2 c3 b0 b1
  have hY : ∃ Y, Y = (v1.alloc (.cells #[.int .i64 0, .int .i64 0, .nilFunc] 78)).setRow v1.heap.size #[.int .i64 0, .int .i64 0, .func (.func 83) #[] #[]] := ⟨_, rfl⟩
  obtain ⟨Y, hY⟩ := hY
  have hbY : Below W.heap.size W Y := by rw [hY]; exact below_setRow (hb.alloc hb.size _) hb.size _
  have y3 : BoxR Y v1.heap.size 78 #[.int .i64 0, .int .i64 0, .func (.func 83) #[] #[]] := by rw [hY]; exact (boxR_new v1 _ _).rowNew
  have HBY := below_app HB hbY HB.size
  obtain ⟨c0, c1, c2, c3, b0, b1⟩ := SK.out Y hbY
  go_wp2_with (refine wpList_store_row rfl 78 (.tmp 7) _ rfl v1.heap.size #[.int .i64 0, .int .i64 0, .func (.func 83) #[] #[]] (by rfl) (by rfl) _ _ (heap_alloc_new v1 _) (by kernel_rfl) (by rfl) (by simp [Value.oneCell']) ?_; rw [← hY]; clear hY; (try simp only [Act.put, List.setIfInBounds_toArray, List.set_cons_zero, List.set_cons_succ]))
  have hsd : Hid (0 ≤ side ∧ side ≤ (s.sn : Int) - 1) := ib_bd hi
  have hsn : Hid (side ≠ -1) := by show side ≠ -1; have := hsd.out; omega
  clear hi
  refine (HI.out _).mono ?_
  rintro e v2 ⟨rfl, hb2⟩
  have hbV := below_app hbY hb2 hbY.size
  have HBV := below_app HB hbV HB.size
  clear c0 c1 c2 c3 b0 b1
  obtain ⟨c0, c1, c2, c3, b0, b1⟩ := SK.out v2 hbV
  have f2 := (y3.grew hb2).cell 2
  simp at f2
  have hen : ∀ (args : Array Value) (w : World), (callFunc 83 args).run Try.prog w = .ok (.enter 83 args) w := enters_of Try.func83 (by kernel_rfl) rfl
  go_wp2_with fail
  refine (asksNothing_any ⟨0, nn⟩ s side _).mono ?_
  rintro e v3 ⟨rfl, hb3⟩
  have HBW := below_app HBV hb3 HBV.size
  clear c0 c1 c2 c3 b0 b1 f2
  go_wp2
  go_ret
  exact ⟨ret_bool' (by rw [HA.out]; rfl), HBW⟩
set_option maxHeartbeats 4000000 in
theorem ihol_1 (s : Stt) (side : Int) (nn : Int) (w : World) (hok : s.ok w) (hn : s.pn ≤ 1048576) (hn2 : s.sn ≤ 1048576) (hg : okGd (⟨1, nn⟩ : Gd) = true) (hi : ib side 0 ((s.sn : Int) - 1) = true) : Calls Try.prog 24 #[(.agg #[.slice s.pa s.pn s.pcap, .slice s.sa s.sn s.scap, .int .i64 s.ac, .int .i64 s.cl]), .int .i64 side, (.agg #[.int .i64 1, .int .i64 nn])] w fun e w' => e = .returned (.bool (hdG s side (⟨1, nn⟩ : Gd))) ∧ Below w.heap.size w w' := by
  have HA : Hid (hdG s side (⟨1, nn⟩ : Gd) = hdK s side (⟨1, nn⟩ : Gd)) := by show hdG s side (⟨1, nn⟩ : Gd) = _; exact hdG_yes hg hi
  have HB := ((Below.refl _ w).alloc (Nat.le_refl _) (.cells #[.slice s.pa s.pn s.pcap, .slice s.sa s.sn s.scap, .int .i64 s.ac, .int .i64 s.cl] 27)).alloc (by simp) (.cells #[.int .i64 1, .int .i64 nn] 42)
  have x1 := (boxR_new w 27 #[.slice s.pa s.pn s.pcap, .slice s.sa s.sn s.scap, .int .i64 s.ac, .int .i64 s.cl]).alloc (.cells #[.int .i64 1, .int .i64 nn] 42)
  have x2 : BoxGd ((w.alloc (.cells #[.slice s.pa s.pn s.pcap, .slice s.sa s.sn s.scap, .int .i64 s.ac, .int .i64 s.cl] 27)).alloc (.cells #[.int .i64 1, .int .i64 nn] 42)) (w.heap.size + 1) 42 (⟨1, nn⟩ : Gd) := heap_alloc2_new _ _ _
  generalize hW : (w.alloc (.cells #[.slice s.pa s.pn s.pcap, .slice s.sa s.sn s.scap, .int .i64 s.ac, .int .i64 s.cl] 27)).alloc (.cells #[.int .i64 1, .int .i64 nn] 42) = W at HB x1 x2
  have SK : Hid (∀ u : World, Below W.heap.size W u → u.cell? ⟨w.heap.size, 0, none⟩ = some (.slice s.pa s.pn s.pcap) ∧ u.cell? ⟨w.heap.size, 1, none⟩ = some (.slice s.sa s.sn s.scap) ∧ u.cell? ⟨w.heap.size, 2, none⟩ = some (.int .i64 s.ac) ∧ u.cell? ⟨w.heap.size, 3, none⟩ = some (.int .i64 s.cl) ∧ u.cell? ⟨w.heap.size + 1, 0, none⟩ = some (.int .i64 1) ∧ u.cell? ⟨w.heap.size + 1, 1, none⟩ = some (.int .i64 nn)) := fun u hu => by
    have y1 := x1.grew hu
    obtain ⟨b0, b1⟩ : CellsGd _ _ _ := (x2.grew hu).cells
    exact ⟨y1.cell 0, y1.cell 1, y1.cell 2, y1.cell 3, b0, b1⟩
  have HR : Hid (∀ w : World, Calls Try.prog 58 #[(.agg #[.int .i64 1, .int .i64 nn])] w fun e w' => e = .returned (.tuple #[.agg #[.int .i64 (-2147483647), .int .i64 2147483647, .func (.func 84) #[] #[]], .bool true]) ∧ Below w.heap.size w w') := fun w => by have := rightRule_any (⟨1, nn⟩ : Gd) w; rw [hg] at this; exact this
  have HI : Hid (∀ w : World, Calls Try.prog 54 #[(.agg #[.slice s.pa s.pn s.pcap, .slice s.sa s.sn s.scap, .int .i64 s.ac, .int .i64 s.cl]), .int .i64 side] w fun e w' => e = .returned (.bool true) ∧ Below w.heap.size w w') := fun w => by have := hasSide_any s side w (by omega); rw [hi] at this; exact this
  have okK : Hid (∀ u : World, Below W.heap.size W u → s.ok u) := fun u hu => stt_grew hok (below_app HB hu HB.size)
  clear hg
  obtain ⟨c0, c1, c2, c3, b0, b1⟩ := SK.out W (Below.refl _ _)
  clear x1 x2 hok
  go_enter Try.func24, Try.ntmps24
  go_wp2_with fail
  refine (HR.out _).mono ?_
  rintro e v1 ⟨rfl, hb⟩
  clear hW c0 c1 c2 c3 b0 b1
  have hY : ∃ Y, Y = (v1.alloc (.cells #[.int .i64 0, .int .i64 0, .nilFunc] 78)).setRow v1.heap.size #[.int .i64 (-2147483647), .int .i64 2147483647, .func (.func 84) #[] #[]] := ⟨_, rfl⟩
  obtain ⟨Y, hY⟩ := hY
  have hbY : Below W.heap.size W Y := by rw [hY]; exact below_setRow (hb.alloc hb.size _) hb.size _
  have y3 : BoxR Y v1.heap.size 78 #[.int .i64 (-2147483647), .int .i64 2147483647, .func (.func 84) #[] #[]] := by rw [hY]; exact (boxR_new v1 _ _).rowNew
  have HBY := below_app HB hbY HB.size
  obtain ⟨c0, c1, c2, c3, b0, b1⟩ := SK.out Y hbY
  go_wp2_with (refine wpList_store_row rfl 78 (.tmp 7) _ rfl v1.heap.size #[.int .i64 (-2147483647), .int .i64 2147483647, .func (.func 84) #[] #[]] (by rfl) (by rfl) _ _ (heap_alloc_new v1 _) (by kernel_rfl) (by rfl) (by simp [Value.oneCell']) ?_; rw [← hY]; clear hY; (try simp only [Act.put, List.setIfInBounds_toArray, List.set_cons_zero, List.set_cons_succ]))
  have hsd : Hid (0 ≤ side ∧ side ≤ (s.sn : Int) - 1) := ib_bd hi
  have hsn : Hid (side ≠ -1) := by show side ≠ -1; have := hsd.out; omega
  clear hi
  refine (HI.out _).mono ?_
  rintro e v2 ⟨rfl, hb2⟩
  have hbV := below_app hbY hb2 hbY.size
  have HBV := below_app HB hbV HB.size
  clear c0 c1 c2 c3 b0 b1
  obtain ⟨c0, c1, c2, c3, b0, b1⟩ := SK.out v2 hbV
  have f2 := (y3.grew hb2).cell 2
  simp at f2
  have hen : ∀ (args : Array Value) (w : World), (callFunc 84 args).run Try.prog w = .ok (.enter 84 args) w := enters_of Try.func84 (by kernel_rfl) rfl
  go_wp2_with fail
  refine (lifeIsLow_any ⟨1, nn⟩ s side _ (okK.out _ hbV) hn2 hsd.out).mono ?_
  rintro e v3 ⟨rfl, hb3⟩
  have HBW := below_app HBV hb3 HBV.size
  clear c0 c1 c2 c3 b0 b1 f2
  go_wp2
  go_ret
  exact ⟨ret_bool' (by rw [HA.out]; rfl), HBW⟩
set_option maxHeartbeats 4000000 in
theorem ihol_2 (s : Stt) (side : Int) (nn : Int) (w : World) (hok : s.ok w) (hn : s.pn ≤ 1048576) (hn2 : s.sn ≤ 1048576) (hg : okGd (⟨2, nn⟩ : Gd) = true) (hi : ib side 0 ((s.sn : Int) - 1) = true) : Calls Try.prog 24 #[(.agg #[.slice s.pa s.pn s.pcap, .slice s.sa s.sn s.scap, .int .i64 s.ac, .int .i64 s.cl]), .int .i64 side, (.agg #[.int .i64 2, .int .i64 nn])] w fun e w' => e = .returned (.bool (hdG s side (⟨2, nn⟩ : Gd))) ∧ Below w.heap.size w w' := by
  have HA : Hid (hdG s side (⟨2, nn⟩ : Gd) = hdK s side (⟨2, nn⟩ : Gd)) := by show hdG s side (⟨2, nn⟩ : Gd) = _; exact hdG_yes hg hi
  have HB := ((Below.refl _ w).alloc (Nat.le_refl _) (.cells #[.slice s.pa s.pn s.pcap, .slice s.sa s.sn s.scap, .int .i64 s.ac, .int .i64 s.cl] 27)).alloc (by simp) (.cells #[.int .i64 2, .int .i64 nn] 42)
  have x1 := (boxR_new w 27 #[.slice s.pa s.pn s.pcap, .slice s.sa s.sn s.scap, .int .i64 s.ac, .int .i64 s.cl]).alloc (.cells #[.int .i64 2, .int .i64 nn] 42)
  have x2 : BoxGd ((w.alloc (.cells #[.slice s.pa s.pn s.pcap, .slice s.sa s.sn s.scap, .int .i64 s.ac, .int .i64 s.cl] 27)).alloc (.cells #[.int .i64 2, .int .i64 nn] 42)) (w.heap.size + 1) 42 (⟨2, nn⟩ : Gd) := heap_alloc2_new _ _ _
  generalize hW : (w.alloc (.cells #[.slice s.pa s.pn s.pcap, .slice s.sa s.sn s.scap, .int .i64 s.ac, .int .i64 s.cl] 27)).alloc (.cells #[.int .i64 2, .int .i64 nn] 42) = W at HB x1 x2
  have SK : Hid (∀ u : World, Below W.heap.size W u → u.cell? ⟨w.heap.size, 0, none⟩ = some (.slice s.pa s.pn s.pcap) ∧ u.cell? ⟨w.heap.size, 1, none⟩ = some (.slice s.sa s.sn s.scap) ∧ u.cell? ⟨w.heap.size, 2, none⟩ = some (.int .i64 s.ac) ∧ u.cell? ⟨w.heap.size, 3, none⟩ = some (.int .i64 s.cl) ∧ u.cell? ⟨w.heap.size + 1, 0, none⟩ = some (.int .i64 2) ∧ u.cell? ⟨w.heap.size + 1, 1, none⟩ = some (.int .i64 nn)) := fun u hu => by
    have y1 := x1.grew hu
    obtain ⟨b0, b1⟩ : CellsGd _ _ _ := (x2.grew hu).cells
    exact ⟨y1.cell 0, y1.cell 1, y1.cell 2, y1.cell 3, b0, b1⟩
  have HR : Hid (∀ w : World, Calls Try.prog 58 #[(.agg #[.int .i64 2, .int .i64 nn])] w fun e w' => e = .returned (.tuple #[.agg #[.int .i64 0, .int .i64 8, .func (.func 85) #[] #[]], .bool true]) ∧ Below w.heap.size w w') := fun w => by have := rightRule_any (⟨2, nn⟩ : Gd) w; rw [hg] at this; exact this
  have HI : Hid (∀ w : World, Calls Try.prog 54 #[(.agg #[.slice s.pa s.pn s.pcap, .slice s.sa s.sn s.scap, .int .i64 s.ac, .int .i64 s.cl]), .int .i64 side] w fun e w' => e = .returned (.bool true) ∧ Below w.heap.size w w') := fun w => by have := hasSide_any s side w (by omega); rw [hi] at this; exact this
  have okK : Hid (∀ u : World, Below W.heap.size W u → s.ok u) := fun u hu => stt_grew hok (below_app HB hu HB.size)
  clear hg
  obtain ⟨c0, c1, c2, c3, b0, b1⟩ := SK.out W (Below.refl _ _)
  clear x1 x2 hok
  go_enter Try.func24, Try.ntmps24
  go_wp2_with fail
  refine (HR.out _).mono ?_
  rintro e v1 ⟨rfl, hb⟩
  clear hW c0 c1 c2 c3 b0 b1
  have hY : ∃ Y, Y = (v1.alloc (.cells #[.int .i64 0, .int .i64 0, .nilFunc] 78)).setRow v1.heap.size #[.int .i64 0, .int .i64 8, .func (.func 85) #[] #[]] := ⟨_, rfl⟩
  obtain ⟨Y, hY⟩ := hY
  have hbY : Below W.heap.size W Y := by rw [hY]; exact below_setRow (hb.alloc hb.size _) hb.size _
  have y3 : BoxR Y v1.heap.size 78 #[.int .i64 0, .int .i64 8, .func (.func 85) #[] #[]] := by rw [hY]; exact (boxR_new v1 _ _).rowNew
  have HBY := below_app HB hbY HB.size
  obtain ⟨c0, c1, c2, c3, b0, b1⟩ := SK.out Y hbY
  go_wp2_with (refine wpList_store_row rfl 78 (.tmp 7) _ rfl v1.heap.size #[.int .i64 0, .int .i64 8, .func (.func 85) #[] #[]] (by rfl) (by rfl) _ _ (heap_alloc_new v1 _) (by kernel_rfl) (by rfl) (by simp [Value.oneCell']) ?_; rw [← hY]; clear hY; (try simp only [Act.put, List.setIfInBounds_toArray, List.set_cons_zero, List.set_cons_succ]))
  have hsd : Hid (0 ≤ side ∧ side ≤ (s.sn : Int) - 1) := ib_bd hi
  have hsn : Hid (side ≠ -1) := by show side ≠ -1; have := hsd.out; omega
  clear hi
  refine (HI.out _).mono ?_
  rintro e v2 ⟨rfl, hb2⟩
  have hbV := below_app hbY hb2 hbY.size
  have HBV := below_app HB hbV HB.size
  clear c0 c1 c2 c3 b0 b1
  obtain ⟨c0, c1, c2, c3, b0, b1⟩ := SK.out v2 hbV
  have f2 := (y3.grew hb2).cell 2
  simp at f2
  have hen : ∀ (args : Array Value) (w : World), (callFunc 85 args).run Try.prog w = .ok (.enter 85 args) w := enters_of Try.func85 (by kernel_rfl) rfl
  go_wp2_with fail
  refine (piecesAreMany_any ⟨2, nn⟩ s side _ (okK.out _ hbV) hn hsn.out).mono ?_
  rintro e v3 ⟨rfl, hb3⟩
  have HBW := below_app HBV hb3 HBV.size
  clear c0 c1 c2 c3 b0 b1 f2
  go_wp2
  go_ret
  exact ⟨ret_bool' (by rw [HA.out]; rfl), HBW⟩
set_option maxHeartbeats 4000000 in
theorem ihol_3 (s : Stt) (side : Int) (nn : Int) (w : World) (hok : s.ok w) (hn : s.pn ≤ 1048576) (hn2 : s.sn ≤ 1048576) (hg : okGd (⟨3, nn⟩ : Gd) = true) (hi : ib side 0 ((s.sn : Int) - 1) = true) : Calls Try.prog 24 #[(.agg #[.slice s.pa s.pn s.pcap, .slice s.sa s.sn s.scap, .int .i64 s.ac, .int .i64 s.cl]), .int .i64 side, (.agg #[.int .i64 3, .int .i64 nn])] w fun e w' => e = .returned (.bool (hdG s side (⟨3, nn⟩ : Gd))) ∧ Below w.heap.size w w' := by
  have HA : Hid (hdG s side (⟨3, nn⟩ : Gd) = hdK s side (⟨3, nn⟩ : Gd)) := by show hdG s side (⟨3, nn⟩ : Gd) = _; exact hdG_yes hg hi
  have HB := ((Below.refl _ w).alloc (Nat.le_refl _) (.cells #[.slice s.pa s.pn s.pcap, .slice s.sa s.sn s.scap, .int .i64 s.ac, .int .i64 s.cl] 27)).alloc (by simp) (.cells #[.int .i64 3, .int .i64 nn] 42)
  have x1 := (boxR_new w 27 #[.slice s.pa s.pn s.pcap, .slice s.sa s.sn s.scap, .int .i64 s.ac, .int .i64 s.cl]).alloc (.cells #[.int .i64 3, .int .i64 nn] 42)
  have x2 : BoxGd ((w.alloc (.cells #[.slice s.pa s.pn s.pcap, .slice s.sa s.sn s.scap, .int .i64 s.ac, .int .i64 s.cl] 27)).alloc (.cells #[.int .i64 3, .int .i64 nn] 42)) (w.heap.size + 1) 42 (⟨3, nn⟩ : Gd) := heap_alloc2_new _ _ _
  generalize hW : (w.alloc (.cells #[.slice s.pa s.pn s.pcap, .slice s.sa s.sn s.scap, .int .i64 s.ac, .int .i64 s.cl] 27)).alloc (.cells #[.int .i64 3, .int .i64 nn] 42) = W at HB x1 x2
  have SK : Hid (∀ u : World, Below W.heap.size W u → u.cell? ⟨w.heap.size, 0, none⟩ = some (.slice s.pa s.pn s.pcap) ∧ u.cell? ⟨w.heap.size, 1, none⟩ = some (.slice s.sa s.sn s.scap) ∧ u.cell? ⟨w.heap.size, 2, none⟩ = some (.int .i64 s.ac) ∧ u.cell? ⟨w.heap.size, 3, none⟩ = some (.int .i64 s.cl) ∧ u.cell? ⟨w.heap.size + 1, 0, none⟩ = some (.int .i64 3) ∧ u.cell? ⟨w.heap.size + 1, 1, none⟩ = some (.int .i64 nn)) := fun u hu => by
    have y1 := x1.grew hu
    obtain ⟨b0, b1⟩ : CellsGd _ _ _ := (x2.grew hu).cells
    exact ⟨y1.cell 0, y1.cell 1, y1.cell 2, y1.cell 3, b0, b1⟩
  have HR : Hid (∀ w : World, Calls Try.prog 58 #[(.agg #[.int .i64 3, .int .i64 nn])] w fun e w' => e = .returned (.tuple #[.agg #[.int .i64 0, .int .i64 0, .func (.func 86) #[] #[]], .bool true]) ∧ Below w.heap.size w w') := fun w => by have := rightRule_any (⟨3, nn⟩ : Gd) w; rw [hg] at this; exact this
  have HI : Hid (∀ w : World, Calls Try.prog 54 #[(.agg #[.slice s.pa s.pn s.pcap, .slice s.sa s.sn s.scap, .int .i64 s.ac, .int .i64 s.cl]), .int .i64 side] w fun e w' => e = .returned (.bool true) ∧ Below w.heap.size w w') := fun w => by have := hasSide_any s side w (by omega); rw [hi] at this; exact this
  have okK : Hid (∀ u : World, Below W.heap.size W u → s.ok u) := fun u hu => stt_grew hok (below_app HB hu HB.size)
  clear hg
  obtain ⟨c0, c1, c2, c3, b0, b1⟩ := SK.out W (Below.refl _ _)
  clear x1 x2 hok
  go_enter Try.func24, Try.ntmps24
  go_wp2_with fail
  refine (HR.out _).mono ?_
  rintro e v1 ⟨rfl, hb⟩
  clear hW c0 c1 c2 c3 b0 b1
  have hY : ∃ Y, Y = (v1.alloc (.cells #[.int .i64 0, .int .i64 0, .nilFunc] 78)).setRow v1.heap.size #[.int .i64 0, .int .i64 0, .func (.func 86) #[] #[]] := ⟨_, rfl⟩
  obtain ⟨Y, hY⟩ := hY
  have hbY : Below W.heap.size W Y := by rw [hY]; exact below_setRow (hb.alloc hb.size _) hb.size _
  have y3 : BoxR Y v1.heap.size 78 #[.int .i64 0, .int .i64 0, .func (.func 86) #[] #[]] := by rw [hY]; exact (boxR_new v1 _ _).rowNew
  have HBY := below_app HB hbY HB.size
  obtain ⟨c0, c1, c2, c3, b0, b1⟩ := SK.out Y hbY
  go_wp2_with (refine wpList_store_row rfl 78 (.tmp 7) _ rfl v1.heap.size #[.int .i64 0, .int .i64 0, .func (.func 86) #[] #[]] (by rfl) (by rfl) _ _ (heap_alloc_new v1 _) (by kernel_rfl) (by rfl) (by simp [Value.oneCell']) ?_; rw [← hY]; clear hY; (try simp only [Act.put, List.setIfInBounds_toArray, List.set_cons_zero, List.set_cons_succ]))
  have hsd : Hid (0 ≤ side ∧ side ≤ (s.sn : Int) - 1) := ib_bd hi
  have hsn : Hid (side ≠ -1) := by show side ≠ -1; have := hsd.out; omega
  clear hi
  refine (HI.out _).mono ?_
  rintro e v2 ⟨rfl, hb2⟩
  have hbV := below_app hbY hb2 hbY.size
  have HBV := below_app HB hbV HB.size
  clear c0 c1 c2 c3 b0 b1
  obtain ⟨c0, c1, c2, c3, b0, b1⟩ := SK.out v2 hbV
  have f2 := (y3.grew hb2).cell 2
  simp at f2
  have hen : ∀ (args : Array Value) (w : World), (callFunc 86 args).run Try.prog w = .ok (.enter 86 args) w := enters_of Try.func86 (by kernel_rfl) rfl
  go_wp2_with fail
  refine (turnIsOn_any ⟨3, nn⟩ s side _).mono ?_
  rintro e v3 ⟨rfl, hb3⟩
  have HBW := below_app HBV hb3 HBV.size
  clear c0 c1 c2 c3 b0 b1 f2
  go_wp2
  go_ret
  exact ⟨ret_bool' (by rw [HA.out]; rfl), HBW⟩
set_option maxHeartbeats 4000000 in
theorem ihol_4 (s : Stt) (side : Int) (nn : Int) (w : World) (hok : s.ok w) (hn : s.pn ≤ 1048576) (hn2 : s.sn ≤ 1048576) (hg : okGd (⟨4, nn⟩ : Gd) = true) (hi : ib side 0 ((s.sn : Int) - 1) = true) : Calls Try.prog 24 #[(.agg #[.slice s.pa s.pn s.pcap, .slice s.sa s.sn s.scap, .int .i64 s.ac, .int .i64 s.cl]), .int .i64 side, (.agg #[.int .i64 4, .int .i64 nn])] w fun e w' => e = .returned (.bool (hdG s side (⟨4, nn⟩ : Gd))) ∧ Below w.heap.size w w' := by
  have HA : Hid (hdG s side (⟨4, nn⟩ : Gd) = hdK s side (⟨4, nn⟩ : Gd)) := by show hdG s side (⟨4, nn⟩ : Gd) = _; exact hdG_yes hg hi
  have HB := ((Below.refl _ w).alloc (Nat.le_refl _) (.cells #[.slice s.pa s.pn s.pcap, .slice s.sa s.sn s.scap, .int .i64 s.ac, .int .i64 s.cl] 27)).alloc (by simp) (.cells #[.int .i64 4, .int .i64 nn] 42)
  have x1 := (boxR_new w 27 #[.slice s.pa s.pn s.pcap, .slice s.sa s.sn s.scap, .int .i64 s.ac, .int .i64 s.cl]).alloc (.cells #[.int .i64 4, .int .i64 nn] 42)
  have x2 : BoxGd ((w.alloc (.cells #[.slice s.pa s.pn s.pcap, .slice s.sa s.sn s.scap, .int .i64 s.ac, .int .i64 s.cl] 27)).alloc (.cells #[.int .i64 4, .int .i64 nn] 42)) (w.heap.size + 1) 42 (⟨4, nn⟩ : Gd) := heap_alloc2_new _ _ _
  generalize hW : (w.alloc (.cells #[.slice s.pa s.pn s.pcap, .slice s.sa s.sn s.scap, .int .i64 s.ac, .int .i64 s.cl] 27)).alloc (.cells #[.int .i64 4, .int .i64 nn] 42) = W at HB x1 x2
  have SK : Hid (∀ u : World, Below W.heap.size W u → u.cell? ⟨w.heap.size, 0, none⟩ = some (.slice s.pa s.pn s.pcap) ∧ u.cell? ⟨w.heap.size, 1, none⟩ = some (.slice s.sa s.sn s.scap) ∧ u.cell? ⟨w.heap.size, 2, none⟩ = some (.int .i64 s.ac) ∧ u.cell? ⟨w.heap.size, 3, none⟩ = some (.int .i64 s.cl) ∧ u.cell? ⟨w.heap.size + 1, 0, none⟩ = some (.int .i64 4) ∧ u.cell? ⟨w.heap.size + 1, 1, none⟩ = some (.int .i64 nn)) := fun u hu => by
    have y1 := x1.grew hu
    obtain ⟨b0, b1⟩ : CellsGd _ _ _ := (x2.grew hu).cells
    exact ⟨y1.cell 0, y1.cell 1, y1.cell 2, y1.cell 3, b0, b1⟩
  have HR : Hid (∀ w : World, Calls Try.prog 58 #[(.agg #[.int .i64 4, .int .i64 nn])] w fun e w' => e = .returned (.tuple #[.agg #[.int .i64 0, .int .i64 8, .func (.func 87) #[] #[]], .bool true]) ∧ Below w.heap.size w w') := fun w => by have := rightRule_any (⟨4, nn⟩ : Gd) w; rw [hg] at this; exact this
  have HI : Hid (∀ w : World, Calls Try.prog 54 #[(.agg #[.slice s.pa s.pn s.pcap, .slice s.sa s.sn s.scap, .int .i64 s.ac, .int .i64 s.cl]), .int .i64 side] w fun e w' => e = .returned (.bool true) ∧ Below w.heap.size w w') := fun w => by have := hasSide_any s side w (by omega); rw [hi] at this; exact this
  have okK : Hid (∀ u : World, Below W.heap.size W u → s.ok u) := fun u hu => stt_grew hok (below_app HB hu HB.size)
  clear hg
  obtain ⟨c0, c1, c2, c3, b0, b1⟩ := SK.out W (Below.refl _ _)
  clear x1 x2 hok
  go_enter Try.func24, Try.ntmps24
  go_wp2_with fail
  refine (HR.out _).mono ?_
  rintro e v1 ⟨rfl, hb⟩
  clear hW c0 c1 c2 c3 b0 b1
  have hY : ∃ Y, Y = (v1.alloc (.cells #[.int .i64 0, .int .i64 0, .nilFunc] 78)).setRow v1.heap.size #[.int .i64 0, .int .i64 8, .func (.func 87) #[] #[]] := ⟨_, rfl⟩
  obtain ⟨Y, hY⟩ := hY
  have hbY : Below W.heap.size W Y := by rw [hY]; exact below_setRow (hb.alloc hb.size _) hb.size _
  have y3 : BoxR Y v1.heap.size 78 #[.int .i64 0, .int .i64 8, .func (.func 87) #[] #[]] := by rw [hY]; exact (boxR_new v1 _ _).rowNew
  have HBY := below_app HB hbY HB.size
  obtain ⟨c0, c1, c2, c3, b0, b1⟩ := SK.out Y hbY
  go_wp2_with (refine wpList_store_row rfl 78 (.tmp 7) _ rfl v1.heap.size #[.int .i64 0, .int .i64 8, .func (.func 87) #[] #[]] (by rfl) (by rfl) _ _ (heap_alloc_new v1 _) (by kernel_rfl) (by rfl) (by simp [Value.oneCell']) ?_; rw [← hY]; clear hY; (try simp only [Act.put, List.setIfInBounds_toArray, List.set_cons_zero, List.set_cons_succ]))
  have hsd : Hid (0 ≤ side ∧ side ≤ (s.sn : Int) - 1) := ib_bd hi
  have hsn : Hid (side ≠ -1) := by show side ≠ -1; have := hsd.out; omega
  clear hi
  refine (HI.out _).mono ?_
  rintro e v2 ⟨rfl, hb2⟩
  have hbV := below_app hbY hb2 hbY.size
  have HBV := below_app HB hbV HB.size
  clear c0 c1 c2 c3 b0 b1
  obtain ⟨c0, c1, c2, c3, b0, b1⟩ := SK.out v2 hbV
  have f2 := (y3.grew hb2).cell 2
  simp at f2
  have hen : ∀ (args : Array Value) (w : World), (callFunc 87 args).run Try.prog w = .ok (.enter 87 args) w := enters_of Try.func87 (by kernel_rfl) rfl
  go_wp2_with fail
  refine (bentAreMany_any ⟨4, nn⟩ s side _ (okK.out _ hbV) hn).mono ?_
  rintro e v3 ⟨rfl, hb3⟩
  have HBW := below_app HBV hb3 HBV.size
  clear c0 c1 c2 c3 b0 b1 f2
  go_wp2
  go_ret
  exact ⟨ret_bool' (by rw [HA.out]; rfl), HBW⟩
theorem implHolds_any (s : Stt) (side : Int) (g : Gd) (w : World) (hok : s.ok w) (hn : s.pn ≤ 1048576) (hn2 : s.sn ≤ 1048576) : Calls Try.prog 24 #[(.agg #[.slice s.pa s.pn s.pcap, .slice s.sa s.sn s.scap, .int .i64 s.ac, .int .i64 s.cl]), .int .i64 side, (.agg #[.int .i64 g.kd, .int .i64 g.nn])] w fun e w' => e = .returned (.bool (hdG s side g)) ∧ Below w.heap.size w w' := by
  cases hg : okGd g
  case false => exact ihol_g s side g w hok hn hn2 hg rfl
  cases hi : ib side 0 ((s.sn : Int) - 1)
  case false => exact ihol_i s side g w hok hn hn2 hg hi
  obtain ⟨kd, nn⟩ := g
  have hk := okGd_kd hg
  dsimp only at hk
  rcases hk with rfl | rfl | rfl | rfl | rfl
  · exact ihol_0 s side nn w hok hn hn2 hg hi
  · exact ihol_1 s side nn w hok hn hn2 hg hi
  · exact ihol_2 s side nn w hok hn hn2 hg hi
  · exact ihol_3 s side nn w hok hn hn2 hg hi
  · exact ihol_4 s side nn w hok hn hn2 hg hi
end Go.Proofs.Ytnlnledijpcjpac
namespace Go.Proofs.Ytnlnledijpcjpac
open Go.ChangeShapes Go.WideShapes Go.ChangeAt Go.RowKit
set_option maxRecDepth 100000
set_option linter.unusedVariables false
set_option linter.unusedSimpArgs false

theorem alike_cn {t s : Stt} (a : Alike t s) (f : Pc → Bool) : cnG f t.pn t.ps = cnG f s.pn s.ps := by rw [a.pn, a.ps]
theorem alike_bnG {t s : Stt} (a : Alike t s) (side : Int) : bnG t side = bnG s side := alike_cn a _
theorem alike_mnG {t s : Stt} (a : Alike t s) (side : Int) : mnG t side = mnG s side := alike_cn a _
theorem alike_hdG {t s : Stt} (a : Alike t s) (side : Int) (g : Gd) : hdG t side g = hdG s side g := by unfold hdG hdK; rw [alike_bnG a, alike_mnG a, a.sn, a.ss, a.ac]
theorem specBentOf_al {w0 w : World} {B : Nat} {t s : Stt} (side : Int) (h : OwnT w B t) (a : Alike t s) (hs : s.ok w0) (hn : s.pn ≤ 1048576) (hn2 : s.sn ≤ 1048576) : Calls Try.prog 30 #[(.agg #[.slice t.pa t.pn t.pcap, .slice t.sa t.sn t.scap, .int .i64 t.ac, .int .i64 t.cl]), .int .i64 side] w fun e w' => e = .returned (.int .i64 (bnG s side)) ∧ Below w.heap.size w w' := by
  rw [← alike_bnG a]; exact specBentOf_any t side w (okT h a hs) (by rw [a.pn]; omega)
theorem specHolds_al {w0 w : World} {B : Nat} {t s : Stt} (side : Int) (g : Gd) (h : OwnT w B t) (a : Alike t s) (hs : s.ok w0) (hn : s.pn ≤ 1048576) (hn2 : s.sn ≤ 1048576) : Calls Try.prog 25 #[(.agg #[.slice t.pa t.pn t.pcap, .slice t.sa t.sn t.scap, .int .i64 t.ac, .int .i64 t.cl]), .int .i64 side, (.agg #[.int .i64 g.kd, .int .i64 g.nn])] w fun e w' => e = .returned (.bool (hdG s side g)) ∧ Below w.heap.size w w' := by
  rw [← alike_hdG a]; exact specHolds_any t side g w (okT h a hs) (by rw [a.pn]; omega) (by rw [a.sn]; omega)
theorem implBentOf_al {w0 w : World} {B : Nat} {t s : Stt} (side : Int) (h : OwnT w B t) (a : Alike t s) (hs : s.ok w0) (hn : s.pn ≤ 1048576) (hn2 : s.sn ≤ 1048576) : Calls Try.prog 29 #[(.agg #[.slice t.pa t.pn t.pcap, .slice t.sa t.sn t.scap, .int .i64 t.ac, .int .i64 t.cl]), .int .i64 side] w fun e w' => e = .returned (.int .i64 (bnG s side)) ∧ Below w.heap.size w w' := by
  rw [← alike_bnG a]; exact implBentOf_any t side w (okT h a hs) (by rw [a.pn]; omega)
theorem implHolds_al {w0 w : World} {B : Nat} {t s : Stt} (side : Int) (g : Gd) (h : OwnT w B t) (a : Alike t s) (hs : s.ok w0) (hn : s.pn ≤ 1048576) (hn2 : s.sn ≤ 1048576) : Calls Try.prog 24 #[(.agg #[.slice t.pa t.pn t.pcap, .slice t.sa t.sn t.scap, .int .i64 t.ac, .int .i64 t.cl]), .int .i64 side, (.agg #[.int .i64 g.kd, .int .i64 g.nn])] w fun e w' => e = .returned (.bool (hdG s side g)) ∧ Below w.heap.size w w' := by
  rw [← alike_hdG a]; exact implHolds_any t side g w (okT h a hs) (by rw [a.pn]; omega) (by rw [a.sn]; omega)
end Go.Proofs.Ytnlnledijpcjpac
