/-
  Chapter 8: the specification's Holds (hdG). Written by tools/gu.gen.py. Own work.
-/
import Derived.Test.YtodfdfncdoliiadGreatGGuC4
import Derived.Deep.RegionHeld
namespace Go.Proofs.YtodfdfncdoliiadGreat
open Go.ChangeShapes Go.WideShapes Go.ChangeAt Go.RowKit
set_option maxRecDepth 100000
set_option linter.unusedVariables false
set_option linter.unusedSimpArgs false

def hdK (s : Stt) (side : Int) (g : Gd) : Bool := bif decide (g.kd = 1) then decide ((s.ss side.toNat).li ≤ g.nn) else bif decide (g.kd = 2) then decide (g.nn ≤ (mnG s side : Int)) else bif decide (g.kd = 3) then decide (s.ac = side) else bif decide (g.kd = 4) then decide (g.nn ≤ (bnG s side : Int)) else true
/-- whether it holds of this side -/
def hdG (s : Stt) (side : Int) (g : Gd) : Bool := okGd g && ib side 0 ((s.sn : Int) - 1) && hdK s side g
theorem okGd_kd {g : Gd} (h : okGd g = true) : g.kd = 0 ∨ g.kd = 1 ∨ g.kd = 2 ∨ g.kd = 3 ∨ g.kd = 4 := by
  unfold okGd at h
  by_cases h0 : g.kd = 0
  · exact .inl h0
  by_cases h1 : g.kd = 1
  · exact .inr (.inl h1)
  by_cases h3 : g.kd = 3
  · exact .inr (.inr (.inr (.inl h3)))
  simp [h0, h1, h3] at h
  omega
theorem ib_bd {x a b : Int} (h : ib x a b = true) : a ≤ x ∧ x ≤ b := by unfold ib at h; simp at h; exact h
theorem hdG_no {s : Stt} {side : Int} {g : Gd} (h : okGd g = false ∨ ib side 0 ((s.sn : Int) - 1) = false) : hdG s side g = false := by unfold hdG; rcases h with h | h <;> rw [h] <;> simp
theorem hdG_yes {s : Stt} {side : Int} {g : Gd} (h : okGd g = true) (k : ib side 0 ((s.sn : Int) - 1) = true) : hdG s side g = hdK s side g := by unfold hdG; rw [h, k]; rfl
set_option maxHeartbeats 4000000 in
theorem hol_g (s : Stt) (side : Int) (g : Gd) (w : World) (hok : s.ok w) (hn : s.pn ≤ 1048576) (hn2 : s.sn ≤ 1048576) (hg : okGd g = false) : Calls Tryz.prog 68 #[(.agg #[.slice s.pa s.pn s.pcap, .slice s.sa s.sn s.scap, .int .i64 s.ac, .int .i64 s.cl]), .int .i64 side, (.agg #[.int .i64 g.kd, .int .i64 g.nn])] w fun e w' => e = .returned (.bool (hdG s side g)) ∧ Below w.heap.size w w' := by
  have HA : Hid (hdG s side g = false) := by show hdG s side g = _; exact hdG_no (.inl hg)
  have HB := ((Below.refl _ w).alloc (Nat.le_refl _) (.cells #[.slice s.pa s.pn s.pcap, .slice s.sa s.sn s.scap, .int .i64 s.ac, .int .i64 s.cl] 37)).alloc (by simp) (.cells #[.int .i64 g.kd, .int .i64 g.nn] 27)
  have x1 := (boxR_new w 37 #[.slice s.pa s.pn s.pcap, .slice s.sa s.sn s.scap, .int .i64 s.ac, .int .i64 s.cl]).alloc (.cells #[.int .i64 g.kd, .int .i64 g.nn] 27)
  have x2 : BoxGd ((w.alloc (.cells #[.slice s.pa s.pn s.pcap, .slice s.sa s.sn s.scap, .int .i64 s.ac, .int .i64 s.cl] 37)).alloc (.cells #[.int .i64 g.kd, .int .i64 g.nn] 27)) (w.heap.size + 1) 27 g := heap_alloc2_new _ _ _
  generalize hW : (w.alloc (.cells #[.slice s.pa s.pn s.pcap, .slice s.sa s.sn s.scap, .int .i64 s.ac, .int .i64 s.cl] 37)).alloc (.cells #[.int .i64 g.kd, .int .i64 g.nn] 27) = W at HB x1 x2
  have SK : Hid (∀ u : World, Below W.heap.size W u → u.cell? ⟨w.heap.size, 0, none⟩ = some (.slice s.pa s.pn s.pcap) ∧ u.cell? ⟨w.heap.size, 1, none⟩ = some (.slice s.sa s.sn s.scap) ∧ u.cell? ⟨w.heap.size, 2, none⟩ = some (.int .i64 s.ac) ∧ u.cell? ⟨w.heap.size, 3, none⟩ = some (.int .i64 s.cl) ∧ u.cell? ⟨w.heap.size + 1, 0, none⟩ = some (.int .i64 g.kd) ∧ u.cell? ⟨w.heap.size + 1, 1, none⟩ = some (.int .i64 g.nn)) := fun u hu => by
    have y1 := x1.grew hu
    obtain ⟨b0, b1⟩ : CellsGd _ _ _ := (x2.grew hu).cells
    exact ⟨y1.cell 0, y1.cell 1, y1.cell 2, y1.cell 3, b0, b1⟩
  have HG : Hid (∀ w : World, Calls Tryz.prog 65 #[(.agg #[.int .i64 g.kd, .int .i64 g.nn])] w fun e w' => e = .returned (.bool false) ∧ Below w.heap.size w w') := fun w => by have := specGuardOk_any g w; rw [hg] at this; exact this
  have HI : Hid (∀ w : World, Calls Tryz.prog 63 #[.int .i64 side, .int .i64 0, .int .i64 ((s.sn : Int) - 1)] w fun e w' => e = .returned (.bool (ib side 0 ((s.sn : Int) - 1))) ∧ w' = w) := fun w => by have := l1In_any side 0 ((s.sn : Int) - 1) w; skip; exact this
  clear hg
  obtain ⟨c0, c1, c2, c3, b0, b1⟩ := SK.out W (Below.refl _ _)
  clear x1 x2
  go_enter Tryz.func68, Tryz.ntmps68
  go_wp2_with fail
  refine (HG.out _).mono ?_
  rintro e v1 ⟨rfl, hb⟩
  have HB1 := below_app HB hb HB.size
  clear hW c0 c1 c2 c3 b0 b1
  obtain ⟨c0, c1, c2, c3, b0, b1⟩ := SK.out v1 hb
  go_wp2
  go_ret
  exact ⟨ret_bool' HA.out.symm, HB1⟩
set_option maxHeartbeats 4000000 in
theorem hol_i (s : Stt) (side : Int) (g : Gd) (w : World) (hok : s.ok w) (hn : s.pn ≤ 1048576) (hn2 : s.sn ≤ 1048576) (hg : okGd g = true) (hi : ib side 0 ((s.sn : Int) - 1) = false) : Calls Tryz.prog 68 #[(.agg #[.slice s.pa s.pn s.pcap, .slice s.sa s.sn s.scap, .int .i64 s.ac, .int .i64 s.cl]), .int .i64 side, (.agg #[.int .i64 g.kd, .int .i64 g.nn])] w fun e w' => e = .returned (.bool (hdG s side g)) ∧ Below w.heap.size w w' := by
  have HA : Hid (hdG s side g = false) := by show hdG s side g = _; exact hdG_no (.inr hi)
  have HB := ((Below.refl _ w).alloc (Nat.le_refl _) (.cells #[.slice s.pa s.pn s.pcap, .slice s.sa s.sn s.scap, .int .i64 s.ac, .int .i64 s.cl] 37)).alloc (by simp) (.cells #[.int .i64 g.kd, .int .i64 g.nn] 27)
  have x1 := (boxR_new w 37 #[.slice s.pa s.pn s.pcap, .slice s.sa s.sn s.scap, .int .i64 s.ac, .int .i64 s.cl]).alloc (.cells #[.int .i64 g.kd, .int .i64 g.nn] 27)
  have x2 : BoxGd ((w.alloc (.cells #[.slice s.pa s.pn s.pcap, .slice s.sa s.sn s.scap, .int .i64 s.ac, .int .i64 s.cl] 37)).alloc (.cells #[.int .i64 g.kd, .int .i64 g.nn] 27)) (w.heap.size + 1) 27 g := heap_alloc2_new _ _ _
  generalize hW : (w.alloc (.cells #[.slice s.pa s.pn s.pcap, .slice s.sa s.sn s.scap, .int .i64 s.ac, .int .i64 s.cl] 37)).alloc (.cells #[.int .i64 g.kd, .int .i64 g.nn] 27) = W at HB x1 x2
  have SK : Hid (∀ u : World, Below W.heap.size W u → u.cell? ⟨w.heap.size, 0, none⟩ = some (.slice s.pa s.pn s.pcap) ∧ u.cell? ⟨w.heap.size, 1, none⟩ = some (.slice s.sa s.sn s.scap) ∧ u.cell? ⟨w.heap.size, 2, none⟩ = some (.int .i64 s.ac) ∧ u.cell? ⟨w.heap.size, 3, none⟩ = some (.int .i64 s.cl) ∧ u.cell? ⟨w.heap.size + 1, 0, none⟩ = some (.int .i64 g.kd) ∧ u.cell? ⟨w.heap.size + 1, 1, none⟩ = some (.int .i64 g.nn)) := fun u hu => by
    have y1 := x1.grew hu
    obtain ⟨b0, b1⟩ : CellsGd _ _ _ := (x2.grew hu).cells
    exact ⟨y1.cell 0, y1.cell 1, y1.cell 2, y1.cell 3, b0, b1⟩
  have HG : Hid (∀ w : World, Calls Tryz.prog 65 #[(.agg #[.int .i64 g.kd, .int .i64 g.nn])] w fun e w' => e = .returned (.bool true) ∧ Below w.heap.size w w') := fun w => by have := specGuardOk_any g w; rw [hg] at this; exact this
  have HI : Hid (∀ w : World, Calls Tryz.prog 63 #[.int .i64 side, .int .i64 0, .int .i64 ((s.sn : Int) - 1)] w fun e w' => e = .returned (.bool false) ∧ w' = w) := fun w => by have := l1In_any side 0 ((s.sn : Int) - 1) w; rw [hi] at this; exact this
  clear hg
  obtain ⟨c0, c1, c2, c3, b0, b1⟩ := SK.out W (Below.refl _ _)
  clear x1 x2
  go_enter Tryz.func68, Tryz.ntmps68
  go_wp2_with fail
  refine (HG.out _).mono ?_
  rintro e v1 ⟨rfl, hb⟩
  have HB1 := below_app HB hb HB.size
  clear hW c0 c1 c2 c3 b0 b1
  obtain ⟨c0, c1, c2, c3, b0, b1⟩ := SK.out v1 hb
  go_wp2_with fail
  refine (HI.out _).mono ?_
  rintro e v2 ⟨rfl, rfl⟩
  go_wp2
  go_ret
  exact ⟨ret_bool' HA.out.symm, HB1⟩
set_option maxHeartbeats 4000000 in
theorem hol_0 (s : Stt) (side : Int) (nn : Int) (w : World) (hok : s.ok w) (hn : s.pn ≤ 1048576) (hn2 : s.sn ≤ 1048576) (hg : okGd (⟨0, nn⟩ : Gd) = true) (hi : ib side 0 ((s.sn : Int) - 1) = true) : Calls Tryz.prog 68 #[(.agg #[.slice s.pa s.pn s.pcap, .slice s.sa s.sn s.scap, .int .i64 s.ac, .int .i64 s.cl]), .int .i64 side, (.agg #[.int .i64 0, .int .i64 nn])] w fun e w' => e = .returned (.bool (hdG s side (⟨0, nn⟩ : Gd))) ∧ Below w.heap.size w w' := by
  have HA : Hid (hdG s side (⟨0, nn⟩ : Gd) = hdK s side (⟨0, nn⟩ : Gd)) := by show hdG s side (⟨0, nn⟩ : Gd) = _; exact hdG_yes hg hi
  have HB := ((Below.refl _ w).alloc (Nat.le_refl _) (.cells #[.slice s.pa s.pn s.pcap, .slice s.sa s.sn s.scap, .int .i64 s.ac, .int .i64 s.cl] 37)).alloc (by simp) (.cells #[.int .i64 0, .int .i64 nn] 27)
  have x1 := (boxR_new w 37 #[.slice s.pa s.pn s.pcap, .slice s.sa s.sn s.scap, .int .i64 s.ac, .int .i64 s.cl]).alloc (.cells #[.int .i64 0, .int .i64 nn] 27)
  have x2 : BoxGd ((w.alloc (.cells #[.slice s.pa s.pn s.pcap, .slice s.sa s.sn s.scap, .int .i64 s.ac, .int .i64 s.cl] 37)).alloc (.cells #[.int .i64 0, .int .i64 nn] 27)) (w.heap.size + 1) 27 (⟨0, nn⟩ : Gd) := heap_alloc2_new _ _ _
  generalize hW : (w.alloc (.cells #[.slice s.pa s.pn s.pcap, .slice s.sa s.sn s.scap, .int .i64 s.ac, .int .i64 s.cl] 37)).alloc (.cells #[.int .i64 0, .int .i64 nn] 27) = W at HB x1 x2
  have SK : Hid (∀ u : World, Below W.heap.size W u → u.cell? ⟨w.heap.size, 0, none⟩ = some (.slice s.pa s.pn s.pcap) ∧ u.cell? ⟨w.heap.size, 1, none⟩ = some (.slice s.sa s.sn s.scap) ∧ u.cell? ⟨w.heap.size, 2, none⟩ = some (.int .i64 s.ac) ∧ u.cell? ⟨w.heap.size, 3, none⟩ = some (.int .i64 s.cl) ∧ u.cell? ⟨w.heap.size + 1, 0, none⟩ = some (.int .i64 0) ∧ u.cell? ⟨w.heap.size + 1, 1, none⟩ = some (.int .i64 nn)) := fun u hu => by
    have y1 := x1.grew hu
    obtain ⟨b0, b1⟩ : CellsGd _ _ _ := (x2.grew hu).cells
    exact ⟨y1.cell 0, y1.cell 1, y1.cell 2, y1.cell 3, b0, b1⟩
  have HG : Hid (∀ w : World, Calls Tryz.prog 65 #[(.agg #[.int .i64 0, .int .i64 nn])] w fun e w' => e = .returned (.bool true) ∧ Below w.heap.size w w') := fun w => by have := specGuardOk_any (⟨0, nn⟩ : Gd) w; rw [hg] at this; exact this
  have HI : Hid (∀ w : World, Calls Tryz.prog 63 #[.int .i64 side, .int .i64 0, .int .i64 ((s.sn : Int) - 1)] w fun e w' => e = .returned (.bool true) ∧ w' = w) := fun w => by have := l1In_any side 0 ((s.sn : Int) - 1) w; rw [hi] at this; exact this
  clear hg
  obtain ⟨c0, c1, c2, c3, b0, b1⟩ := SK.out W (Below.refl _ _)
  clear x1 x2
  go_enter Tryz.func68, Tryz.ntmps68
  go_wp2_with fail
  refine (HG.out _).mono ?_
  rintro e v1 ⟨rfl, hb⟩
  have HB1 := below_app HB hb HB.size
  clear hW c0 c1 c2 c3 b0 b1
  obtain ⟨c0, c1, c2, c3, b0, b1⟩ := SK.out v1 hb
  have hsd := ib_bd hi
  clear hi
  go_wp2_with fail
  refine (HI.out _).mono ?_
  rintro e v2 ⟨rfl, rfl⟩
  go_wp2
  go_ret
  exact ⟨ret_bool' (by rw [HA.out]; rfl), HB1⟩
set_option maxHeartbeats 4000000 in
theorem hol_3 (s : Stt) (side : Int) (nn : Int) (w : World) (hok : s.ok w) (hn : s.pn ≤ 1048576) (hn2 : s.sn ≤ 1048576) (hg : okGd (⟨3, nn⟩ : Gd) = true) (hi : ib side 0 ((s.sn : Int) - 1) = true) : Calls Tryz.prog 68 #[(.agg #[.slice s.pa s.pn s.pcap, .slice s.sa s.sn s.scap, .int .i64 s.ac, .int .i64 s.cl]), .int .i64 side, (.agg #[.int .i64 3, .int .i64 nn])] w fun e w' => e = .returned (.bool (hdG s side (⟨3, nn⟩ : Gd))) ∧ Below w.heap.size w w' := by
  have HA : Hid (hdG s side (⟨3, nn⟩ : Gd) = hdK s side (⟨3, nn⟩ : Gd)) := by show hdG s side (⟨3, nn⟩ : Gd) = _; exact hdG_yes hg hi
  have HB := ((Below.refl _ w).alloc (Nat.le_refl _) (.cells #[.slice s.pa s.pn s.pcap, .slice s.sa s.sn s.scap, .int .i64 s.ac, .int .i64 s.cl] 37)).alloc (by simp) (.cells #[.int .i64 3, .int .i64 nn] 27)
  have x1 := (boxR_new w 37 #[.slice s.pa s.pn s.pcap, .slice s.sa s.sn s.scap, .int .i64 s.ac, .int .i64 s.cl]).alloc (.cells #[.int .i64 3, .int .i64 nn] 27)
  have x2 : BoxGd ((w.alloc (.cells #[.slice s.pa s.pn s.pcap, .slice s.sa s.sn s.scap, .int .i64 s.ac, .int .i64 s.cl] 37)).alloc (.cells #[.int .i64 3, .int .i64 nn] 27)) (w.heap.size + 1) 27 (⟨3, nn⟩ : Gd) := heap_alloc2_new _ _ _
  generalize hW : (w.alloc (.cells #[.slice s.pa s.pn s.pcap, .slice s.sa s.sn s.scap, .int .i64 s.ac, .int .i64 s.cl] 37)).alloc (.cells #[.int .i64 3, .int .i64 nn] 27) = W at HB x1 x2
  have SK : Hid (∀ u : World, Below W.heap.size W u → u.cell? ⟨w.heap.size, 0, none⟩ = some (.slice s.pa s.pn s.pcap) ∧ u.cell? ⟨w.heap.size, 1, none⟩ = some (.slice s.sa s.sn s.scap) ∧ u.cell? ⟨w.heap.size, 2, none⟩ = some (.int .i64 s.ac) ∧ u.cell? ⟨w.heap.size, 3, none⟩ = some (.int .i64 s.cl) ∧ u.cell? ⟨w.heap.size + 1, 0, none⟩ = some (.int .i64 3) ∧ u.cell? ⟨w.heap.size + 1, 1, none⟩ = some (.int .i64 nn)) := fun u hu => by
    have y1 := x1.grew hu
    obtain ⟨b0, b1⟩ : CellsGd _ _ _ := (x2.grew hu).cells
    exact ⟨y1.cell 0, y1.cell 1, y1.cell 2, y1.cell 3, b0, b1⟩
  have HG : Hid (∀ w : World, Calls Tryz.prog 65 #[(.agg #[.int .i64 3, .int .i64 nn])] w fun e w' => e = .returned (.bool true) ∧ Below w.heap.size w w') := fun w => by have := specGuardOk_any (⟨3, nn⟩ : Gd) w; rw [hg] at this; exact this
  have HI : Hid (∀ w : World, Calls Tryz.prog 63 #[.int .i64 side, .int .i64 0, .int .i64 ((s.sn : Int) - 1)] w fun e w' => e = .returned (.bool true) ∧ w' = w) := fun w => by have := l1In_any side 0 ((s.sn : Int) - 1) w; rw [hi] at this; exact this
  clear hg
  obtain ⟨c0, c1, c2, c3, b0, b1⟩ := SK.out W (Below.refl _ _)
  clear x1 x2
  go_enter Tryz.func68, Tryz.ntmps68
  go_wp2_with fail
  refine (HG.out _).mono ?_
  rintro e v1 ⟨rfl, hb⟩
  have HB1 := below_app HB hb HB.size
  clear hW c0 c1 c2 c3 b0 b1
  obtain ⟨c0, c1, c2, c3, b0, b1⟩ := SK.out v1 hb
  have hsd := ib_bd hi
  clear hi
  go_wp2_with fail
  refine (HI.out _).mono ?_
  rintro e v2 ⟨rfl, rfl⟩
  go_wp2
  go_ret
  exact ⟨ret_bool' (by rw [HA.out]; unfold hdK; first | rfl | (rw [Bool.eq_iff_iff]; simp)), HB1⟩
set_option maxHeartbeats 4000000 in
theorem hol_1 (s : Stt) (side : Int) (nn : Int) (w : World) (hok : s.ok w) (hn : s.pn ≤ 1048576) (hn2 : s.sn ≤ 1048576) (hg : okGd (⟨1, nn⟩ : Gd) = true) (hi : ib side 0 ((s.sn : Int) - 1) = true) : Calls Tryz.prog 68 #[(.agg #[.slice s.pa s.pn s.pcap, .slice s.sa s.sn s.scap, .int .i64 s.ac, .int .i64 s.cl]), .int .i64 side, (.agg #[.int .i64 1, .int .i64 nn])] w fun e w' => e = .returned (.bool (hdG s side (⟨1, nn⟩ : Gd))) ∧ Below w.heap.size w w' := by
  have HA : Hid (hdG s side (⟨1, nn⟩ : Gd) = hdK s side (⟨1, nn⟩ : Gd)) := by show hdG s side (⟨1, nn⟩ : Gd) = _; exact hdG_yes hg hi
  have HB := ((Below.refl _ w).alloc (Nat.le_refl _) (.cells #[.slice s.pa s.pn s.pcap, .slice s.sa s.sn s.scap, .int .i64 s.ac, .int .i64 s.cl] 37)).alloc (by simp) (.cells #[.int .i64 1, .int .i64 nn] 27)
  have x1 := (boxR_new w 37 #[.slice s.pa s.pn s.pcap, .slice s.sa s.sn s.scap, .int .i64 s.ac, .int .i64 s.cl]).alloc (.cells #[.int .i64 1, .int .i64 nn] 27)
  have x2 : BoxGd ((w.alloc (.cells #[.slice s.pa s.pn s.pcap, .slice s.sa s.sn s.scap, .int .i64 s.ac, .int .i64 s.cl] 37)).alloc (.cells #[.int .i64 1, .int .i64 nn] 27)) (w.heap.size + 1) 27 (⟨1, nn⟩ : Gd) := heap_alloc2_new _ _ _
  generalize hW : (w.alloc (.cells #[.slice s.pa s.pn s.pcap, .slice s.sa s.sn s.scap, .int .i64 s.ac, .int .i64 s.cl] 37)).alloc (.cells #[.int .i64 1, .int .i64 nn] 27) = W at HB x1 x2
  have SK : Hid (∀ u : World, Below W.heap.size W u → u.cell? ⟨w.heap.size, 0, none⟩ = some (.slice s.pa s.pn s.pcap) ∧ u.cell? ⟨w.heap.size, 1, none⟩ = some (.slice s.sa s.sn s.scap) ∧ u.cell? ⟨w.heap.size, 2, none⟩ = some (.int .i64 s.ac) ∧ u.cell? ⟨w.heap.size, 3, none⟩ = some (.int .i64 s.cl) ∧ u.cell? ⟨w.heap.size + 1, 0, none⟩ = some (.int .i64 1) ∧ u.cell? ⟨w.heap.size + 1, 1, none⟩ = some (.int .i64 nn)) := fun u hu => by
    have y1 := x1.grew hu
    obtain ⟨b0, b1⟩ : CellsGd _ _ _ := (x2.grew hu).cells
    exact ⟨y1.cell 0, y1.cell 1, y1.cell 2, y1.cell 3, b0, b1⟩
  have HG : Hid (∀ w : World, Calls Tryz.prog 65 #[(.agg #[.int .i64 1, .int .i64 nn])] w fun e w' => e = .returned (.bool true) ∧ Below w.heap.size w w') := fun w => by have := specGuardOk_any (⟨1, nn⟩ : Gd) w; rw [hg] at this; exact this
  have HI : Hid (∀ w : World, Calls Tryz.prog 63 #[.int .i64 side, .int .i64 0, .int .i64 ((s.sn : Int) - 1)] w fun e w' => e = .returned (.bool true) ∧ w' = w) := fun w => by have := l1In_any side 0 ((s.sn : Int) - 1) w; rw [hi] at this; exact this
  clear hg
  obtain ⟨c0, c1, c2, c3, b0, b1⟩ := SK.out W (Below.refl _ _)
  clear x1 x2
  go_enter Tryz.func68, Tryz.ntmps68
  go_wp2_with fail
  refine (HG.out _).mono ?_
  rintro e v1 ⟨rfl, hb⟩
  have HB1 := below_app HB hb HB.size
  clear hW c0 c1 c2 c3 b0 b1
  obtain ⟨c0, c1, c2, c3, b0, b1⟩ := SK.out v1 hb
  have hsd := ib_bd hi
  clear hi
  go_wp2_with fail
  refine (HI.out _).mono ?_
  rintro e v2 ⟨rfl, rfl⟩
  obtain ⟨k, rfl⟩ := Int.eq_ofNat_of_zero_le hsd.1
  have hlt : k < s.sn := by omega
  have r2 := hok.2.2.2.2.2.1
  rcases r2.grew sdC_ne HB1 with g2 | ⟨o2, hsa, g2⟩
  · omega
  have k0 := g2 k hlt 0 _ rfl
  rw [Nat.add_zero] at k0
  rw [hsa] at c1
  clear hsa g2 r2
  go_wp2_with fail
  go_region
  all_goals go_wp2
  all_goals go_ret
  all_goals exact ⟨ret_bool' (by rw [HA.out]; unfold hdK; first | rfl | simp), HB1.drew⟩
set_option maxHeartbeats 4000000 in
theorem hol_2 (s : Stt) (side : Int) (nn : Int) (w : World) (hok : s.ok w) (hn : s.pn ≤ 1048576) (hn2 : s.sn ≤ 1048576) (hg : okGd (⟨2, nn⟩ : Gd) = true) (hi : ib side 0 ((s.sn : Int) - 1) = true) : Calls Tryz.prog 68 #[(.agg #[.slice s.pa s.pn s.pcap, .slice s.sa s.sn s.scap, .int .i64 s.ac, .int .i64 s.cl]), .int .i64 side, (.agg #[.int .i64 2, .int .i64 nn])] w fun e w' => e = .returned (.bool (hdG s side (⟨2, nn⟩ : Gd))) ∧ Below w.heap.size w w' := by
  have HA : Hid (hdG s side (⟨2, nn⟩ : Gd) = hdK s side (⟨2, nn⟩ : Gd)) := by show hdG s side (⟨2, nn⟩ : Gd) = _; exact hdG_yes hg hi
  have HB := ((Below.refl _ w).alloc (Nat.le_refl _) (.cells #[.slice s.pa s.pn s.pcap, .slice s.sa s.sn s.scap, .int .i64 s.ac, .int .i64 s.cl] 37)).alloc (by simp) (.cells #[.int .i64 2, .int .i64 nn] 27)
  have x1 := (boxR_new w 37 #[.slice s.pa s.pn s.pcap, .slice s.sa s.sn s.scap, .int .i64 s.ac, .int .i64 s.cl]).alloc (.cells #[.int .i64 2, .int .i64 nn] 27)
  have x2 : BoxGd ((w.alloc (.cells #[.slice s.pa s.pn s.pcap, .slice s.sa s.sn s.scap, .int .i64 s.ac, .int .i64 s.cl] 37)).alloc (.cells #[.int .i64 2, .int .i64 nn] 27)) (w.heap.size + 1) 27 (⟨2, nn⟩ : Gd) := heap_alloc2_new _ _ _
  generalize hW : (w.alloc (.cells #[.slice s.pa s.pn s.pcap, .slice s.sa s.sn s.scap, .int .i64 s.ac, .int .i64 s.cl] 37)).alloc (.cells #[.int .i64 2, .int .i64 nn] 27) = W at HB x1 x2
  have SK : Hid (∀ u : World, Below W.heap.size W u → u.cell? ⟨w.heap.size, 0, none⟩ = some (.slice s.pa s.pn s.pcap) ∧ u.cell? ⟨w.heap.size, 1, none⟩ = some (.slice s.sa s.sn s.scap) ∧ u.cell? ⟨w.heap.size, 2, none⟩ = some (.int .i64 s.ac) ∧ u.cell? ⟨w.heap.size, 3, none⟩ = some (.int .i64 s.cl) ∧ u.cell? ⟨w.heap.size + 1, 0, none⟩ = some (.int .i64 2) ∧ u.cell? ⟨w.heap.size + 1, 1, none⟩ = some (.int .i64 nn)) := fun u hu => by
    have y1 := x1.grew hu
    obtain ⟨b0, b1⟩ : CellsGd _ _ _ := (x2.grew hu).cells
    exact ⟨y1.cell 0, y1.cell 1, y1.cell 2, y1.cell 3, b0, b1⟩
  have HG : Hid (∀ w : World, Calls Tryz.prog 65 #[(.agg #[.int .i64 2, .int .i64 nn])] w fun e w' => e = .returned (.bool true) ∧ Below w.heap.size w w') := fun w => by have := specGuardOk_any (⟨2, nn⟩ : Gd) w; rw [hg] at this; exact this
  have HI : Hid (∀ w : World, Calls Tryz.prog 63 #[.int .i64 side, .int .i64 0, .int .i64 ((s.sn : Int) - 1)] w fun e w' => e = .returned (.bool true) ∧ w' = w) := fun w => by have := l1In_any side 0 ((s.sn : Int) - 1) w; rw [hi] at this; exact this
  clear hg
  obtain ⟨c0, c1, c2, c3, b0, b1⟩ := SK.out W (Below.refl _ _)
  clear x1 x2
  go_enter Tryz.func68, Tryz.ntmps68
  go_wp2_with fail
  refine (HG.out _).mono ?_
  rintro e v1 ⟨rfl, hb⟩
  have HB1 := below_app HB hb HB.size
  clear hW c0 c1 c2 c3 b0 b1
  obtain ⟨c0, c1, c2, c3, b0, b1⟩ := SK.out v1 hb
  have hsd := ib_bd hi
  clear hi
  go_wp2_with fail
  refine (HI.out _).mono ?_
  rintro e v2 ⟨rfl, rfl⟩
  have okK : ∀ u : World, Below W.heap.size W u → s.ok u := fun u hu => stt_grew hok (below_app HB hu HB.size)
  have hD : Below W.heap.size W v2.drew := hb.drew
  clear c0 c1 c2 c3 b0 b1
  have hm : mnG s side ≤ s.pn := cnG_le _ _ _
  obtain ⟨c0, c1, c2, c3, b0, b1⟩ := SK.out v2 hb
  go_wp2_with fail
  go_region_held (fun u : World => u.cell? ⟨w.heap.size, 0, none⟩ = some (.slice s.pa s.pn s.pcap) ∧ u.cell? ⟨w.heap.size, 1, none⟩ = some (.slice s.sa s.sn s.scap) ∧ u.cell? ⟨w.heap.size, 2, none⟩ = some (.int .i64 s.ac) ∧ u.cell? ⟨w.heap.size, 3, none⟩ = some (.int .i64 s.cl) ∧ u.cell? ⟨w.heap.size + 1, 0, none⟩ = some (.int .i64 2) ∧ u.cell? ⟨w.heap.size + 1, 1, none⟩ = some (.int .i64 nn)) (first | (refine SK.out _ ?_; first | with_reducible exact hD | with_reducible exact hq)) ((go_at_call 112; refine (specL8Many_any s side _ (okK _ hD) hn).mono ?_; rintro e v3 ⟨rfl, hb3⟩; have hq : Below W.heap.size W v3 := below_app hD hb3 hD.size))
  all_goals go_wp2
  all_goals go_ret
  all_goals exact ⟨ret_bool' (by rw [HA.out]; unfold hdK; first | rfl | simp), below_app HB hq HB.size⟩
set_option maxHeartbeats 4000000 in
theorem hol_4 (s : Stt) (side : Int) (nn : Int) (w : World) (hok : s.ok w) (hn : s.pn ≤ 1048576) (hn2 : s.sn ≤ 1048576) (hg : okGd (⟨4, nn⟩ : Gd) = true) (hi : ib side 0 ((s.sn : Int) - 1) = true) : Calls Tryz.prog 68 #[(.agg #[.slice s.pa s.pn s.pcap, .slice s.sa s.sn s.scap, .int .i64 s.ac, .int .i64 s.cl]), .int .i64 side, (.agg #[.int .i64 4, .int .i64 nn])] w fun e w' => e = .returned (.bool (hdG s side (⟨4, nn⟩ : Gd))) ∧ Below w.heap.size w w' := by
  have HA : Hid (hdG s side (⟨4, nn⟩ : Gd) = hdK s side (⟨4, nn⟩ : Gd)) := by show hdG s side (⟨4, nn⟩ : Gd) = _; exact hdG_yes hg hi
  have HB := ((Below.refl _ w).alloc (Nat.le_refl _) (.cells #[.slice s.pa s.pn s.pcap, .slice s.sa s.sn s.scap, .int .i64 s.ac, .int .i64 s.cl] 37)).alloc (by simp) (.cells #[.int .i64 4, .int .i64 nn] 27)
  have x1 := (boxR_new w 37 #[.slice s.pa s.pn s.pcap, .slice s.sa s.sn s.scap, .int .i64 s.ac, .int .i64 s.cl]).alloc (.cells #[.int .i64 4, .int .i64 nn] 27)
  have x2 : BoxGd ((w.alloc (.cells #[.slice s.pa s.pn s.pcap, .slice s.sa s.sn s.scap, .int .i64 s.ac, .int .i64 s.cl] 37)).alloc (.cells #[.int .i64 4, .int .i64 nn] 27)) (w.heap.size + 1) 27 (⟨4, nn⟩ : Gd) := heap_alloc2_new _ _ _
  generalize hW : (w.alloc (.cells #[.slice s.pa s.pn s.pcap, .slice s.sa s.sn s.scap, .int .i64 s.ac, .int .i64 s.cl] 37)).alloc (.cells #[.int .i64 4, .int .i64 nn] 27) = W at HB x1 x2
  have SK : Hid (∀ u : World, Below W.heap.size W u → u.cell? ⟨w.heap.size, 0, none⟩ = some (.slice s.pa s.pn s.pcap) ∧ u.cell? ⟨w.heap.size, 1, none⟩ = some (.slice s.sa s.sn s.scap) ∧ u.cell? ⟨w.heap.size, 2, none⟩ = some (.int .i64 s.ac) ∧ u.cell? ⟨w.heap.size, 3, none⟩ = some (.int .i64 s.cl) ∧ u.cell? ⟨w.heap.size + 1, 0, none⟩ = some (.int .i64 4) ∧ u.cell? ⟨w.heap.size + 1, 1, none⟩ = some (.int .i64 nn)) := fun u hu => by
    have y1 := x1.grew hu
    obtain ⟨b0, b1⟩ : CellsGd _ _ _ := (x2.grew hu).cells
    exact ⟨y1.cell 0, y1.cell 1, y1.cell 2, y1.cell 3, b0, b1⟩
  have HG : Hid (∀ w : World, Calls Tryz.prog 65 #[(.agg #[.int .i64 4, .int .i64 nn])] w fun e w' => e = .returned (.bool true) ∧ Below w.heap.size w w') := fun w => by have := specGuardOk_any (⟨4, nn⟩ : Gd) w; rw [hg] at this; exact this
  have HI : Hid (∀ w : World, Calls Tryz.prog 63 #[.int .i64 side, .int .i64 0, .int .i64 ((s.sn : Int) - 1)] w fun e w' => e = .returned (.bool true) ∧ w' = w) := fun w => by have := l1In_any side 0 ((s.sn : Int) - 1) w; rw [hi] at this; exact this
  clear hg
  obtain ⟨c0, c1, c2, c3, b0, b1⟩ := SK.out W (Below.refl _ _)
  clear x1 x2
  go_enter Tryz.func68, Tryz.ntmps68
  go_wp2_with fail
  refine (HG.out _).mono ?_
  rintro e v1 ⟨rfl, hb⟩
  have HB1 := below_app HB hb HB.size
  clear hW c0 c1 c2 c3 b0 b1
  obtain ⟨c0, c1, c2, c3, b0, b1⟩ := SK.out v1 hb
  have hsd := ib_bd hi
  clear hi
  go_wp2_with fail
  refine (HI.out _).mono ?_
  rintro e v2 ⟨rfl, rfl⟩
  have okK : ∀ u : World, Below W.heap.size W u → s.ok u := fun u hu => stt_grew hok (below_app HB hu HB.size)
  have hD : Below W.heap.size W v2.drew := hb.drew
  clear c0 c1 c2 c3 b0 b1
  have hm : bnG s side ≤ s.pn := cnG_le _ _ _
  obtain ⟨c0, c1, c2, c3, b0, b1⟩ := SK.out v2 hb
  go_wp2_with fail
  go_region_held (fun u : World => u.cell? ⟨w.heap.size, 0, none⟩ = some (.slice s.pa s.pn s.pcap) ∧ u.cell? ⟨w.heap.size, 1, none⟩ = some (.slice s.sa s.sn s.scap) ∧ u.cell? ⟨w.heap.size, 2, none⟩ = some (.int .i64 s.ac) ∧ u.cell? ⟨w.heap.size, 3, none⟩ = some (.int .i64 s.cl) ∧ u.cell? ⟨w.heap.size + 1, 0, none⟩ = some (.int .i64 4) ∧ u.cell? ⟨w.heap.size + 1, 1, none⟩ = some (.int .i64 nn)) (first | (refine SK.out _ ?_; first | with_reducible exact hD | with_reducible exact hq)) ((go_at_call 113; refine (specBentOf_any s side _ (okK _ hD) hn).mono ?_; rintro e v3 ⟨rfl, hb3⟩; have hq : Below W.heap.size W v3 := below_app hD hb3 hD.size))
  all_goals go_wp2
  all_goals go_ret
  all_goals exact ⟨ret_bool' (by rw [HA.out]; unfold hdK; first | rfl | simp), below_app HB hq HB.size⟩
theorem specHolds_any (s : Stt) (side : Int) (g : Gd) (w : World) (hok : s.ok w) (hn : s.pn ≤ 1048576) (hn2 : s.sn ≤ 1048576) : Calls Tryz.prog 68 #[(.agg #[.slice s.pa s.pn s.pcap, .slice s.sa s.sn s.scap, .int .i64 s.ac, .int .i64 s.cl]), .int .i64 side, (.agg #[.int .i64 g.kd, .int .i64 g.nn])] w fun e w' => e = .returned (.bool (hdG s side g)) ∧ Below w.heap.size w w' := by
  cases hg : okGd g
  case false => exact hol_g s side g w hok hn hn2 hg
  cases hi : ib side 0 ((s.sn : Int) - 1)
  case false => exact hol_i s side g w hok hn hn2 hg hi
  obtain ⟨kd, nn⟩ := g
  have hk := okGd_kd hg
  dsimp only at hk
  rcases hk with rfl | rfl | rfl | rfl | rfl
  · exact hol_0 s side nn w hok hn hn2 hg hi
  · exact hol_1 s side nn w hok hn hn2 hg hi
  · exact hol_2 s side nn w hok hn hn2 hg hi
  · exact hol_3 s side nn w hok hn hn2 hg hi
  · exact hol_4 s side nn w hok hn hn2 hg hi
end Go.Proofs.YtodfdfncdoliiadGreat
