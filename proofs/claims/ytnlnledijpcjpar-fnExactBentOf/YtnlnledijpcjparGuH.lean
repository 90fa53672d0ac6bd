/-
  Chapter 8, the program: Holds. Written by tools/guf.gen.py. Own work.
-/
import Derived.Test.YtnlnledijpcjparGuG
namespace Go.Proofs.Ytnlnledijpcjpar
open Go.ChangeShapes Go.WideShapes Go.ChangeAt Go.RowKit
set_option maxRecDepth 100000
set_option linter.unusedVariables false
set_option linter.unusedSimpArgs false

set_option maxHeartbeats 4000000 in
theorem ihol_g (s : Stt) (side : Int) (g : Gd) (w : World) (hok : s.ok w) (hn : s.pn ≤ 1048576) (hn2 : s.sn ≤ 1048576) (hg : okGd g = false) (hi : ib side 0 ((s.sn : Int) - 1) = ib side 0 ((s.sn : Int) - 1)) : Calls Try.prog 14 #[(.agg #[.slice s.pa s.pn s.pcap, .slice s.sa s.sn s.scap, .int .i64 s.ac, .int .i64 s.cl]), .int .i64 side, (.agg #[.int .i64 g.kd, .int .i64 g.nn])] w fun e w' => e = .returned (.bool (hdG s side g)) ∧ Below w.heap.size w w' := by
  have HA : Hid (hdG s side g = false) := by show hdG s side g = _; exact hdG_no (.inl hg)
  have HB := ((Below.refl _ w).alloc (Nat.le_refl _) (.cells #[.slice s.pa s.pn s.pcap, .slice s.sa s.sn s.scap, .int .i64 s.ac, .int .i64 s.cl] 37)).alloc (by simp) (.cells #[.int .i64 g.kd, .int .i64 g.nn] 25)
  have x1 := (boxR_new w 37 #[.slice s.pa s.pn s.pcap, .slice s.sa s.sn s.scap, .int .i64 s.ac, .int .i64 s.cl]).alloc (.cells #[.int .i64 g.kd, .int .i64 g.nn] 25)
  have x2 : BoxGd ((w.alloc (.cells #[.slice s.pa s.pn s.pcap, .slice s.sa s.sn s.scap, .int .i64 s.ac, .int .i64 s.cl] 37)).alloc (.cells #[.int .i64 g.kd, .int .i64 g.nn] 25)) (w.heap.size + 1) 25 g := heap_alloc2_new _ _ _
  generalize hW : (w.alloc (.cells #[.slice s.pa s.pn s.pcap, .slice s.sa s.sn s.scap, .int .i64 s.ac, .int .i64 s.cl] 37)).alloc (.cells #[.int .i64 g.kd, .int .i64 g.nn] 25) = W at HB x1 x2
  have SK : Hid (∀ u : World, Below W.heap.size W u → u.cell? ⟨w.heap.size, 0, none⟩ = some (.slice s.pa s.pn s.pcap) ∧ u.cell? ⟨w.heap.size, 1, none⟩ = some (.slice s.sa s.sn s.scap) ∧ u.cell? ⟨w.heap.size, 2, none⟩ = some (.int .i64 s.ac) ∧ u.cell? ⟨w.heap.size, 3, none⟩ = some (.int .i64 s.cl) ∧ u.cell? ⟨w.heap.size + 1, 0, none⟩ = some (.int .i64 g.kd) ∧ u.cell? ⟨w.heap.size + 1, 1, none⟩ = some (.int .i64 g.nn)) := fun u hu => by
    have y1 := x1.grew hu
    obtain ⟨b0, b1⟩ : CellsGd _ _ _ := (x2.grew hu).cells
    exact ⟨y1.cell 0, y1.cell 1, y1.cell 2, y1.cell 3, b0, b1⟩
  have HR : Hid (∀ w : World, Calls Try.prog 26 #[(.agg #[.int .i64 g.kd, .int .i64 g.nn])] w fun e w' => e = .returned (.tuple #[.agg #[.int .i64 (rlo (rlK g)), .int .i64 (rhi (rlK g)), rfn (rlK g)], .bool false]) ∧ Below w.heap.size w w') := fun w => by have := rightRule_any g w; rw [hg] at this; exact this
  have HI : Hid (∀ w : World, Calls Try.prog 32 #[(.agg #[.slice s.pa s.pn s.pcap, .slice s.sa s.sn s.scap, .int .i64 s.ac, .int .i64 s.cl]), .int .i64 side] w fun e w' => e = .returned (.bool (ib side 0 ((s.sn : Int) - 1))) ∧ Below w.heap.size w w') := fun w => by have := hasSide_any s side w (by omega); rw [hi] at this; exact this
  have okK : Hid (∀ u : World, Below W.heap.size W u → s.ok u) := fun u hu => stt_grew hok (below_app HB hu HB.size)
  clear hg
  obtain ⟨c0, c1, c2, c3, b0, b1⟩ := SK.out W (Below.refl _ _)
  clear x1 x2 hok
  go_enter Try.func14, Try.ntmps14
  go_wp2_with fail
  refine (HR.out _).mono ?_
  rintro e v1 ⟨rfl, hb⟩
  clear hW c0 c1 c2 c3 b0 b1
  have hY : ∃ Y, Y = (v1.alloc (.cells #[.int .i64 0, .int .i64 0, .nilFunc] 59)).setRow v1.heap.size #[.int .i64 (rlo (rlK g)), .int .i64 (rhi (rlK g)), rfn (rlK g)] := ⟨_, rfl⟩
  obtain ⟨Y, hY⟩ := hY
  have hbY : Below W.heap.size W Y := by rw [hY]; exact below_setRow (hb.alloc hb.size _) hb.size _
  have y3 : BoxR Y v1.heap.size 59 #[.int .i64 (rlo (rlK g)), .int .i64 (rhi (rlK g)), rfn (rlK g)] := by rw [hY]; exact (boxR_new v1 _ _).rowNew
  have HBY := below_app HB hbY HB.size
  obtain ⟨c0, c1, c2, c3, b0, b1⟩ := SK.out Y hbY
  go_wp2_with (refine wpList_store_row rfl 59 (.tmp 7) _ rfl v1.heap.size #[.int .i64 (rlo (rlK g)), .int .i64 (rhi (rlK g)), rfn (rlK g)] (by rfl) (by rfl) _ _ (heap_alloc_new v1 _) (by kernel_rfl) (by rfl) (rule_one _ _ _) ?_; rw [← hY]; clear hY; (try simp only [Act.put, List.setIfInBounds_toArray, List.set_cons_zero, List.set_cons_succ]))
  go_ret
  exact ⟨ret_bool' HA.out.symm, HBY⟩
set_option maxHeartbeats 4000000 in
theorem ihol_i (s : Stt) (side : Int) (g : Gd) (w : World) (hok : s.ok w) (hn : s.pn ≤ 1048576) (hn2 : s.sn ≤ 1048576) (hg : okGd g = true) (hi : ib side 0 ((s.sn : Int) - 1) = false) : Calls Try.prog 14 #[(.agg #[.slice s.pa s.pn s.pcap, .slice s.sa s.sn s.scap, .int .i64 s.ac, .int .i64 s.cl]), .int .i64 side, (.agg #[.int .i64 g.kd, .int .i64 g.nn])] w fun e w' => e = .returned (.bool (hdG s side g)) ∧ Below w.heap.size w w' := by
  have HA : Hid (hdG s side g = false) := by show hdG s side g = _; exact hdG_no (.inr hi)
  have HB := ((Below.refl _ w).alloc (Nat.le_refl _) (.cells #[.slice s.pa s.pn s.pcap, .slice s.sa s.sn s.scap, .int .i64 s.ac, .int .i64 s.cl] 37)).alloc (by simp) (.cells #[.int .i64 g.kd, .int .i64 g.nn] 25)
  have x1 := (boxR_new w 37 #[.slice s.pa s.pn s.pcap, .slice s.sa s.sn s.scap, .int .i64 s.ac, .int .i64 s.cl]).alloc (.cells #[.int .i64 g.kd, .int .i64 g.nn] 25)
  have x2 : BoxGd ((w.alloc (.cells #[.slice s.pa s.pn s.pcap, .slice s.sa s.sn s.scap, .int .i64 s.ac, .int .i64 s.cl] 37)).alloc (.cells #[.int .i64 g.kd, .int .i64 g.nn] 25)) (w.heap.size + 1) 25 g := heap_alloc2_new _ _ _
  generalize hW : (w.alloc (.cells #[.slice s.pa s.pn s.pcap, .slice s.sa s.sn s.scap, .int .i64 s.ac, .int .i64 s.cl] 37)).alloc (.cells #[.int .i64 g.kd, .int .i64 g.nn] 25) = W at HB x1 x2
  have SK : Hid (∀ u : World, Below W.heap.size W u → u.cell? ⟨w.heap.size, 0, none⟩ = some (.slice s.pa s.pn s.pcap) ∧ u.cell? ⟨w.heap.size, 1, none⟩ = some (.slice s.sa s.sn s.scap) ∧ u.cell? ⟨w.heap.size, 2, none⟩ = some (.int .i64 s.ac) ∧ u.cell? ⟨w.heap.size, 3, none⟩ = some (.int .i64 s.cl) ∧ u.cell? ⟨w.heap.size + 1, 0, none⟩ = some (.int .i64 g.kd) ∧ u.cell? ⟨w.heap.size + 1, 1, none⟩ = some (.int .i64 g.nn)) := fun u hu => by
    have y1 := x1.grew hu
    obtain ⟨b0, b1⟩ : CellsGd _ _ _ := (x2.grew hu).cells
    exact ⟨y1.cell 0, y1.cell 1, y1.cell 2, y1.cell 3, b0, b1⟩
  have HR : Hid (∀ w : World, Calls Try.prog 26 #[(.agg #[.int .i64 g.kd, .int .i64 g.nn])] w fun e w' => e = .returned (.tuple #[.agg #[.int .i64 (rlo (rlK g)), .int .i64 (rhi (rlK g)), rfn (rlK g)], .bool true]) ∧ Below w.heap.size w w') := fun w => by have := rightRule_any g w; rw [hg] at this; exact this
  have HI : Hid (∀ w : World, Calls Try.prog 32 #[(.agg #[.slice s.pa s.pn s.pcap, .slice s.sa s.sn s.scap, .int .i64 s.ac, .int .i64 s.cl]), .int .i64 side] w fun e w' => e = .returned (.bool false) ∧ Below w.heap.size w w') := fun w => by have := hasSide_any s side w (by omega); rw [hi] at this; exact this
  have okK : Hid (∀ u : World, Below W.heap.size W u → s.ok u) := fun u hu => stt_grew hok (below_app HB hu HB.size)
  clear hg
  obtain ⟨c0, c1, c2, c3, b0, b1⟩ := SK.out W (Below.refl _ _)
  clear x1 x2 hok
  go_enter Try.func14, Try.ntmps14
  go_wp2_with fail
  refine (HR.out _).mono ?_
  rintro e v1 ⟨rfl, hb⟩
  clear hW c0 c1 c2 c3 b0 b1
  have hY : ∃ Y, Y = (v1.alloc (.cells #[.int .i64 0, .int .i64 0, .nilFunc] 59)).setRow v1.heap.size #[.int .i64 (rlo (rlK g)), .int .i64 (rhi (rlK g)), rfn (rlK g)] := ⟨_, rfl⟩
  obtain ⟨Y, hY⟩ := hY
  have hbY : Below W.heap.size W Y := by rw [hY]; exact below_setRow (hb.alloc hb.size _) hb.size _
  have y3 : BoxR Y v1.heap.size 59 #[.int .i64 (rlo (rlK g)), .int .i64 (rhi (rlK g)), rfn (rlK g)] := by rw [hY]; exact (boxR_new v1 _ _).rowNew
  have HBY := below_app HB hbY HB.size
  obtain ⟨c0, c1, c2, c3, b0, b1⟩ := SK.out Y hbY
  go_wp2_with (refine wpList_store_row rfl 59 (.tmp 7) _ rfl v1.heap.size #[.int .i64 (rlo (rlK g)), .int .i64 (rhi (rlK g)), rfn (rlK g)] (by rfl) (by rfl) _ _ (heap_alloc_new v1 _) (by kernel_rfl) (by rfl) (rule_one _ _ _) ?_; rw [← hY]; clear hY; (try simp only [Act.put, List.setIfInBounds_toArray, List.set_cons_zero, List.set_cons_succ]))
  refine (HI.out _).mono ?_
  rintro e v2 ⟨rfl, hb2⟩
  have hbV := below_app hbY hb2 hbY.size
  have HBV := below_app HB hbV HB.size
  clear c0 c1 c2 c3 b0 b1
  go_wp2
  go_ret
  exact ⟨ret_bool' HA.out.symm, HBV⟩
set_option maxHeartbeats 4000000 in
theorem ihol_0 (s : Stt) (side : Int) (nn : Int) (w : World) (hok : s.ok w) (hn : s.pn ≤ 1048576) (hn2 : s.sn ≤ 1048576) (hg : okGd (⟨0, nn⟩ : Gd) = true) (hi : ib side 0 ((s.sn : Int) - 1) = true) : Calls Try.prog 14 #[(.agg #[.slice s.pa s.pn s.pcap, .slice s.sa s.sn s.scap, .int .i64 s.ac, .int .i64 s.cl]), .int .i64 side, (.agg #[.int .i64 0, .int .i64 nn])] w fun e w' => e = .returned (.bool (hdG s side (⟨0, nn⟩ : Gd))) ∧ Below w.heap.size w w' := by
  have HA : Hid (hdG s side (⟨0, nn⟩ : Gd) = hdK s side (⟨0, nn⟩ : Gd)) := by show hdG s side (⟨0, nn⟩ : Gd) = _; exact hdG_yes hg hi
  have HB := ((Below.refl _ w).alloc (Nat.le_refl _) (.cells #[.slice s.pa s.pn s.pcap, .slice s.sa s.sn s.scap, .int .i64 s.ac, .int .i64 s.cl] 37)).alloc (by simp) (.cells #[.int .i64 0, .int .i64 nn] 25)
  have x1 := (boxR_new w 37 #[.slice s.pa s.pn s.pcap, .slice s.sa s.sn s.scap, .int .i64 s.ac, .int .i64 s.cl]).alloc (.cells #[.int .i64 0, .int .i64 nn] 25)
  have x2 : BoxGd ((w.alloc (.cells #[.slice s.pa s.pn s.pcap, .slice s.sa s.sn s.scap, .int .i64 s.ac, .int .i64 s.cl] 37)).alloc (.cells #[.int .i64 0, .int .i64 nn] 25)) (w.heap.size + 1) 25 (⟨0, nn⟩ : Gd) := heap_alloc2_new _ _ _
  generalize hW : (w.alloc (.cells #[.slice s.pa s.pn s.pcap, .slice s.sa s.sn s.scap, .int .i64 s.ac, .int .i64 s.cl] 37)).alloc (.cells #[.int .i64 0, .int .i64 nn] 25) = W at HB x1 x2
  have SK : Hid (∀ u : World, Below W.heap.size W u → u.cell? ⟨w.heap.size, 0, none⟩ = some (.slice s.pa s.pn s.pcap) ∧ u.cell? ⟨w.heap.size, 1, none⟩ = some (.slice s.sa s.sn s.scap) ∧ u.cell? ⟨w.heap.size, 2, none⟩ = some (.int .i64 s.ac) ∧ u.cell? ⟨w.heap.size, 3, none⟩ = some (.int .i64 s.cl) ∧ u.cell? ⟨w.heap.size + 1, 0, none⟩ = some (.int .i64 0) ∧ u.cell? ⟨w.heap.size + 1, 1, none⟩ = some (.int .i64 nn)) := fun u hu => by
    have y1 := x1.grew hu
    obtain ⟨b0, b1⟩ : CellsGd _ _ _ := (x2.grew hu).cells
    exact ⟨y1.cell 0, y1.cell 1, y1.cell 2, y1.cell 3, b0, b1⟩
  have HR : Hid (∀ w : World, Calls Try.prog 26 #[(.agg #[.int .i64 0, .int .i64 nn])] w fun e w' => e = .returned (.tuple #[.agg #[.int .i64 0, .int .i64 0, .func (.func 41) #[] #[]], .bool true]) ∧ Below w.heap.size w w') := fun w => by have := rightRule_any (⟨0, nn⟩ : Gd) w; rw [hg] at this; exact this
  have HI : Hid (∀ w : World, Calls Try.prog 32 #[(.agg #[.slice s.pa s.pn s.pcap, .slice s.sa s.sn s.scap, .int .i64 s.ac, .int .i64 s.cl]), .int .i64 side] w fun e w' => e = .returned (.bool true) ∧ Below w.heap.size w w') := fun w => by have := hasSide_any s side w (by omega); rw [hi] at this; exact this
  have okK : Hid (∀ u : World, Below W.heap.size W u → s.ok u) := fun u hu => stt_grew hok (below_app HB hu HB.size)
  clear hg
  obtain ⟨c0, c1, c2, c3, b0, b1⟩ := SK.out W (Below.refl _ _)
  clear x1 x2 hok
  go_enter Try.func14, Try.ntmps14
  go_wp2_with fail
  refine (HR.out _).mono ?_
  rintro e v1 ⟨rfl, hb⟩
  clear hW c0 c1 c2 c3 b0 b1
  have hY : ∃ Y, Y = (v1.alloc (.cells #[.int .i64 0, .int .i64 0, .nilFunc] 59)).setRow v1.heap.size #[.int .i64 0, .int .i64 0, .func (.func 41) #[] #[]] := ⟨_, rfl⟩
  obtain ⟨Y, hY⟩ := hY
  have hbY : Below W.heap.size W Y := by rw [hY]; exact below_setRow (hb.alloc hb.size _) hb.size _
  have y3 : BoxR Y v1.heap.size 59 #[.int .i64 0, .int .i64 0, .func (.func 41) #[] #[]] := by rw [hY]; exact (boxR_new v1 _ _).rowNew
  have HBY := below_app HB hbY HB.size
  obtain ⟨c0, c1, c2, c3, b0, b1⟩ := SK.out Y hbY
  go_wp2_with (refine wpList_store_row rfl 59 (.tmp 7) _ rfl v1.heap.size #[.int .i64 0, .int .i64 0, .func (.func 41) #[] #[]] (by rfl) (by rfl) _ _ (heap_alloc_new v1 _) (by kernel_rfl) (by rfl) (by simp [Value.oneCell']) ?_; rw [← hY]; clear hY; (try simp only [Act.put, List.setIfInBounds_toArray, List.set_cons_zero, List.set_cons_succ]))
  have hsd : Hid (0 ≤ side ∧ side ≤ (s.sn : Int) - 1) := ib_bd hi
  have hsn : Hid (side ≠ -1) := by show side ≠ -1; have := hsd.out; omega
  clear hi
  refine (HI.out _).mono ?_
  rintro e v2 ⟨rfl, hb2⟩
  have hbV := below_app hbY hb2 hbY.size
  have HBV := below_app HB hbV HB.size
  clear c0 c1 c2 c3 b0 b1
  obtain ⟨c0, c1, c2, c3, b0, b1⟩ := SK.out v2 hbV
  have f2 := (y3.grew hb2).cell 2
  simp at f2
  have hen : ∀ (args : Array Value) (w : World), (callFunc 41 args).run Try.prog w = .ok (.enter 41 args) w := enters_of Try.func41 (by kernel_rfl) rfl
  go_wp2_with fail
  refine (asksNothing_any ⟨0, nn⟩ s side _).mono ?_
  rintro e v3 ⟨rfl, hb3⟩
  have HBW := below_app HBV hb3 HBV.size
  clear c0 c1 c2 c3 b0 b1 f2
  go_wp2
  go_ret
  exact ⟨ret_bool' (by rw [HA.out]; rfl), HBW⟩
set_option maxHeartbeats 4000000 in
theorem ihol_1 (s : Stt) (side : Int) (nn : Int) (w : World) (hok : s.ok w) (hn : s.pn ≤ 1048576) (hn2 : s.sn ≤ 1048576) (hg : okGd (⟨1, nn⟩ : Gd) = true) (hi : ib side 0 ((s.sn : Int) - 1) = true) : Calls Try.prog 14 #[(.agg #[.slice s.pa s.pn s.pcap, .slice s.sa s.sn s.scap, .int .i64 s.ac, .int .i64 s.cl]), .int .i64 side, (.agg #[.int .i64 1, .int .i64 nn])] w fun e w' => e = .returned (.bool (hdG s side (⟨1, nn⟩ : Gd))) ∧ Below w.heap.size w w' := by
  have HA : Hid (hdG s side (⟨1, nn⟩ : Gd) = hdK s side (⟨1, nn⟩ : Gd)) := by show hdG s side (⟨1, nn⟩ : Gd) = _; exact hdG_yes hg hi
  have HB := ((Below.refl _ w).alloc (Nat.le_refl _) (.cells #[.slice s.pa s.pn s.pcap, .slice s.sa s.sn s.scap, .int .i64 s.ac, .int .i64 s.cl] 37)).alloc (by simp) (.cells #[.int .i64 1, .int .i64 nn] 25)
  have x1 := (boxR_new w 37 #[.slice s.pa s.pn s.pcap, .slice s.sa s.sn s.scap, .int .i64 s.ac, .int .i64 s.cl]).alloc (.cells #[.int .i64 1, .int .i64 nn] 25)
  have x2 : BoxGd ((w.alloc (.cells #[.slice s.pa s.pn s.pcap, .slice s.sa s.sn s.scap, .int .i64 s.ac, .int .i64 s.cl] 37)).alloc (.cells #[.int .i64 1, .int .i64 nn] 25)) (w.heap.size + 1) 25 (⟨1, nn⟩ : Gd) := heap_alloc2_new _ _ _
  generalize hW : (w.alloc (.cells #[.slice s.pa s.pn s.pcap, .slice s.sa s.sn s.scap, .int .i64 s.ac, .int .i64 s.cl] 37)).alloc (.cells #[.int .i64 1, .int .i64 nn] 25) = W at HB x1 x2
  have SK : Hid (∀ u : World, Below W.heap.size W u → u.cell? ⟨w.heap.size, 0, none⟩ = some (.slice s.pa s.pn s.pcap) ∧ u.cell? ⟨w.heap.size, 1, none⟩ = some (.slice s.sa s.sn s.scap) ∧ u.cell? ⟨w.heap.size, 2, none⟩ = some (.int .i64 s.ac) ∧ u.cell? ⟨w.heap.size, 3, none⟩ = some (.int .i64 s.cl) ∧ u.cell? ⟨w.heap.size + 1, 0, none⟩ = some (.int .i64 1) ∧ u.cell? ⟨w.heap.size + 1, 1, none⟩ = some (.int .i64 nn)) := fun u hu => by
    have y1 := x1.grew hu
    obtain ⟨b0, b1⟩ : CellsGd _ _ _ := (x2.grew hu).cells
    exact ⟨y1.cell 0, y1.cell 1, y1.cell 2, y1.cell 3, b0, b1⟩
  have HR : Hid (∀ w : World, Calls Try.prog 26 #[(.agg #[.int .i64 1, .int .i64 nn])] w fun e w' => e = .returned (.tuple #[.agg #[.int .i64 (-2147483647), .int .i64 2147483647, .func (.func 42) #[] #[]], .bool true]) ∧ Below w.heap.size w w') := fun w => by have := rightRule_any (⟨1, nn⟩ : Gd) w; rw [hg] at this; exact this
  have HI : Hid (∀ w : World, Calls Try.prog 32 #[(.agg #[.slice s.pa s.pn s.pcap, .slice s.sa s.sn s.scap, .int .i64 s.ac, .int .i64 s.cl]), .int .i64 side] w fun e w' => e = .returned (.bool true) ∧ Below w.heap.size w w') := fun w => by have := hasSide_any s side w (by omega); rw [hi] at this; exact this
  have okK : Hid (∀ u : World, Below W.heap.size W u → s.ok u) := fun u hu => stt_grew hok (below_app HB hu HB.size)
  clear hg
  obtain ⟨c0, c1, c2, c3, b0, b1⟩ := SK.out W (Below.refl _ _)
  clear x1 x2 hok
  go_enter Try.func14, Try.ntmps14
  go_wp2_with fail
  refine (HR.out _).mono ?_
  rintro e v1 ⟨rfl, hb⟩
  clear hW c0 c1 c2 c3 b0 b1
  have hY : ∃ Y, Y = (v1.alloc (.cells #[.int .i64 0, .int .i64 0, .nilFunc] 59)).setRow v1.heap.size #[.int .i64 (-2147483647), .int .i64 2147483647, .func (.func 42) #[] #[]] := ⟨_, rfl⟩
  obtain ⟨Y, hY⟩ := hY
  have hbY : Below W.heap.size W Y := by rw [hY]; exact below_setRow (hb.alloc hb.size _) hb.size _
  have y3 : BoxR Y v1.heap.size 59 #[.int .i64 (-2147483647), .int .i64 2147483647, .func (.func 42) #[] #[]] := by rw [hY]; exact (boxR_new v1 _ _).rowNew
  have HBY := below_app HB hbY HB.size
  obtain ⟨c0, c1, c2, c3, b0, b1⟩ := SK.out Y hbY
  go_wp2_with (refine wpList_store_row rfl 59 (.tmp 7) _ rfl v1.heap.size #[.int .i64 (-2147483647), .int .i64 2147483647, .func (.func 42) #[] #[]] (by rfl) (by rfl) _ _ (heap_alloc_new v1 _) (by kernel_rfl) (by rfl) (by simp [Value.oneCell']) ?_; rw [← hY]; clear hY; (try simp only [Act.put, List.setIfInBounds_toArray, List.set_cons_zero, List.set_cons_succ]))
  have hsd : Hid (0 ≤ side ∧ side ≤ (s.sn : Int) - 1) := ib_bd hi
  have hsn : Hid (side ≠ -1) := by show side ≠ -1; have := hsd.out; omega
  clear hi
  refine (HI.out _).mono ?_
  rintro e v2 ⟨rfl, hb2⟩
  have hbV := below_app hbY hb2 hbY.size
  have HBV := below_app HB hbV HB.size
  clear c0 c1 c2 c3 b0 b1
  obtain ⟨c0, c1, c2, c3, b0, b1⟩ := SK.out v2 hbV
  have f2 := (y3.grew hb2).cell 2
  simp at f2
  have hen : ∀ (args : Array Value) (w : World), (callFunc 42 args).run Try.prog w = .ok (.enter 42 args) w := enters_of Try.func42 (by kernel_rfl) rfl
  go_wp2_with fail
  refine (lifeIsLow_any ⟨1, nn⟩ s side _ (okK.out _ hbV) hn2 hsd.out).mono ?_
  rintro e v3 ⟨rfl, hb3⟩
  have HBW := below_app HBV hb3 HBV.size
  clear c0 c1 c2 c3 b0 b1 f2
  go_wp2
  go_ret
  exact ⟨ret_bool' (by rw [HA.out]; rfl), HBW⟩
set_option maxHeartbeats 4000000 in
theorem ihol_2 (s : Stt) (side : Int) (nn : Int) (w : World) (hok : s.ok w) (hn : s.pn ≤ 1048576) (hn2 : s.sn ≤ 1048576) (hg : okGd (⟨2, nn⟩ : Gd) = true) (hi : ib side 0 ((s.sn : Int) - 1) = true) : Calls Try.prog 14 #[(.agg #[.slice s.pa s.pn s.pcap, .slice s.sa s.sn s.scap, .int .i64 s.ac, .int .i64 s.cl]), .int .i64 side, (.agg #[.int .i64 2, .int .i64 nn])] w fun e w' => e = .returned (.bool (hdG s side (⟨2, nn⟩ : Gd))) ∧ Below w.heap.size w w' := by
  have HA : Hid (hdG s side (⟨2, nn⟩ : Gd) = hdK s side (⟨2, nn⟩ : Gd)) := by show hdG s side (⟨2, nn⟩ : Gd) = _; exact hdG_yes hg hi
  have HB := ((Below.refl _ w).alloc (Nat.le_refl _) (.cells #[.slice s.pa s.pn s.pcap, .slice s.sa s.sn s.scap, .int .i64 s.ac, .int .i64 s.cl] 37)).alloc (by simp) (.cells #[.int .i64 2, .int .i64 nn] 25)
  have x1 := (boxR_new w 37 #[.slice s.pa s.pn s.pcap, .slice s.sa s.sn s.scap, .int .i64 s.ac, .int .i64 s.cl]).alloc (.cells #[.int .i64 2, .int .i64 nn] 25)
  have x2 : BoxGd ((w.alloc (.cells #[.slice s.pa s.pn s.pcap, .slice s.sa s.sn s.scap, .int .i64 s.ac, .int .i64 s.cl] 37)).alloc (.cells #[.int .i64 2, .int .i64 nn] 25)) (w.heap.size + 1) 25 (⟨2, nn⟩ : Gd) := heap_alloc2_new _ _ _
  generalize hW : (w.alloc (.cells #[.slice s.pa s.pn s.pcap, .slice s.sa s.sn s.scap, .int .i64 s.ac, .int .i64 s.cl] 37)).alloc (.cells #[.int .i64 2, .int .i64 nn] 25) = W at HB x1 x2
  have SK : Hid (∀ u : World, Below W.heap.size W u → u.cell? ⟨w.heap.size, 0, none⟩ = some (.slice s.pa s.pn s.pcap) ∧ u.cell? ⟨w.heap.size, 1, none⟩ = some (.slice s.sa s.sn s.scap) ∧ u.cell? ⟨w.heap.size, 2, none⟩ = some (.int .i64 s.ac) ∧ u.cell? ⟨w.heap.size, 3, none⟩ = some (.int .i64 s.cl) ∧ u.cell? ⟨w.heap.size + 1, 0, none⟩ = some (.int .i64 2) ∧ u.cell? ⟨w.heap.size + 1, 1, none⟩ = some (.int .i64 nn)) := fun u hu => by
    have y1 := x1.grew hu
    obtain ⟨b0, b1⟩ : CellsGd _ _ _ := (x2.grew hu).cells
    exact ⟨y1.cell 0, y1.cell 1, y1.cell 2, y1.cell 3, b0, b1⟩
  have HR : Hid (∀ w : World, Calls Try.prog 26 #[(.agg #[.int .i64 2, .int .i64 nn])] w fun e w' => e = .returned (.tuple #[.agg #[.int .i64 0, .int .i64 8, .func (.func 43) #[] #[]], .bool true]) ∧ Below w.heap.size w w') := fun w => by have := rightRule_any (⟨2, nn⟩ : Gd) w; rw [hg] at this; exact this
  have HI : Hid (∀ w : World, Calls Try.prog 32 #[(.agg #[.slice s.pa s.pn s.pcap, .slice s.sa s.sn s.scap, .int .i64 s.ac, .int .i64 s.cl]), .int .i64 side] w fun e w' => e = .returned (.bool true) ∧ Below w.heap.size w w') := fun w => by have := hasSide_any s side w (by omega); rw [hi] at this; exact this
  have okK : Hid (∀ u : World, Below W.heap.size W u → s.ok u) := fun u hu => stt_grew hok (below_app HB hu HB.size)
  clear hg
  obtain ⟨c0, c1, c2, c3, b0, b1⟩ := SK.out W (Below.refl _ _)
  clear x1 x2 hok
  go_enter Try.func14, Try.ntmps14
  go_wp2_with fail
  refine (HR.out _).mono ?_
  rintro e v1 ⟨rfl, hb⟩
  clear hW c0 c1 c2 c3 b0 b1
  have hY : ∃ Y, Y = (v1.alloc (.cells #[.int .i64 0, .int .i64 0, .nilFunc] 59)).setRow v1.heap.size #[.int .i64 0, .int .i64 8, .func (.func 43) #[] #[]] := ⟨_, rfl⟩
  obtain ⟨Y, hY⟩ := hY
  have hbY : Below W.heap.size W Y := by rw [hY]; exact below_setRow (hb.alloc hb.size _) hb.size _
  have y3 : BoxR Y v1.heap.size 59 #[.int .i64 0, .int .i64 8, .func (.func 43) #[] #[]] := by rw [hY]; exact (boxR_new v1 _ _).rowNew
  have HBY := below_app HB hbY HB.size
  obtain ⟨c0, c1, c2, c3, b0, b1⟩ := SK.out Y hbY
  go_wp2_with (refine wpList_store_row rfl 59 (.tmp 7) _ rfl v1.heap.size #[.int .i64 0, .int .i64 8, .func (.func 43) #[] #[]] (by rfl) (by rfl) _ _ (heap_alloc_new v1 _) (by kernel_rfl) (by rfl) (by simp [Value.oneCell']) ?_; rw [← hY]; clear hY; (try simp only [Act.put, List.setIfInBounds_toArray, List.set_cons_zero, List.set_cons_succ]))
  have hsd : Hid (0 ≤ side ∧ side ≤ (s.sn : Int) - 1) := ib_bd hi
  have hsn : Hid (side ≠ -1) := by show side ≠ -1; have := hsd.out; omega
  clear hi
  refine (HI.out _).mono ?_
  rintro e v2 ⟨rfl, hb2⟩
  have hbV := below_app hbY hb2 hbY.size
  have HBV := below_app HB hbV HB.size
  clear c0 c1 c2 c3 b0 b1
  obtain ⟨c0, c1, c2, c3, b0, b1⟩ := SK.out v2 hbV
  have f2 := (y3.grew hb2).cell 2
  simp at f2
  have hen : ∀ (args : Array Value) (w : World), (callFunc 43 args).run Try.prog w = .ok (.enter 43 args) w := enters_of Try.func43 (by kernel_rfl) rfl
  go_wp2_with fail
  refine (piecesAreMany_any ⟨2, nn⟩ s side _ (okK.out _ hbV) hn hsn.out).mono ?_
  rintro e v3 ⟨rfl, hb3⟩
  have HBW := below_app HBV hb3 HBV.size
  clear c0 c1 c2 c3 b0 b1 f2
  go_wp2
  go_ret
  exact ⟨ret_bool' (by rw [HA.out]; rfl), HBW⟩
set_option maxHeartbeats 4000000 in
theorem ihol_3 (s : Stt) (side : Int) (nn : Int) (w : World) (hok : s.ok w) (hn : s.pn ≤ 1048576) (hn2 : s.sn ≤ 1048576) (hg : okGd (⟨3, nn⟩ : Gd) = true) (hi : ib side 0 ((s.sn : Int) - 1) = true) : Calls Try.prog 14 #[(.agg #[.slice s.pa s.pn s.pcap, .slice s.sa s.sn s.scap, .int .i64 s.ac, .int .i64 s.cl]), .int .i64 side, (.agg #[.int .i64 3, .int .i64 nn])] w fun e w' => e = .returned (.bool (hdG s side (⟨3, nn⟩ : Gd))) ∧ Below w.heap.size w w' := by
  have HA : Hid (hdG s side (⟨3, nn⟩ : Gd) = hdK s side (⟨3, nn⟩ : Gd)) := by show hdG s side (⟨3, nn⟩ : Gd) = _; exact hdG_yes hg hi
  have HB := ((Below.refl _ w).alloc (Nat.le_refl _) (.cells #[.slice s.pa s.pn s.pcap, .slice s.sa s.sn s.scap, .int .i64 s.ac, .int .i64 s.cl] 37)).alloc (by simp) (.cells #[.int .i64 3, .int .i64 nn] 25)
  have x1 := (boxR_new w 37 #[.slice s.pa s.pn s.pcap, .slice s.sa s.sn s.scap, .int .i64 s.ac, .int .i64 s.cl]).alloc (.cells #[.int .i64 3, .int .i64 nn] 25)
  have x2 : BoxGd ((w.alloc (.cells #[.slice s.pa s.pn s.pcap, .slice s.sa s.sn s.scap, .int .i64 s.ac, .int .i64 s.cl] 37)).alloc (.cells #[.int .i64 3, .int .i64 nn] 25)) (w.heap.size + 1) 25 (⟨3, nn⟩ : Gd) := heap_alloc2_new _ _ _
  generalize hW : (w.alloc (.cells #[.slice s.pa s.pn s.pcap, .slice s.sa s.sn s.scap, .int .i64 s.ac, .int .i64 s.cl] 37)).alloc (.cells #[.int .i64 3, .int .i64 nn] 25) = W at HB x1 x2
  have SK : Hid (∀ u : World, Below W.heap.size W u → u.cell? ⟨w.heap.size, 0, none⟩ = some (.slice s.pa s.pn s.pcap) ∧ u.cell? ⟨w.heap.size, 1, none⟩ = some (.slice s.sa s.sn s.scap) ∧ u.cell? ⟨w.heap.size, 2, none⟩ = some (.int .i64 s.ac) ∧ u.cell? ⟨w.heap.size, 3, none⟩ = some (.int .i64 s.cl) ∧ u.cell? ⟨w.heap.size + 1, 0, none⟩ = some (.int .i64 3) ∧ u.cell? ⟨w.heap.size + 1, 1, none⟩ = some (.int .i64 nn)) := fun u hu => by
    have y1 := x1.grew hu
    obtain ⟨b0, b1⟩ : CellsGd _ _ _ := (x2.grew hu).cells
    exact ⟨y1.cell 0, y1.cell 1, y1.cell 2, y1.cell 3, b0, b1⟩
  have HR : Hid (∀ w : World, Calls Try.prog 26 #[(.agg #[.int .i64 3, .int .i64 nn])] w fun e w' => e = .returned (.tuple #[.agg #[.int .i64 0, .int .i64 0, .func (.func 44) #[] #[]], .bool true]) ∧ Below w.heap.size w w') := fun w => by have := rightRule_any (⟨3, nn⟩ : Gd) w; rw [hg] at this; exact this
  have HI : Hid (∀ w : World, Calls Try.prog 32 #[(.agg #[.slice s.pa s.pn s.pcap, .slice s.sa s.sn s.scap, .int .i64 s.ac, .int .i64 s.cl]), .int .i64 side] w fun e w' => e = .returned (.bool true) ∧ Below w.heap.size w w') := fun w => by have := hasSide_any s side w (by omega); rw [hi] at this; exact this
  have okK : Hid (∀ u : World, Below W.heap.size W u → s.ok u) := fun u hu => stt_grew hok (below_app HB hu HB.size)
  clear hg
  obtain ⟨c0, c1, c2, c3, b0, b1⟩ := SK.out W (Below.refl _ _)
  clear x1 x2 hok
  go_enter Try.func14, Try.ntmps14
  go_wp2_with fail
  refine (HR.out _).mono ?_
  rintro e v1 ⟨rfl, hb⟩
  clear hW c0 c1 c2 c3 b0 b1
  have hY : ∃ Y, Y = (v1.alloc (.cells #[.int .i64 0, .int .i64 0, .nilFunc] 59)).setRow v1.heap.size #[.int .i64 0, .int .i64 0, .func (.func 44) #[] #[]] := ⟨_, rfl⟩
  obtain ⟨Y, hY⟩ := hY
  have hbY : Below W.heap.size W Y := by rw [hY]; exact below_setRow (hb.alloc hb.size _) hb.size _
  have y3 : BoxR Y v1.heap.size 59 #[.int .i64 0, .int .i64 0, .func (.func 44) #[] #[]] := by rw [hY]; exact (boxR_new v1 _ _).rowNew
  have HBY := below_app HB hbY HB.size
  obtain ⟨c0, c1, c2, c3, b0, b1⟩ := SK.out Y hbY
  go_wp2_with (refine wpList_store_row rfl 59 (.tmp 7) _ rfl v1.heap.size #[.int .i64 0, .int .i64 0, .func (.func 44) #[] #[]] (by rfl) (by rfl) _ _ (heap_alloc_new v1 _) (by kernel_rfl) (by rfl) (by simp [Value.oneCell']) ?_; rw [← hY]; clear hY; (try simp only [Act.put, List.setIfInBounds_toArray, List.set_cons_zero, List.set_cons_succ]))
  have hsd : Hid (0 ≤ side ∧ side ≤ (s.sn : Int) - 1) := ib_bd hi
  have hsn : Hid (side ≠ -1) := by show side ≠ -1; have := hsd.out; omega
  clear hi
  refine (HI.out _).mono ?_
  rintro e v2 ⟨rfl, hb2⟩
  have hbV := below_app hbY hb2 hbY.size
  have HBV := below_app HB hbV HB.size
  clear c0 c1 c2 c3 b0 b1
  obtain ⟨c0, c1, c2, c3, b0, b1⟩ := SK.out v2 hbV
  have f2 := (y3.grew hb2).cell 2
  simp at f2
  have hen : ∀ (args : Array Value) (w : World), (callFunc 44 args).run Try.prog w = .ok (.enter 44 args) w := enters_of Try.func44 (by kernel_rfl) rfl
  go_wp2_with fail
  refine (turnIsOn_any ⟨3, nn⟩ s side _).mono ?_
  rintro e v3 ⟨rfl, hb3⟩
  have HBW := below_app HBV hb3 HBV.size
  clear c0 c1 c2 c3 b0 b1 f2
  go_wp2
  go_ret
  exact ⟨ret_bool' (by rw [HA.out]; rfl), HBW⟩
set_option maxHeartbeats 4000000 in
theorem ihol_4 (s : Stt) (side : Int) (nn : Int) (w : World) (hok : s.ok w) (hn : s.pn ≤ 1048576) (hn2 : s.sn ≤ 1048576) (hg : okGd (⟨4, nn⟩ : Gd) = true) (hi : ib side 0 ((s.sn : Int) - 1) = true) : Calls Try.prog 14 #[(.agg #[.slice s.pa s.pn s.pcap, .slice s.sa s.sn s.scap, .int .i64 s.ac, .int .i64 s.cl]), .int .i64 side, (.agg #[.int .i64 4, .int .i64 nn])] w fun e w' => e = .returned (.bool (hdG s side (⟨4, nn⟩ : Gd))) ∧ Below w.heap.size w w' := by
  have HA : Hid (hdG s side (⟨4, nn⟩ : Gd) = hdK s side (⟨4, nn⟩ : Gd)) := by show hdG s side (⟨4, nn⟩ : Gd) = _; exact hdG_yes hg hi
  have HB := ((Below.refl _ w).alloc (Nat.le_refl _) (.cells #[.slice s.pa s.pn s.pcap, .slice s.sa s.sn s.scap, .int .i64 s.ac, .int .i64 s.cl] 37)).alloc (by simp) (.cells #[.int .i64 4, .int .i64 nn] 25)
  have x1 := (boxR_new w 37 #[.slice s.pa s.pn s.pcap, .slice s.sa s.sn s.scap, .int .i64 s.ac, .int .i64 s.cl]).alloc (.cells #[.int .i64 4, .int .i64 nn] 25)
  have x2 : BoxGd ((w.alloc (.cells #[.slice s.pa s.pn s.pcap, .slice s.sa s.sn s.scap, .int .i64 s.ac, .int .i64 s.cl] 37)).alloc (.cells #[.int .i64 4, .int .i64 nn] 25)) (w.heap.size + 1) 25 (⟨4, nn⟩ : Gd) := heap_alloc2_new _ _ _
  generalize hW : (w.alloc (.cells #[.slice s.pa s.pn s.pcap, .slice s.sa s.sn s.scap, .int .i64 s.ac, .int .i64 s.cl] 37)).alloc (.cells #[.int .i64 4, .int .i64 nn] 25) = W at HB x1 x2
  have SK : Hid (∀ u : World, Below W.heap.size W u → u.cell? ⟨w.heap.size, 0, none⟩ = some (.slice s.pa s.pn s.pcap) ∧ u.cell? ⟨w.heap.size, 1, none⟩ = some (.slice s.sa s.sn s.scap) ∧ u.cell? ⟨w.heap.size, 2, none⟩ = some (.int .i64 s.ac) ∧ u.cell? ⟨w.heap.size, 3, none⟩ = some (.int .i64 s.cl) ∧ u.cell? ⟨w.heap.size + 1, 0, none⟩ = some (.int .i64 4) ∧ u.cell? ⟨w.heap.size + 1, 1, none⟩ = some (.int .i64 nn)) := fun u hu => by
    have y1 := x1.grew hu
    obtain ⟨b0, b1⟩ : CellsGd _ _ _ := (x2.grew hu).cells
    exact ⟨y1.cell 0, y1.cell 1, y1.cell 2, y1.cell 3, b0, b1⟩
  have HR : Hid (∀ w : World, Calls Try.prog 26 #[(.agg #[.int .i64 4, .int .i64 nn])] w fun e w' => e = .returned (.tuple #[.agg #[.int .i64 0, .int .i64 8, .func (.func 45) #[] #[]], .bool true]) ∧ Below w.heap.size w w') := fun w => by have := rightRule_any (⟨4, nn⟩ : Gd) w; rw [hg] at this; exact this
  have HI : Hid (∀ w : World, Calls Try.prog 32 #[(.agg #[.slice s.pa s.pn s.pcap, .slice s.sa s.sn s.scap, .int .i64 s.ac, .int .i64 s.cl]), .int .i64 side] w fun e w' => e = .returned (.bool true) ∧ Below w.heap.size w w') := fun w => by have := hasSide_any s side w (by omega); rw [hi] at this; exact this
  have okK : Hid (∀ u : World, Below W.heap.size W u → s.ok u) := fun u hu => stt_grew hok (below_app HB hu HB.size)
  clear hg
  obtain ⟨c0, c1, c2, c3, b0, b1⟩ := SK.out W (Below.refl _ _)
  clear x1 x2 hok
  go_enter Try.func14, Try.ntmps14
  go_wp2_with fail
  refine (HR.out _).mono ?_
  rintro e v1 ⟨rfl, hb⟩
  clear hW c0 c1 c2 c3 b0 b1
  have hY : ∃ Y, Y = (v1.alloc (.cells #[.int .i64 0, .int .i64 0, .nilFunc] 59)).setRow v1.heap.size #[.int .i64 0, .int .i64 8, .func (.func 45) #[] #[]] := ⟨_, rfl⟩
  obtain ⟨Y, hY⟩ := hY
  have hbY : Below W.heap.size W Y := by rw [hY]; exact below_setRow (hb.alloc hb.size _) hb.size _
  have y3 : BoxR Y v1.heap.size 59 #[.int .i64 0, .int .i64 8, .func (.func 45) #[] #[]] := by rw [hY]; exact (boxR_new v1 _ _).rowNew
  have HBY := below_app HB hbY HB.size
  obtain ⟨c0, c1, c2, c3, b0, b1⟩ := SK.out Y hbY
  go_wp2_with (refine wpList_store_row rfl 59 (.tmp 7) _ rfl v1.heap.size #[.int .i64 0, .int .i64 8, .func (.func 45) #[] #[]] (by rfl) (by rfl) _ _ (heap_alloc_new v1 _) (by kernel_rfl) (by rfl) (by simp [Value.oneCell']) ?_; rw [← hY]; clear hY; (try simp only [Act.put, List.setIfInBounds_toArray, List.set_cons_zero, List.set_cons_succ]))
  have hsd : Hid (0 ≤ side ∧ side ≤ (s.sn : Int) - 1) := ib_bd hi
  have hsn : Hid (side ≠ -1) := by show side ≠ -1; have := hsd.out; omega
  clear hi
  refine (HI.out _).mono ?_
  rintro e v2 ⟨rfl, hb2⟩
  have hbV := below_app hbY hb2 hbY.size
  have HBV := below_app HB hbV HB.size
  clear c0 c1 c2 c3 b0 b1
  obtain ⟨c0, c1, c2, c3, b0, b1⟩ := SK.out v2 hbV
  have f2 := (y3.grew hb2).cell 2
  simp at f2
  have hen : ∀ (args : Array Value) (w : World), (callFunc 45 args).run Try.prog w = .ok (.enter 45 args) w := enters_of Try.func45 (by kernel_rfl) rfl
  go_wp2_with fail
  refine (bentAreMany_any ⟨4, nn⟩ s side _ (okK.out _ hbV) hn).mono ?_
  rintro e v3 ⟨rfl, hb3⟩
  have HBW := below_app HBV hb3 HBV.size
  clear c0 c1 c2 c3 b0 b1 f2
  go_wp2
  go_ret
  exact ⟨ret_bool' (by rw [HA.out]; rfl), HBW⟩
theorem implHolds_any (s : Stt) (side : Int) (g : Gd) (w : World) (hok : s.ok w) (hn : s.pn ≤ 1048576) (hn2 : s.sn ≤ 1048576) : Calls Try.prog 14 #[(.agg #[.slice s.pa s.pn s.pcap, .slice s.sa s.sn s.scap, .int .i64 s.ac, .int .i64 s.cl]), .int .i64 side, (.agg #[.int .i64 g.kd, .int .i64 g.nn])] w fun e w' => e = .returned (.bool (hdG s side g)) ∧ Below w.heap.size w w' := by
  cases hg : okGd g
  case false => exact ihol_g s side g w hok hn hn2 hg rfl
  cases hi : ib side 0 ((s.sn : Int) - 1)
  case false => exact ihol_i s side g w hok hn hn2 hg hi
  obtain ⟨kd, nn⟩ := g
  have hk := okGd_kd hg
  dsimp only at hk
  rcases hk with rfl | rfl | rfl | rfl | rfl
  · exact ihol_0 s side nn w hok hn hn2 hg hi
  · exact ihol_1 s side nn w hok hn hn2 hg hi
  · exact ihol_2 s side nn w hok hn hn2 hg hi
  · exact ihol_3 s side nn w hok hn hn2 hg hi
  · exact ihol_4 s side nn w hok hn hn2 hg hi
end Go.Proofs.Ytnlnledijpcjpar
