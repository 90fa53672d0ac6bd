/-
  Chapter 8, the program: what the methods of a guard answer. Written by tools/guf.gen.py. Own work.
-/
import Derived.Test.YtnlnledijpcjparGuF
import Derived.Test.YtnlnledijpcjparStHas
import Derived.Deep.RegionHeld
namespace Go.Proofs.Ytnlnledijpcjpar
open Go.ChangeShapes Go.WideShapes Go.ChangeAt Go.RowKit
set_option maxRecDepth 100000
set_option linter.unusedVariables false
set_option linter.unusedSimpArgs false

theorem ofP_mnP {side : Int} (h : side ≠ -1) (p : Pc) : ofP side p = mnP side p := by
  unfold ofP mnP
  rw [Bool.eq_iff_iff]
  simp [h]
theorem of_len (n : Nat) (f : Nat → Pc) (side : Int) (h : side ≠ -1) : (ofL n f side).length = cnG (mnP side) n f := by
  unfold ofL cnG
  rw [List.length_map]
  congr 2
  funext i
  exact ofP_mnP h _
set_option maxHeartbeats 4000000 in
theorem asksNothing_any (g : Gd) (s : Stt) (side : Int) (w : World) : Calls Try.prog 41 #[(.agg #[.int .i64 g.kd, .int .i64 g.nn]), (.agg #[.slice s.pa s.pn s.pcap, .slice s.sa s.sn s.scap, .int .i64 s.ac, .int .i64 s.cl]), .int .i64 side] w fun e w' => e = .returned (.bool (true)) ∧ Below w.heap.size w w' := by
  have HB := ((Below.refl _ w).alloc (Nat.le_refl _) (.cells #[.int .i64 g.kd, .int .i64 g.nn] 25)).alloc (by simp) (.cells #[.slice s.pa s.pn s.pcap, .slice s.sa s.sn s.scap, .int .i64 s.ac, .int .i64 s.cl] 37)
  have x2 := (boxGd_new w 25 g).alloc (.cells #[.slice s.pa s.pn s.pcap, .slice s.sa s.sn s.scap, .int .i64 s.ac, .int .i64 s.cl] 37)
  have x1 : BoxR ((w.alloc (.cells #[.int .i64 g.kd, .int .i64 g.nn] 25)).alloc (.cells #[.slice s.pa s.pn s.pcap, .slice s.sa s.sn s.scap, .int .i64 s.ac, .int .i64 s.cl] 37)) (w.heap.size + 1) 37 #[.slice s.pa s.pn s.pcap, .slice s.sa s.sn s.scap, .int .i64 s.ac, .int .i64 s.cl] := heap_alloc2_new _ _ _
  generalize hW : (w.alloc (.cells #[.int .i64 g.kd, .int .i64 g.nn] 25)).alloc (.cells #[.slice s.pa s.pn s.pcap, .slice s.sa s.sn s.scap, .int .i64 s.ac, .int .i64 s.cl] 37) = W at HB x1 x2
  clear x1 x2
  go_enter Try.func41, Try.ntmps41
  go_wp2
  go_ret
  exact ⟨rfl, HB⟩
set_option maxHeartbeats 4000000 in
theorem turnIsOn_any (g : Gd) (s : Stt) (side : Int) (w : World) : Calls Try.prog 44 #[(.agg #[.int .i64 g.kd, .int .i64 g.nn]), (.agg #[.slice s.pa s.pn s.pcap, .slice s.sa s.sn s.scap, .int .i64 s.ac, .int .i64 s.cl]), .int .i64 side] w fun e w' => e = .returned (.bool (decide (s.ac = side))) ∧ Below w.heap.size w w' := by
  have HB := ((Below.refl _ w).alloc (Nat.le_refl _) (.cells #[.int .i64 g.kd, .int .i64 g.nn] 25)).alloc (by simp) (.cells #[.slice s.pa s.pn s.pcap, .slice s.sa s.sn s.scap, .int .i64 s.ac, .int .i64 s.cl] 37)
  have x2 := (boxGd_new w 25 g).alloc (.cells #[.slice s.pa s.pn s.pcap, .slice s.sa s.sn s.scap, .int .i64 s.ac, .int .i64 s.cl] 37)
  have x1 : BoxR ((w.alloc (.cells #[.int .i64 g.kd, .int .i64 g.nn] 25)).alloc (.cells #[.slice s.pa s.pn s.pcap, .slice s.sa s.sn s.scap, .int .i64 s.ac, .int .i64 s.cl] 37)) (w.heap.size + 1) 37 #[.slice s.pa s.pn s.pcap, .slice s.sa s.sn s.scap, .int .i64 s.ac, .int .i64 s.cl] := heap_alloc2_new _ _ _
  generalize hW : (w.alloc (.cells #[.int .i64 g.kd, .int .i64 g.nn] 25)).alloc (.cells #[.slice s.pa s.pn s.pcap, .slice s.sa s.sn s.scap, .int .i64 s.ac, .int .i64 s.cl] 37) = W at HB x1 x2
  have c2 := x1.cell 2
  simp at c2
  go_enter Try.func44, Try.ntmps44
  go_wp2
  go_ret
  exact ⟨ret_bool' (by first | rfl | (rw [Bool.eq_iff_iff]; simp)), HB⟩
set_option maxHeartbeats 4000000 in
theorem lifeIsLow_any (g : Gd) (s : Stt) (side : Int) (w : World) (hok : s.ok w) (hn2 : s.sn ≤ 1048576) (hs : 0 ≤ side ∧ side ≤ (s.sn : Int) - 1) : Calls Try.prog 42 #[(.agg #[.int .i64 g.kd, .int .i64 g.nn]), (.agg #[.slice s.pa s.pn s.pcap, .slice s.sa s.sn s.scap, .int .i64 s.ac, .int .i64 s.cl]), .int .i64 side] w fun e w' => e = .returned (.bool (decide ((s.ss side.toNat).li ≤ g.nn))) ∧ Below w.heap.size w w' := by
  have HB := ((Below.refl _ w).alloc (Nat.le_refl _) (.cells #[.int .i64 g.kd, .int .i64 g.nn] 25)).alloc (by simp) (.cells #[.slice s.pa s.pn s.pcap, .slice s.sa s.sn s.scap, .int .i64 s.ac, .int .i64 s.cl] 37)
  have x2 := (boxGd_new w 25 g).alloc (.cells #[.slice s.pa s.pn s.pcap, .slice s.sa s.sn s.scap, .int .i64 s.ac, .int .i64 s.cl] 37)
  have x1 : BoxR ((w.alloc (.cells #[.int .i64 g.kd, .int .i64 g.nn] 25)).alloc (.cells #[.slice s.pa s.pn s.pcap, .slice s.sa s.sn s.scap, .int .i64 s.ac, .int .i64 s.cl] 37)) (w.heap.size + 1) 37 #[.slice s.pa s.pn s.pcap, .slice s.sa s.sn s.scap, .int .i64 s.ac, .int .i64 s.cl] := heap_alloc2_new _ _ _
  generalize hW : (w.alloc (.cells #[.int .i64 g.kd, .int .i64 g.nn] 25)).alloc (.cells #[.slice s.pa s.pn s.pcap, .slice s.sa s.sn s.scap, .int .i64 s.ac, .int .i64 s.cl] 37) = W at HB x1 x2
  obtain ⟨k, rfl⟩ := Int.eq_ofNat_of_zero_le hs.1
  have hlt : k < s.sn := by omega
  have hlt2 : (k : Int) < (s.sn : Int) := by omega
  have r2 := hok.2.2.2.2.2.1
  have c1 := x1.cell 1
  simp at c1
  obtain ⟨b0, b1⟩ : CellsGd _ _ _ := x2.cells
  rcases r2.grew sdC_ne HB with g2 | ⟨o2, hsa, g2⟩
  · omega
  have k0 := g2 k hlt 0 _ rfl
  rw [Nat.add_zero] at k0
  rw [hsa] at c1
  clear hsa g2 r2 hok
  go_enter Try.func42, Try.ntmps42
  go_wp2_with fail
  go_region
  all_goals go_wp2
  all_goals go_ret
  all_goals exact ⟨ret_bool' (by first | rfl | simp), HB.drew⟩
set_option maxHeartbeats 4000000 in
theorem piecesAreMany_any (g : Gd) (s : Stt) (side : Int) (w : World) (hok : s.ok w) (hn : s.pn ≤ 1048576) (hs : side ≠ -1) : Calls Try.prog 43 #[(.agg #[.int .i64 g.kd, .int .i64 g.nn]), (.agg #[.slice s.pa s.pn s.pcap, .slice s.sa s.sn s.scap, .int .i64 s.ac, .int .i64 s.cl]), .int .i64 side] w fun e w' => e = .returned (.bool (decide (g.nn ≤ (mnG s side : Int)))) ∧ Below w.heap.size w w' := by
  have HB := ((Below.refl _ w).alloc (Nat.le_refl _) (.cells #[.int .i64 g.kd, .int .i64 g.nn] 25)).alloc (by simp) (.cells #[.slice s.pa s.pn s.pcap, .slice s.sa s.sn s.scap, .int .i64 s.ac, .int .i64 s.cl] 37)
  have x2 := (boxGd_new w 25 g).alloc (.cells #[.slice s.pa s.pn s.pcap, .slice s.sa s.sn s.scap, .int .i64 s.ac, .int .i64 s.cl] 37)
  have x1 : BoxR ((w.alloc (.cells #[.int .i64 g.kd, .int .i64 g.nn] 25)).alloc (.cells #[.slice s.pa s.pn s.pcap, .slice s.sa s.sn s.scap, .int .i64 s.ac, .int .i64 s.cl] 37)) (w.heap.size + 1) 37 #[.slice s.pa s.pn s.pcap, .slice s.sa s.sn s.scap, .int .i64 s.ac, .int .i64 s.cl] := heap_alloc2_new _ _ _
  generalize hW : (w.alloc (.cells #[.int .i64 g.kd, .int .i64 g.nn] 25)).alloc (.cells #[.slice s.pa s.pn s.pcap, .slice s.sa s.sn s.scap, .int .i64 s.ac, .int .i64 s.cl] 37) = W at HB x1 x2
  have SK : Hid (∀ u : World, Below W.heap.size W u → u.cell? ⟨w.heap.size + 1, 0, none⟩ = some (.slice s.pa s.pn s.pcap) ∧ u.cell? ⟨w.heap.size + 1, 1, none⟩ = some (.slice s.sa s.sn s.scap) ∧ u.cell? ⟨w.heap.size + 1, 2, none⟩ = some (.int .i64 s.ac) ∧ u.cell? ⟨w.heap.size + 1, 3, none⟩ = some (.int .i64 s.cl) ∧ u.cell? ⟨w.heap.size, 0, none⟩ = some (.int .i64 g.kd) ∧ u.cell? ⟨w.heap.size, 1, none⟩ = some (.int .i64 g.nn)) := fun u hu => by
    have y1 := x1.grew hu
    obtain ⟨b0, b1⟩ : CellsGd _ _ _ := (x2.grew hu).cells
    exact ⟨y1.cell 0, y1.cell 1, y1.cell 2, y1.cell 3, b0, b1⟩
  have okK : ∀ u : World, Below W.heap.size W u → s.ok u := fun u hu => stt_grew hok (below_app HB hu HB.size)
  have hD : Below W.heap.size W W.drew := (Below.refl _ _).drew
  have hm : mnG s side ≤ s.pn := cnG_le _ _ _
  obtain ⟨c0, c1, c2, c3, b0, b1⟩ := SK.out W (Below.refl _ _)
  clear x1 x2 hok
  go_enter Try.func43, Try.ntmps43
  go_wp2_with fail
  clear hW c0 c1 c2 c3 b0 b1
  go_region_held (fun u : World => u.cell? ⟨w.heap.size + 1, 0, none⟩ = some (.slice s.pa s.pn s.pcap) ∧ u.cell? ⟨w.heap.size + 1, 1, none⟩ = some (.slice s.sa s.sn s.scap) ∧ u.cell? ⟨w.heap.size + 1, 2, none⟩ = some (.int .i64 s.ac) ∧ u.cell? ⟨w.heap.size + 1, 3, none⟩ = some (.int .i64 s.cl) ∧ u.cell? ⟨w.heap.size, 0, none⟩ = some (.int .i64 g.kd) ∧ u.cell? ⟨w.heap.size, 1, none⟩ = some (.int .i64 g.nn)) (first | (refine SK.out _ ?_; first | with_reducible exact hD | with_reducible exact hq)) ((go_at_call 54; refine (implOnField_any s side _ (okK _ hD) (by omega)).mono ?_; rintro e v3 ⟨q, cap, rfl, hb3, ho3⟩; have hq : Below W.heap.size W v3 := below_app hD hb3 hD.size; have hlen := of_len s.pn s.ps side hs; clear ho3; rw [hlen]))
  all_goals go_wp2
  all_goals go_ret
  all_goals exact ⟨ret_bool' (by first | rfl | simp), below_app HB hq HB.size⟩
set_option maxHeartbeats 4000000 in
theorem bentAreMany_any (g : Gd) (s : Stt) (side : Int) (w : World) (hok : s.ok w) (hn : s.pn ≤ 1048576) : Calls Try.prog 45 #[(.agg #[.int .i64 g.kd, .int .i64 g.nn]), (.agg #[.slice s.pa s.pn s.pcap, .slice s.sa s.sn s.scap, .int .i64 s.ac, .int .i64 s.cl]), .int .i64 side] w fun e w' => e = .returned (.bool (decide (g.nn ≤ (bnG s side : Int)))) ∧ Below w.heap.size w w' := by
  have HB := ((Below.refl _ w).alloc (Nat.le_refl _) (.cells #[.int .i64 g.kd, .int .i64 g.nn] 25)).alloc (by simp) (.cells #[.slice s.pa s.pn s.pcap, .slice s.sa s.sn s.scap, .int .i64 s.ac, .int .i64 s.cl] 37)
  have x2 := (boxGd_new w 25 g).alloc (.cells #[.slice s.pa s.pn s.pcap, .slice s.sa s.sn s.scap, .int .i64 s.ac, .int .i64 s.cl] 37)
  have x1 : BoxR ((w.alloc (.cells #[.int .i64 g.kd, .int .i64 g.nn] 25)).alloc (.cells #[.slice s.pa s.pn s.pcap, .slice s.sa s.sn s.scap, .int .i64 s.ac, .int .i64 s.cl] 37)) (w.heap.size + 1) 37 #[.slice s.pa s.pn s.pcap, .slice s.sa s.sn s.scap, .int .i64 s.ac, .int .i64 s.cl] := heap_alloc2_new _ _ _
  generalize hW : (w.alloc (.cells #[.int .i64 g.kd, .int .i64 g.nn] 25)).alloc (.cells #[.slice s.pa s.pn s.pcap, .slice s.sa s.sn s.scap, .int .i64 s.ac, .int .i64 s.cl] 37) = W at HB x1 x2
  have SK : Hid (∀ u : World, Below W.heap.size W u → u.cell? ⟨w.heap.size + 1, 0, none⟩ = some (.slice s.pa s.pn s.pcap) ∧ u.cell? ⟨w.heap.size + 1, 1, none⟩ = some (.slice s.sa s.sn s.scap) ∧ u.cell? ⟨w.heap.size + 1, 2, none⟩ = some (.int .i64 s.ac) ∧ u.cell? ⟨w.heap.size + 1, 3, none⟩ = some (.int .i64 s.cl) ∧ u.cell? ⟨w.heap.size, 0, none⟩ = some (.int .i64 g.kd) ∧ u.cell? ⟨w.heap.size, 1, none⟩ = some (.int .i64 g.nn)) := fun u hu => by
    have y1 := x1.grew hu
    obtain ⟨b0, b1⟩ : CellsGd _ _ _ := (x2.grew hu).cells
    exact ⟨y1.cell 0, y1.cell 1, y1.cell 2, y1.cell 3, b0, b1⟩
  have okK : ∀ u : World, Below W.heap.size W u → s.ok u := fun u hu => stt_grew hok (below_app HB hu HB.size)
  have hD : Below W.heap.size W W.drew := (Below.refl _ _).drew
  have hm : bnG s side ≤ s.pn := cnG_le _ _ _
  obtain ⟨c0, c1, c2, c3, b0, b1⟩ := SK.out W (Below.refl _ _)
  clear x1 x2 hok
  go_enter Try.func45, Try.ntmps45
  go_wp2_with fail
  clear hW c0 c1 c2 c3 b0 b1
  go_region_held (fun u : World => u.cell? ⟨w.heap.size + 1, 0, none⟩ = some (.slice s.pa s.pn s.pcap) ∧ u.cell? ⟨w.heap.size + 1, 1, none⟩ = some (.slice s.sa s.sn s.scap) ∧ u.cell? ⟨w.heap.size + 1, 2, none⟩ = some (.int .i64 s.ac) ∧ u.cell? ⟨w.heap.size + 1, 3, none⟩ = some (.int .i64 s.cl) ∧ u.cell? ⟨w.heap.size, 0, none⟩ = some (.int .i64 g.kd) ∧ u.cell? ⟨w.heap.size, 1, none⟩ = some (.int .i64 g.nn)) (first | (refine SK.out _ ?_; first | with_reducible exact hD | with_reducible exact hq)) ((go_at_call 17; refine (implBentOf_any s side _ (okK _ hD) hn).mono ?_; rintro e v3 ⟨rfl, hb3⟩; have hq : Below W.heap.size W v3 := below_app hD hb3 hD.size))
  all_goals go_wp2
  all_goals go_ret
  all_goals exact ⟨ret_bool' (by first | rfl | simp), below_app HB hq HB.size⟩
end Go.Proofs.Ytnlnledijpcjpar
