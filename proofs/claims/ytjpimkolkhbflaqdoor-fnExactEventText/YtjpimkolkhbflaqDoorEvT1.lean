/-
  Chapter 6: the program's thingText. Written by tools/ev.gen.py. Own work.
-/
import Derived.Test.YtjpimkolkhbflaqDoorEvT
namespace Go.Proofs.YtjpimkolkhbflaqDoor
open Go.ChangeShapes Go.WideShapes Go.ChangeAt Go.RowKit
set_option maxRecDepth 100000
set_option linter.unusedVariables false
set_option linter.unusedSimpArgs false

def tt_ph (e : Ev) : ByteArray := say (⟨#[104, 117, 114, 116]⟩ : ByteArray) (fn2 e.sr e.nn) 2 ++ say (⟨#[32, 112, 105, 101, 99, 101]⟩ : ByteArray) (fn1 e.pi) 1
set_option maxHeartbeats 4000000 in
theorem thingText_ph (e : Ev) (hw : wf64 e) (w : World) (ht : Pow w) : Calls Tryd.prog 10 #[(.iface 40 (.agg #[.int .i64 e.sr, .int .i64 e.pi, .int .i64 e.nn]))] w fun r w' => r = .returned (.string (tt_ph e)) ∧ Below w.heap.size w w' := by
  obtain ⟨i1, i2, i3, i4, i5⟩ := hw
  have as_ph : ∀ w : World, (Instr.typeAssert (.iface 40 (.agg #[.int .i64 e.sr, .int .i64 e.pi, .int .i64 e.nn])) 31 40 true).run Tryd.prog w = .ok (.tuple #[(.agg #[.int .i64 e.sr, .int .i64 e.pi, .int .i64 e.nn]), .bool true]) w := run_as_yes Tryd.underlying40 _
  have HB := (Below.refl _ w).alloc (Nat.le_refl _) (.cells #[.int .i64 e.sr, .int .i64 e.pi, .int .i64 e.nn] 40)
  have bx : (w.alloc (.cells #[.int .i64 e.sr, .int .i64 e.pi, .int .i64 e.nn] 40)).heap[w.heap.size]? = some (.cells #[.int .i64 e.sr, .int .i64 e.pi, .int .i64 e.nn] 40 (0, 0)) := heap_alloc_new w _
  have HT : Hid (∀ u : World, Below w.heap.size w u → Pow u) := fun u hu => ht.below hu
  clear ht
  generalize hW : w.alloc (.cells #[.int .i64 e.sr, .int .i64 e.pi, .int .i64 e.nn] 40) = W at HB bx
  have k0 : W.cell? ⟨w.heap.size, 0, none⟩ = some (.int .i64 e.sr) := cell_of_row W w.heap.size 0 _ _ (0, 0) bx
  have k1 : W.cell? ⟨w.heap.size, 1, none⟩ = some (.int .i64 e.pi) := cell_of_row W w.heap.size 1 _ _ (0, 0) bx
  have k2 : W.cell? ⟨w.heap.size, 2, none⟩ = some (.int .i64 e.nn) := cell_of_row W w.heap.size 2 _ _ (0, 0) bx
  have SK : ∀ u : World, Below W.heap.size W u → u.cell? ⟨w.heap.size, 0, none⟩ = some (.int .i64 e.sr) ∧ u.cell? ⟨w.heap.size, 1, none⟩ = some (.int .i64 e.pi) ∧ u.cell? ⟨w.heap.size, 2, none⟩ = some (.int .i64 e.nn) := fun u hu => ⟨(hu.cell (World.block_lt_of_cell? _ _ k0)).trans k0, (hu.cell (World.block_lt_of_cell? _ _ k1)).trans k1, (hu.cell (World.block_lt_of_cell? _ _ k2)).trans k2⟩
  have PK : Hid (∀ u : World, Below W.heap.size W u → Pow u) := fun u hu => HT.out u (below_app HB hu HB.size)
  clear HT
  have HI : Hid (∀ j, In64 (fn2 e.sr e.nn j)) := in_fn2 i1 i4
  have HJ : Hid (∀ j, In64 (fn1 e.pi j)) := in_fn1 i2
  have sz1 := say_size (⟨#[104, 117, 114, 116]⟩ : ByteArray) (fn2 e.sr e.nn) (by decide) HI.out 2
  have sz2 := say_size (⟨#[32, 112, 105, 101, 99, 101]⟩ : ByteArray) (fn1 e.pi) (by decide) HJ.out 1
  clear i1 i2 i3 i4 i5
  have hD : Below W.heap.size W W.drew := (Below.refl _ W).drew
  have bA := ((Below.refl _ W).alloc (Nat.le_refl _) (.cells #[.int .i64 e.sr, .int .i64 e.nn] 3)).drew
  have bA' := ((Below.refl _ W).alloc (Nat.le_refl _) (.cells #[.int .i64 e.pi] 3)).drew
  have bB := (((Below.refl _ W).alloc (Nat.le_refl _) (.cells #[.int .i64 e.sr, .int .i64 e.nn] 3)).alloc (by simp) (.cells #[.int .i64 e.pi] 3)).drew
  have bC := (((Below.refl _ W).alloc (Nat.le_refl _) (.cells #[.int .i64 e.pi] 3)).alloc (by simp) (.cells #[.int .i64 e.sr, .int .i64 e.nn] 3)).drew
  have rA1 : Rd .i64 (W.alloc (.cells #[.int .i64 e.sr, .int .i64 e.nn] 3)).drew W.heap.size (some ⟨W.heap.size, 0, none⟩) 2 (fn2 e.sr e.nn) := rd2_at (t := 3) (heap_alloc_new W _)
  have rB1 : Rd .i64 ((W.alloc (.cells #[.int .i64 e.sr, .int .i64 e.nn] 3)).alloc (.cells #[.int .i64 e.pi] 3)).drew W.heap.size (some ⟨W.heap.size, 0, none⟩) 2 (fn2 e.sr e.nn) := rd2_at (t := 3) ((Below.heap_alloc _ _ _ (by simp)).trans (heap_alloc_new W _))
  have rB2 : Rd .i64 ((W.alloc (.cells #[.int .i64 e.sr, .int .i64 e.nn] 3)).alloc (.cells #[.int .i64 e.pi] 3)).drew (W.heap.size + 1) (some ⟨W.heap.size + 1, 0, none⟩) 1 (fn1 e.pi) := rd1_at (t := 3) (heap_alloc2_new W _ _)
  have rC1 : Rd .i64 ((W.alloc (.cells #[.int .i64 e.pi] 3)).alloc (.cells #[.int .i64 e.sr, .int .i64 e.nn] 3)).drew (W.heap.size + 1) (some ⟨W.heap.size + 1, 0, none⟩) 2 (fn2 e.sr e.nn) := rd2_at (t := 3) (heap_alloc2_new W _ _)
  have rC2 : Rd .i64 ((W.alloc (.cells #[.int .i64 e.pi] 3)).alloc (.cells #[.int .i64 e.sr, .int .i64 e.nn] 3)).drew W.heap.size (some ⟨W.heap.size, 0, none⟩) 1 (fn1 e.pi) := rd1_at (t := 3) ((Below.heap_alloc _ _ _ (by simp)).trans (heap_alloc_new W _))
  go_enter Tryd.func10, Tryd.ntmps10
  go_wp2_with fail
  go_region_held (fun u : World => u.cell? ⟨w.heap.size, 0, none⟩ = some (.int .i64 e.sr) ∧ u.cell? ⟨w.heap.size, 1, none⟩ = some (.int .i64 e.pi) ∧ u.cell? ⟨w.heap.size, 2, none⟩ = some (.int .i64 e.nn)) (first | (refine SK _ ?_; first | with_reducible exact hD | with_reducible exact bA | with_reducible exact bA' | with_reducible exact bB | with_reducible exact bC | with_reducible exact hq2 | with_reducible exact hq1 | with_reducible exact hq1.alloc hq1.size _)) (first | (go_at_call 14; have hq0 := hq1; refine (said_any (⟨#[32, 112, 105, 101, 99, 101]⟩ : ByteArray) _ 1 1 _ (fn1 e.pi) _ (by omega) (by decide) HJ.out (by first | with_reducible exact rd2 | exact rd1_at (t := 3) (heap_alloc_new v1 _)) (PK.out _ (by first | with_reducible exact hq1 | with_reducible exact hq1.alloc hq1.size _))).mono ?_; rintro r v2 ⟨rfl, hb2⟩; have hq2 : Below W.heap.size W v2 := (by first | with_reducible exact below_app hq1 hb2 hq1.size | with_reducible exact below_app (hq1.alloc hq1.size _) hb2 (hq1.alloc hq1.size _).size)) | (go_at_call 14; refine (said_any (⟨#[104, 117, 114, 116]⟩ : ByteArray) _ 2 2 _ (fn2 e.sr e.nn) _ (by omega) (by decide) HI.out (by first | with_reducible exact rA1 | with_reducible exact rB1 | with_reducible exact rC1) (PK.out _ (by first | with_reducible exact bA | with_reducible exact bB | with_reducible exact bC))).mono ?_; rintro r v1 ⟨rfl, hb1⟩; have hq1 : Below W.heap.size W v1 := (by first | with_reducible exact below_app bA hb1 bA.size | with_reducible exact below_app bB hb1 bB.size | with_reducible exact below_app bC hb1 bC.size); (first | with_reducible (have rd2 := rB2.grew hb1) | with_reducible (have rd2 := rC2.grew hb1) | skip)))
  all_goals go_wp2
  all_goals go_ret
  all_goals exact ⟨rfl, below_app HB hq2 HB.size⟩
def tt_sh (e : Ev) : ByteArray := say (⟨#[104, 117, 114, 116]⟩ : ByteArray) (fn2 e.sr e.nn) 2 ++ say (⟨#[32, 115, 105, 100, 101]⟩ : ByteArray) (fn1 e.si) 1
set_option maxHeartbeats 4000000 in
theorem thingText_sh (e : Ev) (hw : wf64 e) (w : World) (ht : Pow w) : Calls Tryd.prog 10 #[(.iface 43 (.agg #[.int .i64 e.sr, .int .i64 e.si, .int .i64 e.nn]))] w fun r w' => r = .returned (.string (tt_sh e)) ∧ Below w.heap.size w w' := by
  obtain ⟨i1, i2, i3, i4, i5⟩ := hw
  have as_ph : ∀ w : World, (Instr.typeAssert (.iface 43 (.agg #[.int .i64 e.sr, .int .i64 e.si, .int .i64 e.nn])) 31 40 true).run Tryd.prog w = .ok (.tuple #[.agg #[.int .i64 0, .int .i64 0, .int .i64 0], .bool false]) w := run_as_no Tryd.underlying40 (by kernel_rfl) (by decide) _
  have as_sh : ∀ w : World, (Instr.typeAssert (.iface 43 (.agg #[.int .i64 e.sr, .int .i64 e.si, .int .i64 e.nn])) 31 43 true).run Tryd.prog w = .ok (.tuple #[(.agg #[.int .i64 e.sr, .int .i64 e.si, .int .i64 e.nn]), .bool true]) w := run_as_yes Tryd.underlying43 _
  have HB := (Below.refl _ w).alloc (Nat.le_refl _) (.cells #[.int .i64 e.sr, .int .i64 e.si, .int .i64 e.nn] 43)
  have bx : (w.alloc (.cells #[.int .i64 e.sr, .int .i64 e.si, .int .i64 e.nn] 43)).heap[w.heap.size]? = some (.cells #[.int .i64 e.sr, .int .i64 e.si, .int .i64 e.nn] 43 (0, 0)) := heap_alloc_new w _
  have HT : Hid (∀ u : World, Below w.heap.size w u → Pow u) := fun u hu => ht.below hu
  clear ht
  generalize hW : w.alloc (.cells #[.int .i64 e.sr, .int .i64 e.si, .int .i64 e.nn] 43) = W at HB bx
  have k0 : W.cell? ⟨w.heap.size, 0, none⟩ = some (.int .i64 e.sr) := cell_of_row W w.heap.size 0 _ _ (0, 0) bx
  have k1 : W.cell? ⟨w.heap.size, 1, none⟩ = some (.int .i64 e.si) := cell_of_row W w.heap.size 1 _ _ (0, 0) bx
  have k2 : W.cell? ⟨w.heap.size, 2, none⟩ = some (.int .i64 e.nn) := cell_of_row W w.heap.size 2 _ _ (0, 0) bx
  have SK : ∀ u : World, Below W.heap.size W u → u.cell? ⟨w.heap.size, 0, none⟩ = some (.int .i64 e.sr) ∧ u.cell? ⟨w.heap.size, 1, none⟩ = some (.int .i64 e.si) ∧ u.cell? ⟨w.heap.size, 2, none⟩ = some (.int .i64 e.nn) := fun u hu => ⟨(hu.cell (World.block_lt_of_cell? _ _ k0)).trans k0, (hu.cell (World.block_lt_of_cell? _ _ k1)).trans k1, (hu.cell (World.block_lt_of_cell? _ _ k2)).trans k2⟩
  have PK : Hid (∀ u : World, Below W.heap.size W u → Pow u) := fun u hu => HT.out u (below_app HB hu HB.size)
  clear HT
  have HI : Hid (∀ j, In64 (fn2 e.sr e.nn j)) := in_fn2 i1 i4
  have HJ : Hid (∀ j, In64 (fn1 e.si j)) := in_fn1 i3
  have sz1 := say_size (⟨#[104, 117, 114, 116]⟩ : ByteArray) (fn2 e.sr e.nn) (by decide) HI.out 2
  have sz2 := say_size (⟨#[32, 115, 105, 100, 101]⟩ : ByteArray) (fn1 e.si) (by decide) HJ.out 1
  clear i1 i2 i3 i4 i5
  have hD : Below W.heap.size W W.drew := (Below.refl _ W).drew
  have bA := ((Below.refl _ W).alloc (Nat.le_refl _) (.cells #[.int .i64 e.sr, .int .i64 e.nn] 3)).drew
  have bA' := ((Below.refl _ W).alloc (Nat.le_refl _) (.cells #[.int .i64 e.si] 3)).drew
  have bB := (((Below.refl _ W).alloc (Nat.le_refl _) (.cells #[.int .i64 e.sr, .int .i64 e.nn] 3)).alloc (by simp) (.cells #[.int .i64 e.si] 3)).drew
  have bC := (((Below.refl _ W).alloc (Nat.le_refl _) (.cells #[.int .i64 e.si] 3)).alloc (by simp) (.cells #[.int .i64 e.sr, .int .i64 e.nn] 3)).drew
  have rA1 : Rd .i64 (W.alloc (.cells #[.int .i64 e.sr, .int .i64 e.nn] 3)).drew W.heap.size (some ⟨W.heap.size, 0, none⟩) 2 (fn2 e.sr e.nn) := rd2_at (t := 3) (heap_alloc_new W _)
  have rB1 : Rd .i64 ((W.alloc (.cells #[.int .i64 e.sr, .int .i64 e.nn] 3)).alloc (.cells #[.int .i64 e.si] 3)).drew W.heap.size (some ⟨W.heap.size, 0, none⟩) 2 (fn2 e.sr e.nn) := rd2_at (t := 3) ((Below.heap_alloc _ _ _ (by simp)).trans (heap_alloc_new W _))
  have rB2 : Rd .i64 ((W.alloc (.cells #[.int .i64 e.sr, .int .i64 e.nn] 3)).alloc (.cells #[.int .i64 e.si] 3)).drew (W.heap.size + 1) (some ⟨W.heap.size + 1, 0, none⟩) 1 (fn1 e.si) := rd1_at (t := 3) (heap_alloc2_new W _ _)
  have rC1 : Rd .i64 ((W.alloc (.cells #[.int .i64 e.si] 3)).alloc (.cells #[.int .i64 e.sr, .int .i64 e.nn] 3)).drew (W.heap.size + 1) (some ⟨W.heap.size + 1, 0, none⟩) 2 (fn2 e.sr e.nn) := rd2_at (t := 3) (heap_alloc2_new W _ _)
  have rC2 : Rd .i64 ((W.alloc (.cells #[.int .i64 e.si] 3)).alloc (.cells #[.int .i64 e.sr, .int .i64 e.nn] 3)).drew W.heap.size (some ⟨W.heap.size, 0, none⟩) 1 (fn1 e.si) := rd1_at (t := 3) ((Below.heap_alloc _ _ _ (by simp)).trans (heap_alloc_new W _))
  go_enter Tryd.func10, Tryd.ntmps10
  go_wp2_with fail
  go_region_held (fun u : World => u.cell? ⟨w.heap.size, 0, none⟩ = some (.int .i64 e.sr) ∧ u.cell? ⟨w.heap.size, 1, none⟩ = some (.int .i64 e.si) ∧ u.cell? ⟨w.heap.size, 2, none⟩ = some (.int .i64 e.nn)) (first | (refine SK _ ?_; first | with_reducible exact hD | with_reducible exact bA | with_reducible exact bA' | with_reducible exact bB | with_reducible exact bC | with_reducible exact hq2 | with_reducible exact hq1 | with_reducible exact hq1.alloc hq1.size _)) (first | (go_at_call 14; have hq0 := hq1; refine (said_any (⟨#[32, 115, 105, 100, 101]⟩ : ByteArray) _ 1 1 _ (fn1 e.si) _ (by omega) (by decide) HJ.out (by first | with_reducible exact rd2 | exact rd1_at (t := 3) (heap_alloc_new v1 _)) (PK.out _ (by first | with_reducible exact hq1 | with_reducible exact hq1.alloc hq1.size _))).mono ?_; rintro r v2 ⟨rfl, hb2⟩; have hq2 : Below W.heap.size W v2 := (by first | with_reducible exact below_app hq1 hb2 hq1.size | with_reducible exact below_app (hq1.alloc hq1.size _) hb2 (hq1.alloc hq1.size _).size)) | (go_at_call 14; refine (said_any (⟨#[104, 117, 114, 116]⟩ : ByteArray) _ 2 2 _ (fn2 e.sr e.nn) _ (by omega) (by decide) HI.out (by first | with_reducible exact rA1 | with_reducible exact rB1 | with_reducible exact rC1) (PK.out _ (by first | with_reducible exact bA | with_reducible exact bB | with_reducible exact bC))).mono ?_; rintro r v1 ⟨rfl, hb1⟩; have hq1 : Below W.heap.size W v1 := (by first | with_reducible exact below_app bA hb1 bA.size | with_reducible exact below_app bB hb1 bB.size | with_reducible exact below_app bC hb1 bC.size); (first | with_reducible (have rd2 := rB2.grew hb1) | with_reducible (have rd2 := rC2.grew hb1) | skip)))
  all_goals go_wp2
  all_goals go_ret
  all_goals exact ⟨rfl, below_app HB hq2 HB.size⟩
def tt_pm (e : Ev) : ByteArray := say (⟨#[109, 111, 118, 101]⟩ : ByteArray) (fn3 e.pi e.zo e.nn) 3 ++ bnB e.be
set_option maxHeartbeats 4000000 in
theorem thingText_pm (e : Ev) (hw : wf64 e) (w : World) (ht : Pow w) : Calls Tryd.prog 10 #[(.iface 45 (.agg #[.int .i64 e.pi, .int .i64 e.zo, .int .i64 e.nn, .bool e.be]))] w fun r w' => r = .returned (.string (tt_pm e)) ∧ Below w.heap.size w w' := by
  obtain ⟨i1, i2, i3, i4, i5⟩ := hw
  have as_ph : ∀ w : World, (Instr.typeAssert (.iface 45 (.agg #[.int .i64 e.pi, .int .i64 e.zo, .int .i64 e.nn, .bool e.be])) 31 40 true).run Tryd.prog w = .ok (.tuple #[.agg #[.int .i64 0, .int .i64 0, .int .i64 0], .bool false]) w := run_as_no Tryd.underlying40 (by kernel_rfl) (by decide) _
  have as_sh : ∀ w : World, (Instr.typeAssert (.iface 45 (.agg #[.int .i64 e.pi, .int .i64 e.zo, .int .i64 e.nn, .bool e.be])) 31 43 true).run Tryd.prog w = .ok (.tuple #[.agg #[.int .i64 0, .int .i64 0, .int .i64 0], .bool false]) w := run_as_no Tryd.underlying43 (by kernel_rfl) (by decide) _
  have as_pm : ∀ w : World, (Instr.typeAssert (.iface 45 (.agg #[.int .i64 e.pi, .int .i64 e.zo, .int .i64 e.nn, .bool e.be])) 31 45 true).run Tryd.prog w = .ok (.tuple #[(.agg #[.int .i64 e.pi, .int .i64 e.zo, .int .i64 e.nn, .bool e.be]), .bool true]) w := run_as_yes Tryd.underlying45 _
  have HB := (Below.refl _ w).alloc (Nat.le_refl _) (.cells #[.int .i64 e.pi, .int .i64 e.zo, .int .i64 e.nn, .bool e.be] 45)
  have bx : (w.alloc (.cells #[.int .i64 e.pi, .int .i64 e.zo, .int .i64 e.nn, .bool e.be] 45)).heap[w.heap.size]? = some (.cells #[.int .i64 e.pi, .int .i64 e.zo, .int .i64 e.nn, .bool e.be] 45 (0, 0)) := heap_alloc_new w _
  have HT : Hid (∀ u : World, Below w.heap.size w u → Pow u) := fun u hu => ht.below hu
  clear ht
  generalize hW : w.alloc (.cells #[.int .i64 e.pi, .int .i64 e.zo, .int .i64 e.nn, .bool e.be] 45) = W at HB bx
  have k0 : W.cell? ⟨w.heap.size, 0, none⟩ = some (.int .i64 e.pi) := cell_of_row W w.heap.size 0 _ _ (0, 0) bx
  have k1 : W.cell? ⟨w.heap.size, 1, none⟩ = some (.int .i64 e.zo) := cell_of_row W w.heap.size 1 _ _ (0, 0) bx
  have k2 : W.cell? ⟨w.heap.size, 2, none⟩ = some (.int .i64 e.nn) := cell_of_row W w.heap.size 2 _ _ (0, 0) bx
  have k3 : W.cell? ⟨w.heap.size, 3, none⟩ = some (.bool e.be) := cell_of_row W w.heap.size 3 _ _ (0, 0) bx
  have SK : ∀ u : World, Below W.heap.size W u → u.cell? ⟨w.heap.size, 0, none⟩ = some (.int .i64 e.pi) ∧ u.cell? ⟨w.heap.size, 1, none⟩ = some (.int .i64 e.zo) ∧ u.cell? ⟨w.heap.size, 2, none⟩ = some (.int .i64 e.nn) ∧ u.cell? ⟨w.heap.size, 3, none⟩ = some (.bool e.be) := fun u hu => ⟨(hu.cell (World.block_lt_of_cell? _ _ k0)).trans k0, (hu.cell (World.block_lt_of_cell? _ _ k1)).trans k1, (hu.cell (World.block_lt_of_cell? _ _ k2)).trans k2, (hu.cell (World.block_lt_of_cell? _ _ k3)).trans k3⟩
  have PK : Hid (∀ u : World, Below W.heap.size W u → Pow u) := fun u hu => HT.out u (below_app HB hu HB.size)
  clear HT
  have HI : Hid (∀ j, In64 (fn3 e.pi e.zo e.nn j)) := in_fn3 i2 i5 i4
  have sz1 := say_size (⟨#[109, 111, 118, 101]⟩ : ByteArray) (fn3 e.pi e.zo e.nn) (by decide) HI.out 3
  have sz2 : (bnB e.be).size ≤ 5 := by unfold bnB; split <;> decide
  clear i1 i2 i3 i4 i5
  have bA := ((Below.refl _ W).alloc (Nat.le_refl _) (.cells #[.int .i64 e.pi, .int .i64 e.zo, .int .i64 e.nn] 3)).drew
  have rA : Rd .i64 (W.alloc (.cells #[.int .i64 e.pi, .int .i64 e.zo, .int .i64 e.nn] 3)).drew W.heap.size (some ⟨W.heap.size, 0, none⟩) 3 (fn3 e.pi e.zo e.nn) := rd3_at (t := 3) (heap_alloc_new W _)
  have hD : Below W.heap.size W W.drew := (Below.refl _ W).drew
  go_enter Tryd.func10, Tryd.ntmps10
  go_wp2_with fail
  go_region_held (fun u : World => u.cell? ⟨w.heap.size, 0, none⟩ = some (.int .i64 e.pi) ∧ u.cell? ⟨w.heap.size, 1, none⟩ = some (.int .i64 e.zo) ∧ u.cell? ⟨w.heap.size, 2, none⟩ = some (.int .i64 e.nn) ∧ u.cell? ⟨w.heap.size, 3, none⟩ = some (.bool e.be)) (first | (refine SK _ ?_; first | with_reducible exact hD | with_reducible exact bA | with_reducible exact hq1)) (first | (go_at_call 14; refine (said_any (⟨#[109, 111, 118, 101]⟩ : ByteArray) _ 3 3 _ (fn3 e.pi e.zo e.nn) _ (by omega) (by decide) HI.out (by with_reducible exact rA) (PK.out _ (by with_reducible exact bA))).mono ?_; rintro r v1 ⟨rfl, hb1⟩; have hq1 : Below W.heap.size W v1 := below_app bA hb1 bA.size) | (go_at_call 15; refine (bentText_any _ _).mono ?_; rintro r v2 ⟨rfl, rfl⟩))
  all_goals go_wp2
  all_goals go_ret
  all_goals exact ⟨rfl, below_app HB hq1 HB.size⟩
def tt_sg (e : Ev) : ByteArray := say (⟨#[103, 97, 105, 110]⟩ : ByteArray) (fn2 e.si e.nn) 2
set_option maxHeartbeats 4000000 in
theorem thingText_sg (e : Ev) (hw : wf64 e) (w : World) (ht : Pow w) : Calls Tryd.prog 10 #[(.iface 48 (.agg #[.int .i64 e.si, .int .i64 e.nn]))] w fun r w' => r = .returned (.string (tt_sg e)) ∧ Below w.heap.size w w' := by
  obtain ⟨i1, i2, i3, i4, i5⟩ := hw
  have as_ph : ∀ w : World, (Instr.typeAssert (.iface 48 (.agg #[.int .i64 e.si, .int .i64 e.nn])) 31 40 true).run Tryd.prog w = .ok (.tuple #[.agg #[.int .i64 0, .int .i64 0, .int .i64 0], .bool false]) w := run_as_no Tryd.underlying40 (by kernel_rfl) (by decide) _
  have as_sh : ∀ w : World, (Instr.typeAssert (.iface 48 (.agg #[.int .i64 e.si, .int .i64 e.nn])) 31 43 true).run Tryd.prog w = .ok (.tuple #[.agg #[.int .i64 0, .int .i64 0, .int .i64 0], .bool false]) w := run_as_no Tryd.underlying43 (by kernel_rfl) (by decide) _
  have as_pm : ∀ w : World, (Instr.typeAssert (.iface 48 (.agg #[.int .i64 e.si, .int .i64 e.nn])) 31 45 true).run Tryd.prog w = .ok (.tuple #[.agg #[.int .i64 0, .int .i64 0, .int .i64 0, .bool false], .bool false]) w := run_as_no Tryd.underlying45 (by kernel_rfl) (by decide) _
  have as_sg : ∀ w : World, (Instr.typeAssert (.iface 48 (.agg #[.int .i64 e.si, .int .i64 e.nn])) 31 48 true).run Tryd.prog w = .ok (.tuple #[(.agg #[.int .i64 e.si, .int .i64 e.nn]), .bool true]) w := run_as_yes Tryd.underlying48 _
  have HB := (Below.refl _ w).alloc (Nat.le_refl _) (.cells #[.int .i64 e.si, .int .i64 e.nn] 48)
  have bx : (w.alloc (.cells #[.int .i64 e.si, .int .i64 e.nn] 48)).heap[w.heap.size]? = some (.cells #[.int .i64 e.si, .int .i64 e.nn] 48 (0, 0)) := heap_alloc_new w _
  have HT : Hid (∀ u : World, Below w.heap.size w u → Pow u) := fun u hu => ht.below hu
  clear ht
  have HI : Hid (∀ j, In64 (fn2 e.si e.nn j)) := in_fn2 i3 i4
  clear i1 i2 i3 i4 i5
  have bA := HB.alloc HB.size (.cells #[.int .i64 e.si, .int .i64 e.nn] 3)
  have rA : Rd .i64 ((w.alloc (.cells #[.int .i64 e.si, .int .i64 e.nn] 48)).alloc (.cells #[.int .i64 e.si, .int .i64 e.nn] 3)) (w.heap.size + 1) (some ⟨w.heap.size + 1, 0, none⟩) 2 (fn2 e.si e.nn) := rd2_at (t := 3) (heap_alloc2_new w _ _)
  have pA := HT.out _ bA
  have SA := said_any (⟨#[103, 97, 105, 110]⟩ : ByteArray) (w.heap.size + 1) 2 2 (some ⟨w.heap.size + 1, 0, none⟩) (fn2 e.si e.nn) _ (by omega) (by decide) HI.out rA pA
  have HS : Hid (Calls Tryd.prog 14 #[.string (⟨#[103, 97, 105, 110]⟩ : ByteArray), .slice (some ⟨w.heap.size + 1, 0, none⟩) 2 2] ((w.alloc (.cells #[.int .i64 e.si, .int .i64 e.nn] 48)).alloc (.cells #[.int .i64 e.si, .int .i64 e.nn] 3)) fun r w' => r = .returned (.string (say (⟨#[103, 97, 105, 110]⟩ : ByteArray) (fn2 e.si e.nn) 2)) ∧ Below ((w.alloc (.cells #[.int .i64 e.si, .int .i64 e.nn] 48)).alloc (.cells #[.int .i64 e.si, .int .i64 e.nn] 3)).heap.size ((w.alloc (.cells #[.int .i64 e.si, .int .i64 e.nn] 48)).alloc (.cells #[.int .i64 e.si, .int .i64 e.nn] 3)) w') := SA
  clear rA pA SA bx
  go_enter Tryd.func10, Tryd.ntmps10
  go_wp2_with fail
  refine HS.out.mono ?_
  rintro r w1 ⟨rfl, hb1⟩
  go_wp2
  go_ret
  exact ⟨rfl, below_app bA hb1 bA.size⟩
def tt_sl (e : Ev) : ByteArray := say (⟨#[108, 111, 115, 101]⟩ : ByteArray) (fn2 e.si e.nn) 2
set_option maxHeartbeats 4000000 in
theorem thingText_sl (e : Ev) (hw : wf64 e) (w : World) (ht : Pow w) : Calls Tryd.prog 10 #[(.iface 49 (.agg #[.int .i64 e.si, .int .i64 e.nn]))] w fun r w' => r = .returned (.string (tt_sl e)) ∧ Below w.heap.size w w' := by
  obtain ⟨i1, i2, i3, i4, i5⟩ := hw
  have as_ph : ∀ w : World, (Instr.typeAssert (.iface 49 (.agg #[.int .i64 e.si, .int .i64 e.nn])) 31 40 true).run Tryd.prog w = .ok (.tuple #[.agg #[.int .i64 0, .int .i64 0, .int .i64 0], .bool false]) w := run_as_no Tryd.underlying40 (by kernel_rfl) (by decide) _
  have as_sh : ∀ w : World, (Instr.typeAssert (.iface 49 (.agg #[.int .i64 e.si, .int .i64 e.nn])) 31 43 true).run Tryd.prog w = .ok (.tuple #[.agg #[.int .i64 0, .int .i64 0, .int .i64 0], .bool false]) w := run_as_no Tryd.underlying43 (by kernel_rfl) (by decide) _
  have as_pm : ∀ w : World, (Instr.typeAssert (.iface 49 (.agg #[.int .i64 e.si, .int .i64 e.nn])) 31 45 true).run Tryd.prog w = .ok (.tuple #[.agg #[.int .i64 0, .int .i64 0, .int .i64 0, .bool false], .bool false]) w := run_as_no Tryd.underlying45 (by kernel_rfl) (by decide) _
  have as_sg : ∀ w : World, (Instr.typeAssert (.iface 49 (.agg #[.int .i64 e.si, .int .i64 e.nn])) 31 48 true).run Tryd.prog w = .ok (.tuple #[.agg #[.int .i64 0, .int .i64 0], .bool false]) w := run_as_no Tryd.underlying48 (by kernel_rfl) (by decide) _
  have as_sl : ∀ w : World, (Instr.typeAssert (.iface 49 (.agg #[.int .i64 e.si, .int .i64 e.nn])) 31 49 true).run Tryd.prog w = .ok (.tuple #[(.agg #[.int .i64 e.si, .int .i64 e.nn]), .bool true]) w := run_as_yes Tryd.underlying49 _
  have HB := (Below.refl _ w).alloc (Nat.le_refl _) (.cells #[.int .i64 e.si, .int .i64 e.nn] 49)
  have bx : (w.alloc (.cells #[.int .i64 e.si, .int .i64 e.nn] 49)).heap[w.heap.size]? = some (.cells #[.int .i64 e.si, .int .i64 e.nn] 49 (0, 0)) := heap_alloc_new w _
  have HT : Hid (∀ u : World, Below w.heap.size w u → Pow u) := fun u hu => ht.below hu
  clear ht
  have HI : Hid (∀ j, In64 (fn2 e.si e.nn j)) := in_fn2 i3 i4
  clear i1 i2 i3 i4 i5
  have bA := HB.alloc HB.size (.cells #[.int .i64 e.si, .int .i64 e.nn] 3)
  have rA : Rd .i64 ((w.alloc (.cells #[.int .i64 e.si, .int .i64 e.nn] 49)).alloc (.cells #[.int .i64 e.si, .int .i64 e.nn] 3)) (w.heap.size + 1) (some ⟨w.heap.size + 1, 0, none⟩) 2 (fn2 e.si e.nn) := rd2_at (t := 3) (heap_alloc2_new w _ _)
  have pA := HT.out _ bA
  have SA := said_any (⟨#[108, 111, 115, 101]⟩ : ByteArray) (w.heap.size + 1) 2 2 (some ⟨w.heap.size + 1, 0, none⟩) (fn2 e.si e.nn) _ (by omega) (by decide) HI.out rA pA
  have HS : Hid (Calls Tryd.prog 14 #[.string (⟨#[108, 111, 115, 101]⟩ : ByteArray), .slice (some ⟨w.heap.size + 1, 0, none⟩) 2 2] ((w.alloc (.cells #[.int .i64 e.si, .int .i64 e.nn] 49)).alloc (.cells #[.int .i64 e.si, .int .i64 e.nn] 3)) fun r w' => r = .returned (.string (say (⟨#[108, 111, 115, 101]⟩ : ByteArray) (fn2 e.si e.nn) 2)) ∧ Below ((w.alloc (.cells #[.int .i64 e.si, .int .i64 e.nn] 49)).alloc (.cells #[.int .i64 e.si, .int .i64 e.nn] 3)).heap.size ((w.alloc (.cells #[.int .i64 e.si, .int .i64 e.nn] 49)).alloc (.cells #[.int .i64 e.si, .int .i64 e.nn] 3)) w') := SA
  clear rA pA SA bx
  go_enter Tryd.func10, Tryd.ntmps10
  go_wp2_with fail
  refine HS.out.mono ?_
  rintro r w1 ⟨rfl, hb1⟩
  go_wp2
  go_ret
  exact ⟨rfl, below_app bA hb1 bA.size⟩
def tt_pp (e : Ev) : ByteArray := say (⟨#[112, 117, 116]⟩ : ByteArray) (fn2 e.pi e.nn) 2
set_option maxHeartbeats 4000000 in
theorem thingText_pp (e : Ev) (hw : wf64 e) (w : World) (ht : Pow w) : Calls Tryd.prog 10 #[(.iface 51 (.agg #[.int .i64 e.pi, .int .i64 e.nn]))] w fun r w' => r = .returned (.string (tt_pp e)) ∧ Below w.heap.size w w' := by
  obtain ⟨i1, i2, i3, i4, i5⟩ := hw
  have as_ph : ∀ w : World, (Instr.typeAssert (.iface 51 (.agg #[.int .i64 e.pi, .int .i64 e.nn])) 31 40 true).run Tryd.prog w = .ok (.tuple #[.agg #[.int .i64 0, .int .i64 0, .int .i64 0], .bool false]) w := run_as_no Tryd.underlying40 (by kernel_rfl) (by decide) _
  have as_sh : ∀ w : World, (Instr.typeAssert (.iface 51 (.agg #[.int .i64 e.pi, .int .i64 e.nn])) 31 43 true).run Tryd.prog w = .ok (.tuple #[.agg #[.int .i64 0, .int .i64 0, .int .i64 0], .bool false]) w := run_as_no Tryd.underlying43 (by kernel_rfl) (by decide) _
  have as_pm : ∀ w : World, (Instr.typeAssert (.iface 51 (.agg #[.int .i64 e.pi, .int .i64 e.nn])) 31 45 true).run Tryd.prog w = .ok (.tuple #[.agg #[.int .i64 0, .int .i64 0, .int .i64 0, .bool false], .bool false]) w := run_as_no Tryd.underlying45 (by kernel_rfl) (by decide) _
  have as_sg : ∀ w : World, (Instr.typeAssert (.iface 51 (.agg #[.int .i64 e.pi, .int .i64 e.nn])) 31 48 true).run Tryd.prog w = .ok (.tuple #[.agg #[.int .i64 0, .int .i64 0], .bool false]) w := run_as_no Tryd.underlying48 (by kernel_rfl) (by decide) _
  have as_sl : ∀ w : World, (Instr.typeAssert (.iface 51 (.agg #[.int .i64 e.pi, .int .i64 e.nn])) 31 49 true).run Tryd.prog w = .ok (.tuple #[.agg #[.int .i64 0, .int .i64 0], .bool false]) w := run_as_no Tryd.underlying49 (by kernel_rfl) (by decide) _
  have as_pp : ∀ w : World, (Instr.typeAssert (.iface 51 (.agg #[.int .i64 e.pi, .int .i64 e.nn])) 31 51 true).run Tryd.prog w = .ok (.tuple #[(.agg #[.int .i64 e.pi, .int .i64 e.nn]), .bool true]) w := run_as_yes Tryd.underlying51 _
  have HB := (Below.refl _ w).alloc (Nat.le_refl _) (.cells #[.int .i64 e.pi, .int .i64 e.nn] 51)
  have bx : (w.alloc (.cells #[.int .i64 e.pi, .int .i64 e.nn] 51)).heap[w.heap.size]? = some (.cells #[.int .i64 e.pi, .int .i64 e.nn] 51 (0, 0)) := heap_alloc_new w _
  have HT : Hid (∀ u : World, Below w.heap.size w u → Pow u) := fun u hu => ht.below hu
  clear ht
  have HI : Hid (∀ j, In64 (fn2 e.pi e.nn j)) := in_fn2 i2 i4
  clear i1 i2 i3 i4 i5
  have bA := HB.alloc HB.size (.cells #[.int .i64 e.pi, .int .i64 e.nn] 3)
  have rA : Rd .i64 ((w.alloc (.cells #[.int .i64 e.pi, .int .i64 e.nn] 51)).alloc (.cells #[.int .i64 e.pi, .int .i64 e.nn] 3)) (w.heap.size + 1) (some ⟨w.heap.size + 1, 0, none⟩) 2 (fn2 e.pi e.nn) := rd2_at (t := 3) (heap_alloc2_new w _ _)
  have pA := HT.out _ bA
  have SA := said_any (⟨#[112, 117, 116]⟩ : ByteArray) (w.heap.size + 1) 2 2 (some ⟨w.heap.size + 1, 0, none⟩) (fn2 e.pi e.nn) _ (by omega) (by decide) HI.out rA pA
  have HS : Hid (Calls Tryd.prog 14 #[.string (⟨#[112, 117, 116]⟩ : ByteArray), .slice (some ⟨w.heap.size + 1, 0, none⟩) 2 2] ((w.alloc (.cells #[.int .i64 e.pi, .int .i64 e.nn] 51)).alloc (.cells #[.int .i64 e.pi, .int .i64 e.nn] 3)) fun r w' => r = .returned (.string (say (⟨#[112, 117, 116]⟩ : ByteArray) (fn2 e.pi e.nn) 2)) ∧ Below ((w.alloc (.cells #[.int .i64 e.pi, .int .i64 e.nn] 51)).alloc (.cells #[.int .i64 e.pi, .int .i64 e.nn] 3)).heap.size ((w.alloc (.cells #[.int .i64 e.pi, .int .i64 e.nn] 51)).alloc (.cells #[.int .i64 e.pi, .int .i64 e.nn] 3)) w') := SA
  clear rA pA SA bx
  go_enter Tryd.func10, Tryd.ntmps10
  go_wp2_with fail
  refine HS.out.mono ?_
  rintro r w1 ⟨rfl, hb1⟩
  go_wp2
  go_ret
  exact ⟨rfl, below_app bA hb1 bA.size⟩
def tt_pc (e : Ev) : ByteArray := say (⟨#[99, 117, 116]⟩ : ByteArray) (fn2 e.pi e.nn) 2
set_option maxHeartbeats 4000000 in
theorem thingText_pc (e : Ev) (hw : wf64 e) (w : World) (ht : Pow w) : Calls Tryd.prog 10 #[(.iface 52 (.agg #[.int .i64 e.pi, .int .i64 e.nn]))] w fun r w' => r = .returned (.string (tt_pc e)) ∧ Below w.heap.size w w' := by
  obtain ⟨i1, i2, i3, i4, i5⟩ := hw
  have as_ph : ∀ w : World, (Instr.typeAssert (.iface 52 (.agg #[.int .i64 e.pi, .int .i64 e.nn])) 31 40 true).run Tryd.prog w = .ok (.tuple #[.agg #[.int .i64 0, .int .i64 0, .int .i64 0], .bool false]) w := run_as_no Tryd.underlying40 (by kernel_rfl) (by decide) _
  have as_sh : ∀ w : World, (Instr.typeAssert (.iface 52 (.agg #[.int .i64 e.pi, .int .i64 e.nn])) 31 43 true).run Tryd.prog w = .ok (.tuple #[.agg #[.int .i64 0, .int .i64 0, .int .i64 0], .bool false]) w := run_as_no Tryd.underlying43 (by kernel_rfl) (by decide) _
  have as_pm : ∀ w : World, (Instr.typeAssert (.iface 52 (.agg #[.int .i64 e.pi, .int .i64 e.nn])) 31 45 true).run Tryd.prog w = .ok (.tuple #[.agg #[.int .i64 0, .int .i64 0, .int .i64 0, .bool false], .bool false]) w := run_as_no Tryd.underlying45 (by kernel_rfl) (by decide) _
  have as_sg : ∀ w : World, (Instr.typeAssert (.iface 52 (.agg #[.int .i64 e.pi, .int .i64 e.nn])) 31 48 true).run Tryd.prog w = .ok (.tuple #[.agg #[.int .i64 0, .int .i64 0], .bool false]) w := run_as_no Tryd.underlying48 (by kernel_rfl) (by decide) _
  have as_sl : ∀ w : World, (Instr.typeAssert (.iface 52 (.agg #[.int .i64 e.pi, .int .i64 e.nn])) 31 49 true).run Tryd.prog w = .ok (.tuple #[.agg #[.int .i64 0, .int .i64 0], .bool false]) w := run_as_no Tryd.underlying49 (by kernel_rfl) (by decide) _
  have as_pp : ∀ w : World, (Instr.typeAssert (.iface 52 (.agg #[.int .i64 e.pi, .int .i64 e.nn])) 31 51 true).run Tryd.prog w = .ok (.tuple #[.agg #[.int .i64 0, .int .i64 0], .bool false]) w := run_as_no Tryd.underlying51 (by kernel_rfl) (by decide) _
  have as_pc : ∀ w : World, (Instr.typeAssert (.iface 52 (.agg #[.int .i64 e.pi, .int .i64 e.nn])) 31 52 true).run Tryd.prog w = .ok (.tuple #[(.agg #[.int .i64 e.pi, .int .i64 e.nn]), .bool true]) w := run_as_yes Tryd.underlying52 _
  have HB := (Below.refl _ w).alloc (Nat.le_refl _) (.cells #[.int .i64 e.pi, .int .i64 e.nn] 52)
  have bx : (w.alloc (.cells #[.int .i64 e.pi, .int .i64 e.nn] 52)).heap[w.heap.size]? = some (.cells #[.int .i64 e.pi, .int .i64 e.nn] 52 (0, 0)) := heap_alloc_new w _
  have HT : Hid (∀ u : World, Below w.heap.size w u → Pow u) := fun u hu => ht.below hu
  clear ht
  have HI : Hid (∀ j, In64 (fn2 e.pi e.nn j)) := in_fn2 i2 i4
  clear i1 i2 i3 i4 i5
  have bA := HB.alloc HB.size (.cells #[.int .i64 e.pi, .int .i64 e.nn] 3)
  have rA : Rd .i64 ((w.alloc (.cells #[.int .i64 e.pi, .int .i64 e.nn] 52)).alloc (.cells #[.int .i64 e.pi, .int .i64 e.nn] 3)) (w.heap.size + 1) (some ⟨w.heap.size + 1, 0, none⟩) 2 (fn2 e.pi e.nn) := rd2_at (t := 3) (heap_alloc2_new w _ _)
  have pA := HT.out _ bA
  have SA := said_any (⟨#[99, 117, 116]⟩ : ByteArray) (w.heap.size + 1) 2 2 (some ⟨w.heap.size + 1, 0, none⟩) (fn2 e.pi e.nn) _ (by omega) (by decide) HI.out rA pA
  have HS : Hid (Calls Tryd.prog 14 #[.string (⟨#[99, 117, 116]⟩ : ByteArray), .slice (some ⟨w.heap.size + 1, 0, none⟩) 2 2] ((w.alloc (.cells #[.int .i64 e.pi, .int .i64 e.nn] 52)).alloc (.cells #[.int .i64 e.pi, .int .i64 e.nn] 3)) fun r w' => r = .returned (.string (say (⟨#[99, 117, 116]⟩ : ByteArray) (fn2 e.pi e.nn) 2)) ∧ Below ((w.alloc (.cells #[.int .i64 e.pi, .int .i64 e.nn] 52)).alloc (.cells #[.int .i64 e.pi, .int .i64 e.nn] 3)).heap.size ((w.alloc (.cells #[.int .i64 e.pi, .int .i64 e.nn] 52)).alloc (.cells #[.int .i64 e.pi, .int .i64 e.nn] 3)) w') := SA
  clear rA pA SA bx
  go_enter Tryd.func10, Tryd.ntmps10
  go_wp2_with fail
  refine HS.out.mono ?_
  rintro r w1 ⟨rfl, hb1⟩
  go_wp2
  go_ret
  exact ⟨rfl, below_app bA hb1 bA.size⟩
end Go.Proofs.YtjpimkolkhbflaqDoor
