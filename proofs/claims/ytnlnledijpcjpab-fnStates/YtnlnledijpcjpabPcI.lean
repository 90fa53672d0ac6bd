/-
  Chapter 4: the program's between, Moved, asPrinted, SamePiece, HasTrait, withCounters, PowerOf, ToughOf, flagNum. Chapter 4: the program's between, Moved, asPrinted, SamePiece, HasTrait, withCounters, PowerOf, ToughOf, flagNum. Own work.
-/
import Derived.Test.YtnlnledijpcjpabPiece3
import Derived.Test.YtnlnledijpcjpabRegs
namespace Go.Proofs.Ytnlnledijpcjpab
open Go.ChangeShapes Go.WideShapes Go.ChangeAt Go.RowKit
set_option maxRecDepth 100000

theorem between_any (x a b : Int) (w : World) : Calls Try.prog 81 #[.int .i64 x, .int .i64 a, .int .i64 b] w fun e w' => e = .returned (.bool (ib x a b)) ∧ w' = w := by
  go_enter Try.func81, Try.ntmps81
  go_wp2
  all_goals go_ret
  all_goals refine ⟨ret_bool' ?_, rfl⟩
  all_goals (unfold ib; simp_all <;> omega)
theorem flagNum_any (b : Bool) (w : World) : Calls Try.prog 107 #[.bool b] w fun e w' => e = .returned (.int .i64 (if b then 1 else 0)) ∧ w' = w := by
  cases b
  all_goals
    go_enter Try.func107, Try.ntmps107
    go_wp2
    go_ret
    exact ⟨rfl, rfl⟩
set_option maxHeartbeats 2000000 in
theorem implMoved_any (p : Pc) (z s : Int) (w : World) :
    Calls Try.prog 25 #[(.agg #[.int .i64 p.id, .int .i64 p.ow, .int .i64 p.si, .int .i64 p.zo, .int .i64 p.st, .int .i64 p.po, .int .i64 p.to, .int .i64 p.tr, .int .i64 p.pl, .int .i64 p.mi, .int .i64 p.ma, .bool p.de, .bool p.be]), .int .i64 z, .int .i64 s] w fun e w' => e = .returned (.agg #[.int .i64 (mvP p z s).id, .int .i64 (mvP p z s).ow, .int .i64 (mvP p z s).si, .int .i64 (mvP p z s).zo, .int .i64 (mvP p z s).st, .int .i64 (mvP p z s).po, .int .i64 (mvP p z s).to, .int .i64 (mvP p z s).tr, .int .i64 (mvP p z s).pl, .int .i64 (mvP p z s).mi, .int .i64 (mvP p z s).ma, .bool (mvP p z s).de, .bool (mvP p z s).be]) ∧ Below w.heap.size w w' := by
  go_enter Try.func25, Try.ntmps25
  go_wp2
  (try simp only [Exit.inBlock, Exit.then]); refine bodyPost_ret (results_cell_row rfl _ _ (w.heap.size + 1) _ _ _ _ rfl (heap_alloc2_new _ _ _) Try.underlying31 rfl (by kernel_rfl)) rfl ?_
  exact ⟨rfl, ((Below.refl _ w).alloc (Nat.le_refl _) _).alloc (by simp) _⟩
set_option maxHeartbeats 4000000 in
theorem implSamePiece_any (p q : Pc) (w : World) :
    Calls Try.prog 36 #[(.agg #[.int .i64 p.id, .int .i64 p.ow, .int .i64 p.si, .int .i64 p.zo, .int .i64 p.st, .int .i64 p.po, .int .i64 p.to, .int .i64 p.tr, .int .i64 p.pl, .int .i64 p.mi, .int .i64 p.ma, .bool p.de, .bool p.be]), (.agg #[.int .i64 q.id, .int .i64 q.ow, .int .i64 q.si, .int .i64 q.zo, .int .i64 q.st, .int .i64 q.po, .int .i64 q.to, .int .i64 q.tr, .int .i64 q.pl, .int .i64 q.mi, .int .i64 q.ma, .bool q.de, .bool q.be])] w fun e w' => e = .returned (.bool (smP p q)) ∧ Below w.heap.size w w' := by
  go_enter Try.func36, Try.ntmps36
  go_wp2
  all_goals go_ret
  all_goals refine ⟨ret_bool' ?_, ((Below.refl _ w).alloc (Nat.le_refl _) _).alloc (by simp) _⟩
  all_goals (unfold smP; simp_all)
set_option maxHeartbeats 4000000 in
theorem implHasTrait_any (p : Pc) (t : Int) (w : World) :
    Calls Try.prog 29 #[(.agg #[.int .i64 p.id, .int .i64 p.ow, .int .i64 p.si, .int .i64 p.zo, .int .i64 p.st, .int .i64 p.po, .int .i64 p.to, .int .i64 p.tr, .int .i64 p.pl, .int .i64 p.mi, .int .i64 p.ma, .bool p.de, .bool p.be]), .int .i64 t] w fun e w' => e = .returned (.bool (htP p t)) ∧ Below w.heap.size w w' := by
  by_cases h : t = 1 ∨ t = 2 ∨ t = 4 ∨ t = 8 ∨ t = 16 ∨ t = 32
  · rcases h with rfl | rfl | rfl | rfl | rfl | rfl
    all_goals
      go_enter Try.func29, Try.ntmps29
      go_wp2
      go_ret
      exact ⟨ret_bool' (htP_is (by decide)).symm, (Below.refl _ w).alloc (Nat.le_refl _) _⟩
  · have h1 : ¬ t = 1 := fun e => h (by omega)
    have h2 : ¬ t = 2 := fun e => h (by omega)
    have h3 : ¬ t = 4 := fun e => h (by omega)
    have h4 : ¬ t = 8 := fun e => h (by omega)
    have h5 : ¬ t = 16 := fun e => h (by omega)
    have h6 : ¬ t = 32 := fun e => h (by omega)
    have HT : Hid (htP p t = false) := by show htP p t = false; unfold htP isT; simp [h1, h2, h3, h4, h5, h6]
    clear h
    go_enter Try.func29, Try.ntmps29
    go_wp2
    go_ret
    first
      | exact ⟨ret_bool' HT.out.symm, (Below.refl _ w).alloc (Nat.le_refl _) _⟩
      | (refine ⟨ret_bool' ?_, (Below.refl _ w).alloc (Nat.le_refl _) _⟩; rw [HT.out]; simp [*])
set_option maxHeartbeats 4000000 in
theorem withCounters_any (p : Pc) (n : Int) (w : World) :
    Calls Try.prog 84 #[(.agg #[.int .i64 p.id, .int .i64 p.ow, .int .i64 p.si, .int .i64 p.zo, .int .i64 p.st, .int .i64 p.po, .int .i64 p.to, .int .i64 p.tr, .int .i64 p.pl, .int .i64 p.mi, .int .i64 p.ma, .bool p.de, .bool p.be]), .int .i64 n] w fun e w' => e = .returned (.int .i64 (ls (pl n p.pl) p.mi)) ∧ Below w.heap.size w w' := by
  have hb0 := (Below.refl _ w).alloc (Nat.le_refl _) (.cells #[.int .i64 p.id, .int .i64 p.ow, .int .i64 p.si, .int .i64 p.zo, .int .i64 p.st, .int .i64 p.po, .int .i64 p.to, .int .i64 p.tr, .int .i64 p.pl, .int .i64 p.mi, .int .i64 p.ma, .bool p.de, .bool p.be] 31)
  have bx := box_new w 31 p
  generalize hW : w.alloc (.cells #[.int .i64 p.id, .int .i64 p.ow, .int .i64 p.si, .int .i64 p.zo, .int .i64 p.st, .int .i64 p.po, .int .i64 p.to, .int .i64 p.tr, .int .i64 p.pl, .int .i64 p.mi, .int .i64 p.ma, .bool p.de, .bool p.be] 31) = W at hb0 bx
  have hne := bw_ne W
  have c8 := fun x : BW W => x.cell bx.cells.2.2.2.2.2.2.2.2.1
  have c9 := fun x : BW W => x.cell bx.cells.2.2.2.2.2.2.2.2.2.1
  go_enter Try.func84, Try.ntmps84
  go_wp2_with fail
  refine wp_region_below_lit (W := W) 8 (by kernel_rfl) (by kernel_rfl) (by decide) (Below.refl _ _) (by intro c d v a w h; cases d <;> exact h) ?_
  simp only [List.take_succ_cons, List.take_zero, List.drop_succ_cons, List.drop_zero]
  repeat (go_big_quiet_step (first | (go_at_call 128; refine quiet_below ((implPlus_b _ _ (Below.refl _ _) (Nat.le_refl _)).mono fun _ _ h => ⟨h.1, h.2.1⟩)) | (go_at_call 127; refine quiet_below ((implLess_b _ _ (Below.refl _ _) (Nat.le_refl _)).mono fun _ _ h => ⟨h.1, h.2.1⟩))))
  refine wpQuiet_nil ?_
  rintro _ ⟨x, rfl⟩
  clear c8 c9
  go_wp2
  go_ret
  exact ⟨rfl, below_app hb0 x.h hb0.size⟩
set_option maxHeartbeats 4000000 in
theorem implPowerOf_any (p : Pc) (w : World) :
    Calls Try.prog 31 #[(.agg #[.int .i64 p.id, .int .i64 p.ow, .int .i64 p.si, .int .i64 p.zo, .int .i64 p.st, .int .i64 p.po, .int .i64 p.to, .int .i64 p.tr, .int .i64 p.pl, .int .i64 p.mi, .int .i64 p.ma, .bool p.de, .bool p.be])] w fun e w' => e = .returned (.int .i64 (pwP p)) ∧ Below w.heap.size w w' := by
  have hb0 := (Below.refl _ w).alloc (Nat.le_refl _) (.cells #[.int .i64 p.id, .int .i64 p.ow, .int .i64 p.si, .int .i64 p.zo, .int .i64 p.st, .int .i64 p.po, .int .i64 p.to, .int .i64 p.tr, .int .i64 p.pl, .int .i64 p.mi, .int .i64 p.ma, .bool p.de, .bool p.be] 31)
  go_enter Try.func31, Try.ntmps31
  go_wp2_with fail
  refine (withCounters_any p p.po _).mono ?_
  rintro e w1 ⟨rfl, hb1⟩
  go_wp2
  go_ret
  exact ⟨rfl, below_app hb0 hb1 hb0.size⟩
set_option maxHeartbeats 4000000 in
theorem implToughOf_any (p : Pc) (w : World) :
    Calls Try.prog 33 #[(.agg #[.int .i64 p.id, .int .i64 p.ow, .int .i64 p.si, .int .i64 p.zo, .int .i64 p.st, .int .i64 p.po, .int .i64 p.to, .int .i64 p.tr, .int .i64 p.pl, .int .i64 p.mi, .int .i64 p.ma, .bool p.de, .bool p.be])] w fun e w' => e = .returned (.int .i64 (tgP p)) ∧ Below w.heap.size w w' := by
  have hb0 := (Below.refl _ w).alloc (Nat.le_refl _) (.cells #[.int .i64 p.id, .int .i64 p.ow, .int .i64 p.si, .int .i64 p.zo, .int .i64 p.st, .int .i64 p.po, .int .i64 p.to, .int .i64 p.tr, .int .i64 p.pl, .int .i64 p.mi, .int .i64 p.ma, .bool p.de, .bool p.be] 31)
  go_enter Try.func33, Try.ntmps33
  go_wp2_with fail
  refine (withCounters_any p p.to _).mono ?_
  rintro e w1 ⟨rfl, hb1⟩
  go_wp2
  go_ret
  exact ⟨rfl, below_app hb0 hb1 hb0.size⟩
end Go.Proofs.Ytnlnledijpcjpab
namespace Go.Proofs.Ytnlnledijpcjpab
open Go.ChangeShapes Go.WideShapes Go.ChangeAt Go.RowKit
set_option maxRecDepth 100000

set_option maxHeartbeats 8000000 in
theorem asPrinted_any (p : Pc) (w : World) :
    Calls Try.prog 82 #[(.agg #[.int .i64 p.id, .int .i64 p.ow, .int .i64 p.si, .int .i64 p.zo, .int .i64 p.st, .int .i64 p.po, .int .i64 p.to, .int .i64 p.tr, .int .i64 p.pl, .int .i64 p.mi, .int .i64 p.ma, .bool p.de, .bool p.be])] w fun e w' => e = .returned (.bool (smP p (mvP p p.zo p.st))) ∧ Below w.heap.size w w' := by
  have hb0 := (Below.refl _ w).alloc (Nat.le_refl _) (.cells #[.int .i64 p.id, .int .i64 p.ow, .int .i64 p.si, .int .i64 p.zo, .int .i64 p.st, .int .i64 p.po, .int .i64 p.to, .int .i64 p.tr, .int .i64 p.pl, .int .i64 p.mi, .int .i64 p.ma, .bool p.de, .bool p.be] 31)
  have bx := box_new w 31 p
  generalize hW : w.alloc (.cells #[.int .i64 p.id, .int .i64 p.ow, .int .i64 p.si, .int .i64 p.zo, .int .i64 p.st, .int .i64 p.po, .int .i64 p.to, .int .i64 p.tr, .int .i64 p.pl, .int .i64 p.mi, .int .i64 p.ma, .bool p.de, .bool p.be] 31) = W at hb0 bx
  have hne := bw_ne W
  obtain ⟨k0, k1, k2, k3, k4, k5, k6, k7, k8, k9, k10, k11, k12⟩ : Cells13 _ _ _ := bx.cells
  have c0 := fun x : BW W => x.cell k0
  have c1 := fun x : BW W => x.cell k1
  have c2 := fun x : BW W => x.cell k2
  have c3 := fun x : BW W => x.cell k3
  have c4 := fun x : BW W => x.cell k4
  have c5 := fun x : BW W => x.cell k5
  have c6 := fun x : BW W => x.cell k6
  have c7 := fun x : BW W => x.cell k7
  have c8 := fun x : BW W => x.cell k8
  have c9 := fun x : BW W => x.cell k9
  have c10 := fun x : BW W => x.cell k10
  have c11 := fun x : BW W => x.cell k11
  have c12 := fun x : BW W => x.cell k12
  clear k0 k1 k2 k3 k4 k5 k6 k7 k8 k9 k10 k11 k12
  go_enter Try.func82, Try.ntmps82
  go_wp2_with fail
  refine wp_region_below_lit (W := W) 7 (by kernel_rfl) (by kernel_rfl) (by decide) (Below.refl _ _) (by intro c d v a w h; cases d <;> exact h) ?_
  simp only [List.take_succ_cons, List.take_zero, List.drop_succ_cons, List.drop_zero]
  repeat (go_big_quiet_step ((go_at_call 25; refine quiet_below (implMoved_any p _ _ _))))
  refine wpQuiet_nil ?_
  rintro _ ⟨x, rfl⟩
  clear c0 c1 c2 c3 c4 c5 c6 c7 c8 c9 c10 c11 c12
  obtain ⟨q, hq⟩ : ∃ q, q = mvP p p.zo p.st := ⟨_, rfl⟩
  rw [← hq]
  have HQ : Hid (q = mvP p p.zo p.st) := hq
  clear hq
  clear hW bx hne
  go_wp2
  all_goals go_ret
  all_goals refine ⟨ret_bool' ?_, below_app hb0 x.h hb0.size⟩
  all_goals (clear hb0; rw [← HQ.out]; clear HQ; unfold smP; simp_all)
end Go.Proofs.Ytnlnledijpcjpab
