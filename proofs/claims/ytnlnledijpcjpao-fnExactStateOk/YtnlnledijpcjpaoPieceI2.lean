/-
  Chapter 4: the program's between, Moved, asPrinted, SamePiece, HasTrait, withCounters, PowerOf, ToughOf, flagNum. Own work.
-/
import Derived.Test.YtnlnledijpcjpaoPiece3
import Derived.Test.YtnlnledijpcjpaoRegBelow
import Derived.Test.YtnlnledijpcjpaoPieceI1
namespace Go.Proofs.Ytnlnledijpcjpao
open Go.ChangeShapes Go.WideShapes Go.ChangeAt Go.RowKit
set_option maxRecDepth 100000

set_option maxHeartbeats 8000000 in
theorem asPrinted_any (p : Pc) (w : World) :
    Calls Try.prog 63 #[(.agg #[.int .i64 p.id, .int .i64 p.ow, .int .i64 p.si, .int .i64 p.zo, .int .i64 p.st, .int .i64 p.po, .int .i64 p.to, .int .i64 p.tr, .int .i64 p.pl, .int .i64 p.mi, .int .i64 p.ma, .bool p.de, .bool p.be])] w fun e w' => e = .returned (.bool (smP p (mvP p p.zo p.st))) ∧ Below w.heap.size w w' := by
  have hb0 := (Below.refl _ w).alloc (Nat.le_refl _) (.cells #[.int .i64 p.id, .int .i64 p.ow, .int .i64 p.si, .int .i64 p.zo, .int .i64 p.st, .int .i64 p.po, .int .i64 p.to, .int .i64 p.tr, .int .i64 p.pl, .int .i64 p.mi, .int .i64 p.ma, .bool p.de, .bool p.be] 43)
  have bx := box_new w 43 p
  generalize hW : w.alloc (.cells #[.int .i64 p.id, .int .i64 p.ow, .int .i64 p.si, .int .i64 p.zo, .int .i64 p.st, .int .i64 p.po, .int .i64 p.to, .int .i64 p.tr, .int .i64 p.pl, .int .i64 p.mi, .int .i64 p.ma, .bool p.de, .bool p.be] 43) = W at hb0 bx
  have hne := bw_ne W
  obtain ⟨k0, k1, k2, k3, k4, k5, k6, k7, k8, k9, k10, k11, k12⟩ : Cells13 _ _ _ := bx.cells
  have c0 := fun x : BW W => x.cell k0
  have c1 := fun x : BW W => x.cell k1
  have c2 := fun x : BW W => x.cell k2
  have c3 := fun x : BW W => x.cell k3
  have c4 := fun x : BW W => x.cell k4
  have c5 := fun x : BW W => x.cell k5
  have c6 := fun x : BW W => x.cell k6
  have c7 := fun x : BW W => x.cell k7
  have c8 := fun x : BW W => x.cell k8
  have c9 := fun x : BW W => x.cell k9
  have c10 := fun x : BW W => x.cell k10
  have c11 := fun x : BW W => x.cell k11
  have c12 := fun x : BW W => x.cell k12
  clear k0 k1 k2 k3 k4 k5 k6 k7 k8 k9 k10 k11 k12
  go_enter Try.func63, Try.ntmps63
  go_wp2_with fail
  refine wp_region_below_lit (W := W) 7 (by kernel_rfl) (by kernel_rfl) (by decide) (Below.refl _ _) (by intro c d v a w h; cases d <;> exact h) ?_
  simp only [List.take_succ_cons, List.take_zero, List.drop_succ_cons, List.drop_zero]
  repeat (go_big_quiet_step ((go_at_call 64; refine quiet_below (implMoved_any p _ _ _))))
  refine wpQuiet_nil ?_
  rintro _ ⟨x, rfl⟩
  clear c0 c1 c2 c3 c4 c5 c6 c7 c8 c9 c10 c11 c12
  obtain ⟨q, hq⟩ : ∃ q, q = mvP p p.zo p.st := ⟨_, rfl⟩
  rw [← hq]
  have HQ : Hid (q = mvP p p.zo p.st) := hq
  clear hq
  clear hW bx hne
  go_wp2
  all_goals go_ret
  all_goals refine ⟨ret_bool' ?_, below_app hb0 x.h hb0.size⟩
  all_goals (clear hb0; rw [← HQ.out]; clear HQ; unfold smP; simp_all)
end Go.Proofs.Ytnlnledijpcjpao
