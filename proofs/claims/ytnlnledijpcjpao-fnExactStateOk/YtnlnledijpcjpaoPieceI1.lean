/-
  Chapter 4: the program's between, Moved, asPrinted, SamePiece, HasTrait, withCounters, PowerOf, ToughOf, flagNum. Own work.
-/
import Derived.Test.YtnlnledijpcjpaoPiece3
import Derived.Test.YtnlnledijpcjpaoRegBelow
namespace Go.Proofs.Ytnlnledijpcjpao
open Go.ChangeShapes Go.WideShapes Go.ChangeAt Go.RowKit
set_option maxRecDepth 100000

theorem between_any (x a b : Int) (w : World) : Calls Try.prog 37 #[.int .i64 x, .int .i64 a, .int .i64 b] w fun e w' => e = .returned (.bool (ib x a b)) ∧ w' = w := by
  go_enter Try.func37, Try.ntmps37
  go_wp2
  all_goals go_ret
  all_goals refine ⟨ret_bool' ?_, rfl⟩
  all_goals (unfold ib; simp_all <;> omega)
set_option maxHeartbeats 2000000 in
theorem implMoved_any (p : Pc) (z s : Int) (w : World) :
    Calls Try.prog 64 #[(.agg #[.int .i64 p.id, .int .i64 p.ow, .int .i64 p.si, .int .i64 p.zo, .int .i64 p.st, .int .i64 p.po, .int .i64 p.to, .int .i64 p.tr, .int .i64 p.pl, .int .i64 p.mi, .int .i64 p.ma, .bool p.de, .bool p.be]), .int .i64 z, .int .i64 s] w fun e w' => e = .returned (.agg #[.int .i64 (mvP p z s).id, .int .i64 (mvP p z s).ow, .int .i64 (mvP p z s).si, .int .i64 (mvP p z s).zo, .int .i64 (mvP p z s).st, .int .i64 (mvP p z s).po, .int .i64 (mvP p z s).to, .int .i64 (mvP p z s).tr, .int .i64 (mvP p z s).pl, .int .i64 (mvP p z s).mi, .int .i64 (mvP p z s).ma, .bool (mvP p z s).de, .bool (mvP p z s).be]) ∧ Below w.heap.size w w' := by
  go_enter Try.func64, Try.ntmps64
  go_wp2
  (try simp only [Exit.inBlock, Exit.then]); refine bodyPost_ret (results_cell_row rfl _ _ (w.heap.size + 1) _ _ _ _ rfl (heap_alloc2_new _ _ _) Try.underlying43 rfl (by kernel_rfl)) rfl ?_
  exact ⟨rfl, ((Below.refl _ w).alloc (Nat.le_refl _) _).alloc (by simp) _⟩
end Go.Proofs.Ytnlnledijpcjpao
