/-
  Chapter 4: the specification's SamePiece, HasTrait, PowerOf, ToughOf, Moved. Own work.
-/
import Derived.Test.YtnlnledijpcjpabPiece2
import Derived.Test.YtnlnledijpcjpabNum
import Derived.Test.YtnlnledijpcjpabRowLaw
namespace Go.Proofs.Ytnlnledijpcjpab
open Go.ChangeShapes Go.WideShapes Go.ChangeAt Go.RowKit
set_option maxRecDepth 100000

/-- whether two pieces are the same in all their parts -/
def smP (p q : Pc) : Bool := decide (p.id = q.id) && decide (p.ow = q.ow) && decide (p.si = q.si) && decide (p.zo = q.zo) && decide (p.st = q.st) && decide (p.po = q.po) && decide (p.to = q.to) && decide (p.tr = q.tr) && decide (p.pl = q.pl) && decide (p.mi = q.mi) && decide (p.ma = q.ma) && (p.de == q.de) && (p.be == q.be)
/-- how strong it is, how tough -/
def pwP (p : Pc) : Int := ls (pl p.po p.pl) p.mi
def tgP (p : Pc) : Int := ls (pl p.to p.pl) p.mi
/-- it, elsewhere -/
def mvP (p : Pc) (z s : Int) : Pc := ⟨p.id, p.ow, p.ow, z, s, p.po, p.to, p.tr, 0, 0, 0, false, false⟩
set_option maxHeartbeats 2000000 in
theorem specPowerOf_any (p : Pc) (w : World) :
    Calls Try.prog 32 #[(.agg #[.int .i64 p.id, .int .i64 p.ow, .int .i64 p.si, .int .i64 p.zo, .int .i64 p.st, .int .i64 p.po, .int .i64 p.to, .int .i64 p.tr, .int .i64 p.pl, .int .i64 p.mi, .int .i64 p.ma, .bool p.de, .bool p.be])] w fun e w' => e = .returned (.int .i64 (pwP p)) ∧ Below w.heap.size w w' := by
  go_enter Try.func32, Try.ntmps32
  go_wp2
  go_quiet (first | (go_at_call 86; refine Calls.quiet_of_same (specPlus_b _ _ _)) | (go_at_call 85; refine Calls.quiet_of_same (specLess_b _ _ _)))
  go_wp2
  go_ret
  exact ⟨rfl, below_drewN ((Below.refl _ w).alloc (Nat.le_refl _) _) _⟩
set_option maxHeartbeats 2000000 in
theorem specToughOf_any (p : Pc) (w : World) :
    Calls Try.prog 34 #[(.agg #[.int .i64 p.id, .int .i64 p.ow, .int .i64 p.si, .int .i64 p.zo, .int .i64 p.st, .int .i64 p.po, .int .i64 p.to, .int .i64 p.tr, .int .i64 p.pl, .int .i64 p.mi, .int .i64 p.ma, .bool p.de, .bool p.be])] w fun e w' => e = .returned (.int .i64 (tgP p)) ∧ Below w.heap.size w w' := by
  go_enter Try.func34, Try.ntmps34
  go_wp2
  go_quiet (first | (go_at_call 86; refine Calls.quiet_of_same (specPlus_b _ _ _)) | (go_at_call 85; refine Calls.quiet_of_same (specLess_b _ _ _)))
  go_wp2
  go_ret
  exact ⟨rfl, below_drewN ((Below.refl _ w).alloc (Nat.le_refl _) _) _⟩
set_option maxHeartbeats 2000000 in
theorem specMoved_any (p : Pc) (z s : Int) (w : World) :
    Calls Try.prog 35 #[(.agg #[.int .i64 p.id, .int .i64 p.ow, .int .i64 p.si, .int .i64 p.zo, .int .i64 p.st, .int .i64 p.po, .int .i64 p.to, .int .i64 p.tr, .int .i64 p.pl, .int .i64 p.mi, .int .i64 p.ma, .bool p.de, .bool p.be]), .int .i64 z, .int .i64 s] w fun e w' => e = .returned (.agg #[.int .i64 (mvP p z s).id, .int .i64 (mvP p z s).ow, .int .i64 (mvP p z s).si, .int .i64 (mvP p z s).zo, .int .i64 (mvP p z s).st, .int .i64 (mvP p z s).po, .int .i64 (mvP p z s).to, .int .i64 (mvP p z s).tr, .int .i64 (mvP p z s).pl, .int .i64 (mvP p z s).mi, .int .i64 (mvP p z s).ma, .bool (mvP p z s).de, .bool (mvP p z s).be]) ∧ Below w.heap.size w w' := by
  go_enter Try.func35, Try.ntmps35
  go_wp2
  (try simp only [Exit.inBlock, Exit.then]); refine bodyPost_ret (results_cell_row rfl _ _ (w.heap.size + 1) _ _ _ _ rfl (heap_alloc2_new _ _ _) Try.underlying31 rfl (by kernel_rfl)) rfl ?_
  exact ⟨rfl, ((Below.refl _ w).alloc (Nat.le_refl _) _).alloc (by simp) _⟩
/-- whether t is one of the traits -/
def isT (t : Int) : Bool := decide (t = 1) || decide (t = 2) || decide (t = 4) || decide (t = 8) || decide (t = 16) || decide (t = 32)
/-- whether t is among its traits -/
def htP (p : Pc) (t : Int) : Bool := isT t && (bits .and .i64 p.tr t != 0)
theorem htP_is {p : Pc} {t : Int} (h : isT t = true) : htP p t = (bits .and .i64 p.tr t != 0) := by unfold htP; rw [h]; rfl
set_option maxHeartbeats 4000000 in
theorem specHasTrait_any (p : Pc) (t : Int) (w : World) :
    Calls Try.prog 30 #[(.agg #[.int .i64 p.id, .int .i64 p.ow, .int .i64 p.si, .int .i64 p.zo, .int .i64 p.st, .int .i64 p.po, .int .i64 p.to, .int .i64 p.tr, .int .i64 p.pl, .int .i64 p.mi, .int .i64 p.ma, .bool p.de, .bool p.be]), .int .i64 t] w fun e w' => e = .returned (.bool (htP p t)) ∧ Below w.heap.size w w' := by
  by_cases h : t = 1 ∨ t = 2 ∨ t = 4 ∨ t = 8 ∨ t = 16 ∨ t = 32
  · rcases h with rfl | rfl | rfl | rfl | rfl | rfl
    all_goals
      go_enter Try.func30, Try.ntmps30
      go_wp2
      go_ret
      exact ⟨ret_bool' (htP_is (by decide)).symm, (Below.refl _ w).alloc (Nat.le_refl _) _⟩
  · have h1 : ¬ t = 1 := fun e => h (by omega)
    have h2 : ¬ t = 2 := fun e => h (by omega)
    have h3 : ¬ t = 4 := fun e => h (by omega)
    have h4 : ¬ t = 8 := fun e => h (by omega)
    have h5 : ¬ t = 16 := fun e => h (by omega)
    have h6 : ¬ t = 32 := fun e => h (by omega)
    have HT : Hid (htP p t = false) := by show htP p t = false; unfold htP isT; simp [h1, h2, h3, h4, h5, h6]
    clear h
    go_enter Try.func30, Try.ntmps30
    go_wp2
    go_ret
    first
      | exact ⟨ret_bool' HT.out.symm, (Below.refl _ w).alloc (Nat.le_refl _) _⟩
      | (refine ⟨ret_bool' ?_, (Below.refl _ w).alloc (Nat.le_refl _) _⟩; rw [HT.out]; simp [*])
theorem smP_self (p : Pc) : smP p p = true := by unfold smP; simp
end Go.Proofs.Ytnlnledijpcjpab
