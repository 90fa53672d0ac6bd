/-
  What is proved: at every code (every slice of bytes, of whatever length), the law FnNarrow answers true: of two drawn things that may be asked for the program says whether the one asks for all that the other asks for as the specification has it; each asks for all that it asks for; and what asks for more than what asks for more asks for more; no condition.
-/
import Derived.Test.YtpfddfkjmbnpaacRows
import Derived.Test.YtpfddfkjmbnpaacCur
import Derived.Test.YtpfddfkjmbnpaacPiece
import Derived.Test.YtpfddfkjmbnpaacRow
import Derived.Test.YtpfddfkjmbnpaacPiece2
import Derived.Test.YtpfddfkjmbnpaacState1
import Derived.Test.YtpfddfkjmbnpaacRowLaw
import Derived.Test.YtpfddfkjmbnpaacState2
import Derived.Test.YtpfddfkjmbnpaacState3
import Derived.Test.YtpfddfkjmbnpaacSeg
import Derived.Test.YtpfddfkjmbnpaacRegTail
import Derived.Test.YtpfddfkjmbnpaacRegBelow
import Derived.Test.YtpfddfkjmbnpaacNum
import Derived.Test.YtpfddfkjmbnpaacPiece3
import Derived.Test.YtpfddfkjmbnpaacState4
import Derived.Test.YtpfddfkjmbnpaacState5
import Derived.Test.YtpfddfkjmbnpaacStMark
import Derived.Test.YtpfddfkjmbnpaacPieceOk
import Derived.Test.YtpfddfkjmbnpaacState6
import Derived.Test.YtpfddfkjmbnpaacStHeld
import Derived.Test.YtpfddfkjmbnpaacStEq
import Derived.Test.YtpfddfkjmbnpaacStSame
import Derived.Test.YtpfddfkjmbnpaacRegCut
import Derived.Test.YtpfddfkjmbnpaacStLaw
import Derived.Test.YtpfddfkjmbnpaacBytes
import Derived.Test.YtpfddfkjmbnpaacPiece4
import Derived.Test.YtpfddfkjmbnpaacBytes2
import Derived.Test.YtpfddfkjmbnpaacBytes3
import Derived.Test.YtpfddfkjmbnpaacPiece5
import Derived.Test.YtpfddfkjmbnpaacStRow
import Derived.Test.YtpfddfkjmbnpaacStNew
import Derived.Test.YtpfddfkjmbnpaacCur2
import Derived.Test.YtpfddfkjmbnpaacCur3
import Derived.Test.YtpfddfkjmbnpaacDrawB
import Derived.Test.YtpfddfkjmbnpaacDrawP
import Derived.Test.YtpfddfkjmbnpaacDrawT1
import Derived.Test.YtpfddfkjmbnpaacDrawT2
import Derived.Test.YtpfddfkjmbnpaacDrawT3
import Derived.Test.YtpfddfkjmbnpaacEvA
import Derived.Test.YtpfddfkjmbnpaacPaA
import Derived.Test.YtpfddfkjmbnpaacDrawPa
import Derived.Test.YtpfddfkjmbnpaacDrawPb
import Derived.Test.YtpfddfkjmbnpaacPaB
import Derived.Test.YtpfddfkjmbnpaacPaC
import Derived.Test.YtpfddfkjmbnpaacPieceI1
import Derived.Test.YtpfddfkjmbnpaacEvC
import Derived.Test.YtpfddfkjmbnpaacPaI
import Derived.Test.YtpfddfkjmbnpaacPaJ
import Derived.Test.YtpfddfkjmbnpaacPaM
import Derived.Test.YtpfddfkjmbnpaacCurLaw
import Derived.WalkKit
import Derived.BigGuardPart
import Derived.BigQuiet
import Derived.Deep.RegionWith
import Derived.Deep.DeepCutAuto
import Derived.ProofKit
import Derived.OpenShut
import Derived.ShutString
import Derived.ChangeOld
import Derived.Below
namespace Go.Proofs.Ytpfddfkjmbnpaac.fnNarrow
open Go.ChangeShapes Go.WideShapes Go.ChangeAt Go.RowKit
open Go.ChangeMaps (open_string shut_string)
set_option linter.unusedVariables false

theorem own : ownKnob Try.prog.godebug = none := by kernel_rfl
theorem laidOut : laidOutB Try.prog = true := by kernel_rfl

/-- WHAT THE WALK IS TOLD OF A SLICE OF INTEGERS THAT CAME IN: it is nil; or it leads to a row of 'cap' cells, the numbers 'zs' (the first 'len' are its elements, the rest its spare room), each fitting its kind. -/
def IsRow (k : IntKind) (w : World) (a : Option Addr) (len cap : Nat) (zs : List Int) : Prop :=
  (a = none ∧ len = 0 ∧ cap = 0 ∧ zs = []) ∨
  ∃ x, a = some x ∧ len ≤ cap ∧ cap ≤ maxLen ∧ zs.length = cap ∧ (∀ i, i < zs.length → w.cell? (x.add i) = some (.int k (zs.getD i 0))) ∧ ∀ n ∈ zs, (Lit.int k n).wf = true

set_option maxRecDepth 100000 in
set_option maxHeartbeats 4000000 in
theorem walk (a0 : Option Addr) (len0 cap0 : Nat) (z0 : List Int) (w : World) (w0 : IsRow .u8 w a0 len0 cap0 z0) :
    Calls Try.prog 4 #[.slice a0 len0 cap0] w fun e w' => e = .returned (.bool true) ∧ Below w.heap.size w w' := by
  have hc : Code w a0 len0 w.heap.size := code_of_row w0
  clear w0
  by_cases hbig : (1048576 : Int) < (len0 : Int)
  · go_enter Try.func4, Try.ntmps4
    go_wp2_with (go_at_call 5; refine (big_any _ _ _ _).mono ?_; rintro e w' ⟨rfl, rfl⟩)
    go_ret
    exact ⟨rfl, Below.refl _ _⟩
  · go_enter Try.func4, Try.ntmps4
    try simp only [List.append_eq, List.cons_append, List.nil_append]
    go_wp2_with fail
    refine (big_any _ _ _ _).mono ?_
    rintro e w' ⟨rfl, rfl⟩
    have hB := Below.refl w'.heap.size w'
    go_wp2_with fail
    refine (drawNarrower_any _ _ _ _ ((hc.below hB).mono hB.size (Nat.le_refl _))).mono ?_
    rintro e u1 ⟨p, q, wp, wq, rfl, hb⟩
    replace hB := below_app hB hb hB.size
    clear hb wp wq
    have x4 := (boxPt_new u1 29 ⟨0, 0, 0, 0, 0, 0, 0⟩).alloc (.cells #[.int .i64 0, .int .i64 0, .int .i64 0, .int .i64 0, .int .i64 0, .int .i64 0, .int .i64 0] 29)
    have x5 : BoxPt ((u1.alloc (.cells #[.int .i64 0, .int .i64 0, .int .i64 0, .int .i64 0, .int .i64 0, .int .i64 0, .int .i64 0] 29)).alloc (.cells #[.int .i64 0, .int .i64 0, .int .i64 0, .int .i64 0, .int .i64 0, .int .i64 0, .int .i64 0] 29)) (u1.heap.size + 1) 29 ⟨0, 0, 0, 0, 0, 0, 0⟩ := heap_alloc2_new _ _ _
    have hbA := ((Below.refl _ u1).alloc (Nat.le_refl _) (.cells #[.int .i64 0, .int .i64 0, .int .i64 0, .int .i64 0, .int .i64 0, .int .i64 0, .int .i64 0] 29)).alloc (by simp) (.cells #[.int .i64 0, .int .i64 0, .int .i64 0, .int .i64 0, .int .i64 0, .int .i64 0, .int .i64 0] 29)
    generalize hWA : ((u1.alloc (.cells #[.int .i64 0, .int .i64 0, .int .i64 0, .int .i64 0, .int .i64 0, .int .i64 0, .int .i64 0] 29)).alloc (.cells #[.int .i64 0, .int .i64 0, .int .i64 0, .int .i64 0, .int .i64 0, .int .i64 0, .int .i64 0] 29)) = WA at x4 x5 hbA
    have y4 : BoxPt (WA.setRow u1.heap.size #[.int .i64 p.kd, .int .i64 p.wh, .int .i64 p.sr, .int .i64 p.tr, .int .i64 p.pi, .int .i64 p.le, .int .i64 p.zo]) u1.heap.size 29 p := x4.newRow
    have y5 := x5.old (cs := #[.int .i64 p.kd, .int .i64 p.wh, .int .i64 p.sr, .int .i64 p.tr, .int .i64 p.pi, .int .i64 p.le, .int .i64 p.zo]) (q := u1.heap.size) (by omega)
    have b_p : BoxPt ((WA.setRow u1.heap.size #[.int .i64 p.kd, .int .i64 p.wh, .int .i64 p.sr, .int .i64 p.tr, .int .i64 p.pi, .int .i64 p.le, .int .i64 p.zo]).setRow (u1.heap.size + 1) #[.int .i64 q.kd, .int .i64 q.wh, .int .i64 q.sr, .int .i64 q.tr, .int .i64 q.pi, .int .i64 q.le, .int .i64 q.zo]) u1.heap.size 29 p := y4.old (by omega)
    have b_q : BoxPt ((WA.setRow u1.heap.size #[.int .i64 p.kd, .int .i64 p.wh, .int .i64 p.sr, .int .i64 p.tr, .int .i64 p.pi, .int .i64 p.le, .int .i64 p.zo]).setRow (u1.heap.size + 1) #[.int .i64 q.kd, .int .i64 q.wh, .int .i64 q.sr, .int .i64 q.tr, .int .i64 q.pi, .int .i64 q.le, .int .i64 q.zo]) (u1.heap.size + 1) 29 q := y5.newRow
    have hb := below_setRow (below_setRow hbA (Nat.le_refl u1.heap.size) #[.int .i64 p.kd, .int .i64 p.wh, .int .i64 p.sr, .int .i64 p.tr, .int .i64 p.pi, .int .i64 p.le, .int .i64 p.zo]) (by omega : u1.heap.size ≤ u1.heap.size + 1) #[.int .i64 q.kd, .int .i64 q.wh, .int .i64 q.sr, .int .i64 q.tr, .int .i64 q.pi, .int .i64 q.le, .int .i64 q.zo]
    generalize hU0 : ((WA.setRow u1.heap.size #[.int .i64 p.kd, .int .i64 p.wh, .int .i64 p.sr, .int .i64 p.tr, .int .i64 p.pi, .int .i64 p.le, .int .i64 p.zo]).setRow (u1.heap.size + 1) #[.int .i64 q.kd, .int .i64 q.wh, .int .i64 q.sr, .int .i64 q.tr, .int .i64 q.pi, .int .i64 q.le, .int .i64 q.zo]) = U0 at b_p b_q hb
    replace hB := below_app hB hb hB.size
    clear hb
    have c_q : CellsPt _ _ _ := b_q.cells
    obtain ⟨k0, k1, k2, k3, k4, k5, k6⟩ := c_q
    go_upto_region 8 with (first | (refine wpList_store_row rfl 29 (.tmp 3) _ rfl u1.heap.size #[.int .i64 p.kd, .int .i64 p.wh, .int .i64 p.sr, .int .i64 p.tr, .int .i64 p.pi, .int .i64 p.le, .int .i64 p.zo] (by rfl) (by rfl) _ _ x4 (by kernel_rfl) (by rfl) (by simp [Value.oneCell']) ?_) | (refine wpList_store_row rfl 29 (.tmp 4) _ rfl (u1.heap.size + 1) #[.int .i64 q.kd, .int .i64 q.wh, .int .i64 q.sr, .int .i64 q.tr, .int .i64 q.pi, .int .i64 q.le, .int .i64 q.zo] (by rfl) (by rfl) _ _ y5 (by kernel_rfl) (by rfl) (by simp [Value.oneCell']) ?_))
    clear k0 k1 k2 k3 k4 k5 k6 x4 x5 y4 y5 hbA hU0 hWA
    have b_r : BoxPt (U0.alloc (.cells #[.int .i64 q.kd, .int .i64 0, .int .i64 q.sr, .int .i64 0, .int .i64 q.pi, .int .i64 0, .int .i64 q.zo] 29)) U0.heap.size 29 (rP q) := boxPt_new U0 29 (rP q)
    have hb := below_new2'' U0 (.cells #[.int .i64 q.kd, .int .i64 0, .int .i64 q.sr, .int .i64 0, .int .i64 q.pi, .int .i64 0, .int .i64 q.zo] 29)
    generalize hU1 : U0.alloc (.cells #[.int .i64 q.kd, .int .i64 0, .int .i64 q.sr, .int .i64 0, .int .i64 q.pi, .int .i64 0, .int .i64 q.zo] 29) = U1 at b_r hb ⊢
    replace b_p := b_p.grew hb
    replace b_q := b_q.grew hb
    replace hB := below_app hB hb hB.size
    clear hb hU1
    have HR : Hid (nrP p q = true → nrP p (rP q) = true ∧ nrP q (rP q) = true) := fun h => nrP_r h
    generalize rP q = r at b_r HR
    obtain ⟨k0, k1, k2, k3, k4, k5, k6⟩ : CellsPt _ _ _ := b_q.cells
    obtain ⟨j0, j1, j2, j3, j4, j5, j6⟩ : CellsPt _ _ _ := b_p.cells
    go_wp2_with fail
    clear k0 k1 k2 k3 k4 k5 k6 j0 j1 j2 j3 j4 j5 j6
    refine (implNarrower_any p q _).mono ?_
    rintro e u2 ⟨rfl, hb⟩
    replace b_p := b_p.grew hb
    replace b_q := b_q.grew hb
    replace b_r := b_r.grew hb
    replace hB := below_app hB hb hB.size
    clear hb
    have hne := bw_ne u2
    have c_p_0 := fun x : BW u2 => x.cell (show u2.cell? ⟨u1.heap.size, 0, none⟩ = some (.int .i64 p.kd) from b_p.cells.1)
    have c_p_1 := fun x : BW u2 => x.cell (show u2.cell? ⟨u1.heap.size, 1, none⟩ = some (.int .i64 p.wh) from b_p.cells.2.1)
    have c_p_2 := fun x : BW u2 => x.cell (show u2.cell? ⟨u1.heap.size, 2, none⟩ = some (.int .i64 p.sr) from b_p.cells.2.2.1)
    have c_p_3 := fun x : BW u2 => x.cell (show u2.cell? ⟨u1.heap.size, 3, none⟩ = some (.int .i64 p.tr) from b_p.cells.2.2.2.1)
    have c_p_4 := fun x : BW u2 => x.cell (show u2.cell? ⟨u1.heap.size, 4, none⟩ = some (.int .i64 p.pi) from b_p.cells.2.2.2.2.1)
    have c_p_5 := fun x : BW u2 => x.cell (show u2.cell? ⟨u1.heap.size, 5, none⟩ = some (.int .i64 p.le) from b_p.cells.2.2.2.2.2.1)
    have c_p_6 := fun x : BW u2 => x.cell (show u2.cell? ⟨u1.heap.size, 6, none⟩ = some (.int .i64 p.zo) from b_p.cells.2.2.2.2.2.2)
    have c_q_0 := fun x : BW u2 => x.cell (show u2.cell? ⟨u1.heap.size + 1, 0, none⟩ = some (.int .i64 q.kd) from b_q.cells.1)
    have c_q_1 := fun x : BW u2 => x.cell (show u2.cell? ⟨u1.heap.size + 1, 1, none⟩ = some (.int .i64 q.wh) from b_q.cells.2.1)
    have c_q_2 := fun x : BW u2 => x.cell (show u2.cell? ⟨u1.heap.size + 1, 2, none⟩ = some (.int .i64 q.sr) from b_q.cells.2.2.1)
    have c_q_3 := fun x : BW u2 => x.cell (show u2.cell? ⟨u1.heap.size + 1, 3, none⟩ = some (.int .i64 q.tr) from b_q.cells.2.2.2.1)
    have c_q_4 := fun x : BW u2 => x.cell (show u2.cell? ⟨u1.heap.size + 1, 4, none⟩ = some (.int .i64 q.pi) from b_q.cells.2.2.2.2.1)
    have c_q_5 := fun x : BW u2 => x.cell (show u2.cell? ⟨u1.heap.size + 1, 5, none⟩ = some (.int .i64 q.le) from b_q.cells.2.2.2.2.2.1)
    have c_q_6 := fun x : BW u2 => x.cell (show u2.cell? ⟨u1.heap.size + 1, 6, none⟩ = some (.int .i64 q.zo) from b_q.cells.2.2.2.2.2.2)
    have c_r_0 := fun x : BW u2 => x.cell (show u2.cell? ⟨U0.heap.size, 0, none⟩ = some (.int .i64 r.kd) from b_r.cells.1)
    have c_r_1 := fun x : BW u2 => x.cell (show u2.cell? ⟨U0.heap.size, 1, none⟩ = some (.int .i64 r.wh) from b_r.cells.2.1)
    have c_r_2 := fun x : BW u2 => x.cell (show u2.cell? ⟨U0.heap.size, 2, none⟩ = some (.int .i64 r.sr) from b_r.cells.2.2.1)
    have c_r_3 := fun x : BW u2 => x.cell (show u2.cell? ⟨U0.heap.size, 3, none⟩ = some (.int .i64 r.tr) from b_r.cells.2.2.2.1)
    have c_r_4 := fun x : BW u2 => x.cell (show u2.cell? ⟨U0.heap.size, 4, none⟩ = some (.int .i64 r.pi) from b_r.cells.2.2.2.2.1)
    have c_r_5 := fun x : BW u2 => x.cell (show u2.cell? ⟨U0.heap.size, 5, none⟩ = some (.int .i64 r.le) from b_r.cells.2.2.2.2.2.1)
    have c_r_6 := fun x : BW u2 => x.cell (show u2.cell? ⟨U0.heap.size, 6, none⟩ = some (.int .i64 r.zo) from b_r.cells.2.2.2.2.2.2)
    have HSP := nrP_self p
    have heq := fun w => run_eq_pat p q w
    cases hn : nrP p q with
    | false =>
      cases hp : okPt p with
      | false =>
        rw [hp] at HSP
        have NS : ∀ w : World, Calls Try.prog 13 #[(.agg #[.int .i64 p.kd, .int .i64 p.wh, .int .i64 p.sr, .int .i64 p.tr, .int .i64 p.pi, .int .i64 p.le, .int .i64 p.zo]), (.agg #[.int .i64 q.kd, .int .i64 q.wh, .int .i64 q.sr, .int .i64 q.tr, .int .i64 q.pi, .int .i64 q.le, .int .i64 q.zo])] w fun e w' => e = .returned (.bool false) ∧ Below w.heap.size w w' := fun w => by have := specNarrower_any p q w; rw [hn] at this; exact this
        have NPP : ∀ w : World, Calls Try.prog 9 #[(.agg #[.int .i64 p.kd, .int .i64 p.wh, .int .i64 p.sr, .int .i64 p.tr, .int .i64 p.pi, .int .i64 p.le, .int .i64 p.zo]), (.agg #[.int .i64 p.kd, .int .i64 p.wh, .int .i64 p.sr, .int .i64 p.tr, .int .i64 p.pi, .int .i64 p.le, .int .i64 p.zo])] w fun e w' => e = .returned (.bool false) ∧ Below w.heap.size w w' := fun w => by have := implNarrower_any p p w; rw [HSP] at this; exact this
        have PI : ∀ w : World, Calls Try.prog 11 #[(.agg #[.int .i64 p.kd, .int .i64 p.wh, .int .i64 p.sr, .int .i64 p.tr, .int .i64 p.pi, .int .i64 p.le, .int .i64 p.zo])] w fun e w' => e = .returned (.bool false) ∧ Below w.heap.size w w' := fun w => by have := implPatOk_any p w; rw [hp] at this; exact this
        have PS : ∀ w : World, Calls Try.prog 12 #[(.agg #[.int .i64 p.kd, .int .i64 p.wh, .int .i64 p.sr, .int .i64 p.tr, .int .i64 p.pi, .int .i64 p.le, .int .i64 p.zo])] w fun e w' => e = .returned (.bool false) ∧ Below w.heap.size w w' := fun w => by have := specPatOk_any p w; rw [hp] at this; exact this
        go_wp2_with fail
        refine wp_region_below_lit (W := u2) 50 (by kernel_rfl) (by kernel_rfl) (by decide) (Below.refl _ _) (by intro c d v a w h; cases d <;> exact h) ?_
        simp only [List.take_succ_cons, List.take_zero, List.drop_succ_cons, List.drop_zero]
        repeat (go_big_quiet_step (first | (go_at_call 9; first | with_reducible refine quiet_below (NPP _) | with_reducible refine quiet_below (NPR _) | with_reducible refine quiet_below (NQR _) | with_reducible refine quiet_below (NQP _)) | (go_at_call 13; refine quiet_below (NS _)) | (go_at_call 11; refine quiet_below (PI _)) | (go_at_call 12; refine quiet_below (PS _))))
        refine wpQuiet_nil ?_
        rintro _ ⟨x1, rfl⟩
        clear c_p_0 c_p_1 c_p_2 c_p_3 c_p_4 c_p_5 c_p_6 c_q_0 c_q_1 c_q_2 c_q_3 c_q_4 c_q_5 c_q_6 c_r_0 c_r_1 c_r_2 c_r_3 c_r_4 c_r_5 c_r_6 hne heq
        go_wp2
        go_ret
        exact ⟨rfl, below_app hB x1.h hB.size⟩
      | true =>
        rw [hp] at HSP
        have NS : ∀ w : World, Calls Try.prog 13 #[(.agg #[.int .i64 p.kd, .int .i64 p.wh, .int .i64 p.sr, .int .i64 p.tr, .int .i64 p.pi, .int .i64 p.le, .int .i64 p.zo]), (.agg #[.int .i64 q.kd, .int .i64 q.wh, .int .i64 q.sr, .int .i64 q.tr, .int .i64 q.pi, .int .i64 q.le, .int .i64 q.zo])] w fun e w' => e = .returned (.bool false) ∧ Below w.heap.size w w' := fun w => by have := specNarrower_any p q w; rw [hn] at this; exact this
        have NPP : ∀ w : World, Calls Try.prog 9 #[(.agg #[.int .i64 p.kd, .int .i64 p.wh, .int .i64 p.sr, .int .i64 p.tr, .int .i64 p.pi, .int .i64 p.le, .int .i64 p.zo]), (.agg #[.int .i64 p.kd, .int .i64 p.wh, .int .i64 p.sr, .int .i64 p.tr, .int .i64 p.pi, .int .i64 p.le, .int .i64 p.zo])] w fun e w' => e = .returned (.bool true) ∧ Below w.heap.size w w' := fun w => by have := implNarrower_any p p w; rw [HSP] at this; exact this
        have PI : ∀ w : World, Calls Try.prog 11 #[(.agg #[.int .i64 p.kd, .int .i64 p.wh, .int .i64 p.sr, .int .i64 p.tr, .int .i64 p.pi, .int .i64 p.le, .int .i64 p.zo])] w fun e w' => e = .returned (.bool true) ∧ Below w.heap.size w w' := fun w => by have := implPatOk_any p w; rw [hp] at this; exact this
        have PS : ∀ w : World, Calls Try.prog 12 #[(.agg #[.int .i64 p.kd, .int .i64 p.wh, .int .i64 p.sr, .int .i64 p.tr, .int .i64 p.pi, .int .i64 p.le, .int .i64 p.zo])] w fun e w' => e = .returned (.bool true) ∧ Below w.heap.size w w' := fun w => by have := specPatOk_any p w; rw [hp] at this; exact this
        go_wp2_with fail
        refine wp_region_below_lit (W := u2) 50 (by kernel_rfl) (by kernel_rfl) (by decide) (Below.refl _ _) (by intro c d v a w h; cases d <;> exact h) ?_
        simp only [List.take_succ_cons, List.take_zero, List.drop_succ_cons, List.drop_zero]
        repeat (go_big_quiet_step (first | (go_at_call 9; first | with_reducible refine quiet_below (NPP _) | with_reducible refine quiet_below (NPR _) | with_reducible refine quiet_below (NQR _) | with_reducible refine quiet_below (NQP _)) | (go_at_call 13; refine quiet_below (NS _)) | (go_at_call 11; refine quiet_below (PI _)) | (go_at_call 12; refine quiet_below (PS _))))
        refine wpQuiet_nil ?_
        rintro _ ⟨x1, rfl⟩
        clear c_p_0 c_p_1 c_p_2 c_p_3 c_p_4 c_p_5 c_p_6 c_q_0 c_q_1 c_q_2 c_q_3 c_q_4 c_q_5 c_q_6 c_r_0 c_r_1 c_r_2 c_r_3 c_r_4 c_r_5 c_r_6 hne heq
        go_wp2
        go_ret
        exact ⟨rfl, below_app hB x1.h hB.size⟩
    | true =>
      obtain ⟨hr1, hr2⟩ := HR.out hn
      have hp : okPt p = true := by rw [nrP_iff] at hn; exact (okPt_iff p).2 hn.1
      rw [hp] at HSP
      cases hk : nrP q p with
      | false =>
        have NS : ∀ w : World, Calls Try.prog 13 #[(.agg #[.int .i64 p.kd, .int .i64 p.wh, .int .i64 p.sr, .int .i64 p.tr, .int .i64 p.pi, .int .i64 p.le, .int .i64 p.zo]), (.agg #[.int .i64 q.kd, .int .i64 q.wh, .int .i64 q.sr, .int .i64 q.tr, .int .i64 q.pi, .int .i64 q.le, .int .i64 q.zo])] w fun e w' => e = .returned (.bool true) ∧ Below w.heap.size w w' := fun w => by have := specNarrower_any p q w; rw [hn] at this; exact this
        have NPP : ∀ w : World, Calls Try.prog 9 #[(.agg #[.int .i64 p.kd, .int .i64 p.wh, .int .i64 p.sr, .int .i64 p.tr, .int .i64 p.pi, .int .i64 p.le, .int .i64 p.zo]), (.agg #[.int .i64 p.kd, .int .i64 p.wh, .int .i64 p.sr, .int .i64 p.tr, .int .i64 p.pi, .int .i64 p.le, .int .i64 p.zo])] w fun e w' => e = .returned (.bool true) ∧ Below w.heap.size w w' := fun w => by have := implNarrower_any p p w; rw [HSP] at this; exact this
        have PI : ∀ w : World, Calls Try.prog 11 #[(.agg #[.int .i64 p.kd, .int .i64 p.wh, .int .i64 p.sr, .int .i64 p.tr, .int .i64 p.pi, .int .i64 p.le, .int .i64 p.zo])] w fun e w' => e = .returned (.bool true) ∧ Below w.heap.size w w' := fun w => by have := implPatOk_any p w; rw [hp] at this; exact this
        have PS : ∀ w : World, Calls Try.prog 12 #[(.agg #[.int .i64 p.kd, .int .i64 p.wh, .int .i64 p.sr, .int .i64 p.tr, .int .i64 p.pi, .int .i64 p.le, .int .i64 p.zo])] w fun e w' => e = .returned (.bool true) ∧ Below w.heap.size w w' := fun w => by have := specPatOk_any p w; rw [hp] at this; exact this
        have NPR : ∀ w : World, Calls Try.prog 9 #[(.agg #[.int .i64 p.kd, .int .i64 p.wh, .int .i64 p.sr, .int .i64 p.tr, .int .i64 p.pi, .int .i64 p.le, .int .i64 p.zo]), (.agg #[.int .i64 r.kd, .int .i64 r.wh, .int .i64 r.sr, .int .i64 r.tr, .int .i64 r.pi, .int .i64 r.le, .int .i64 r.zo])] w fun e w' => e = .returned (.bool true) ∧ Below w.heap.size w w' := fun w => by have := implNarrower_any p r w; rw [hr1] at this; exact this
        have NQR : ∀ w : World, Calls Try.prog 9 #[(.agg #[.int .i64 q.kd, .int .i64 q.wh, .int .i64 q.sr, .int .i64 q.tr, .int .i64 q.pi, .int .i64 q.le, .int .i64 q.zo]), (.agg #[.int .i64 r.kd, .int .i64 r.wh, .int .i64 r.sr, .int .i64 r.tr, .int .i64 r.pi, .int .i64 r.le, .int .i64 r.zo])] w fun e w' => e = .returned (.bool true) ∧ Below w.heap.size w w' := fun w => by have := implNarrower_any q r w; rw [hr2] at this; exact this
        have NQP : ∀ w : World, Calls Try.prog 9 #[(.agg #[.int .i64 q.kd, .int .i64 q.wh, .int .i64 q.sr, .int .i64 q.tr, .int .i64 q.pi, .int .i64 q.le, .int .i64 q.zo]), (.agg #[.int .i64 p.kd, .int .i64 p.wh, .int .i64 p.sr, .int .i64 p.tr, .int .i64 p.pi, .int .i64 p.le, .int .i64 p.zo])] w fun e w' => e = .returned (.bool false) ∧ Below w.heap.size w w' := fun w => by have := implNarrower_any q p w; rw [hk] at this; exact this
        go_wp2_with fail
        refine wp_region_below_lit (W := u2) 50 (by kernel_rfl) (by kernel_rfl) (by decide) (Below.refl _ _) (by intro c d v a w h; cases d <;> exact h) ?_
        simp only [List.take_succ_cons, List.take_zero, List.drop_succ_cons, List.drop_zero]
        repeat (go_big_quiet_step (first | (go_at_call 9; first | with_reducible refine quiet_below (NPP _) | with_reducible refine quiet_below (NPR _) | with_reducible refine quiet_below (NQR _) | with_reducible refine quiet_below (NQP _)) | (go_at_call 13; refine quiet_below (NS _)) | (go_at_call 11; refine quiet_below (PI _)) | (go_at_call 12; refine quiet_below (PS _))))
        refine wpQuiet_nil ?_
        rintro _ ⟨x1, rfl⟩
        clear c_p_0 c_p_1 c_p_2 c_p_3 c_p_4 c_p_5 c_p_6 c_q_0 c_q_1 c_q_2 c_q_3 c_q_4 c_q_5 c_q_6 c_r_0 c_r_1 c_r_2 c_r_3 c_r_4 c_r_5 c_r_6 hne heq
        go_wp2
        go_ret
        exact ⟨rfl, below_app hB x1.h hB.size⟩
      | true =>
        have hsm := nrP_eq hn hk
        rw [hsm] at heq
        have NS : ∀ w : World, Calls Try.prog 13 #[(.agg #[.int .i64 p.kd, .int .i64 p.wh, .int .i64 p.sr, .int .i64 p.tr, .int .i64 p.pi, .int .i64 p.le, .int .i64 p.zo]), (.agg #[.int .i64 q.kd, .int .i64 q.wh, .int .i64 q.sr, .int .i64 q.tr, .int .i64 q.pi, .int .i64 q.le, .int .i64 q.zo])] w fun e w' => e = .returned (.bool true) ∧ Below w.heap.size w w' := fun w => by have := specNarrower_any p q w; rw [hn] at this; exact this
        have NPP : ∀ w : World, Calls Try.prog 9 #[(.agg #[.int .i64 p.kd, .int .i64 p.wh, .int .i64 p.sr, .int .i64 p.tr, .int .i64 p.pi, .int .i64 p.le, .int .i64 p.zo]), (.agg #[.int .i64 p.kd, .int .i64 p.wh, .int .i64 p.sr, .int .i64 p.tr, .int .i64 p.pi, .int .i64 p.le, .int .i64 p.zo])] w fun e w' => e = .returned (.bool true) ∧ Below w.heap.size w w' := fun w => by have := implNarrower_any p p w; rw [HSP] at this; exact this
        have PI : ∀ w : World, Calls Try.prog 11 #[(.agg #[.int .i64 p.kd, .int .i64 p.wh, .int .i64 p.sr, .int .i64 p.tr, .int .i64 p.pi, .int .i64 p.le, .int .i64 p.zo])] w fun e w' => e = .returned (.bool true) ∧ Below w.heap.size w w' := fun w => by have := implPatOk_any p w; rw [hp] at this; exact this
        have PS : ∀ w : World, Calls Try.prog 12 #[(.agg #[.int .i64 p.kd, .int .i64 p.wh, .int .i64 p.sr, .int .i64 p.tr, .int .i64 p.pi, .int .i64 p.le, .int .i64 p.zo])] w fun e w' => e = .returned (.bool true) ∧ Below w.heap.size w w' := fun w => by have := specPatOk_any p w; rw [hp] at this; exact this
        have NPR : ∀ w : World, Calls Try.prog 9 #[(.agg #[.int .i64 p.kd, .int .i64 p.wh, .int .i64 p.sr, .int .i64 p.tr, .int .i64 p.pi, .int .i64 p.le, .int .i64 p.zo]), (.agg #[.int .i64 r.kd, .int .i64 r.wh, .int .i64 r.sr, .int .i64 r.tr, .int .i64 r.pi, .int .i64 r.le, .int .i64 r.zo])] w fun e w' => e = .returned (.bool true) ∧ Below w.heap.size w w' := fun w => by have := implNarrower_any p r w; rw [hr1] at this; exact this
        have NQR : ∀ w : World, Calls Try.prog 9 #[(.agg #[.int .i64 q.kd, .int .i64 q.wh, .int .i64 q.sr, .int .i64 q.tr, .int .i64 q.pi, .int .i64 q.le, .int .i64 q.zo]), (.agg #[.int .i64 r.kd, .int .i64 r.wh, .int .i64 r.sr, .int .i64 r.tr, .int .i64 r.pi, .int .i64 r.le, .int .i64 r.zo])] w fun e w' => e = .returned (.bool true) ∧ Below w.heap.size w w' := fun w => by have := implNarrower_any q r w; rw [hr2] at this; exact this
        have NQP : ∀ w : World, Calls Try.prog 9 #[(.agg #[.int .i64 q.kd, .int .i64 q.wh, .int .i64 q.sr, .int .i64 q.tr, .int .i64 q.pi, .int .i64 q.le, .int .i64 q.zo]), (.agg #[.int .i64 p.kd, .int .i64 p.wh, .int .i64 p.sr, .int .i64 p.tr, .int .i64 p.pi, .int .i64 p.le, .int .i64 p.zo])] w fun e w' => e = .returned (.bool true) ∧ Below w.heap.size w w' := fun w => by have := implNarrower_any q p w; rw [hk] at this; exact this
        go_wp2_with fail
        refine wp_region_below_lit (W := u2) 50 (by kernel_rfl) (by kernel_rfl) (by decide) (Below.refl _ _) (by intro c d v a w h; cases d <;> exact h) ?_
        simp only [List.take_succ_cons, List.take_zero, List.drop_succ_cons, List.drop_zero]
        repeat (go_big_quiet_step (first | (go_at_call 9; first | with_reducible refine quiet_below (NPP _) | with_reducible refine quiet_below (NPR _) | with_reducible refine quiet_below (NQR _) | with_reducible refine quiet_below (NQP _)) | (go_at_call 13; refine quiet_below (NS _)) | (go_at_call 11; refine quiet_below (PI _)) | (go_at_call 12; refine quiet_below (PS _))))
        refine wpQuiet_nil ?_
        rintro _ ⟨x1, rfl⟩
        clear c_p_0 c_p_1 c_p_2 c_p_3 c_p_4 c_p_5 c_p_6 c_q_0 c_q_1 c_q_2 c_q_3 c_q_4 c_q_5 c_q_6 c_r_0 c_r_1 c_r_2 c_r_3 c_r_4 c_r_5 c_r_6 hne heq
        go_wp2
        go_ret
        exact ⟨rfl, below_app hB x1.h hB.size⟩

set_option maxRecDepth 100000 in
theorem lifted (os : Os) (started : os.Started) (H : Type) (enc : TypeId × Value → H) :
    ReturnsInHanded {} Try.checked os 4 .any (Rows.fnNarrowSpec.pre6 enc Try.prog Try.f4 Rows.fnNarrowRow.domain false) (Rows.fnNarrowSpec.post enc Try.prog Try.f4 false true false false) := by
  refine returnsInHanded_of_change (C := Try.checked) own started (by kernel_rfl) Try.func4
    (ChangeSpec.witness6 (enc := enc) (C := Try.checked) false ⟨#[], #[.slice none 0 0], []⟩ 8 (by kernel_rfl) (by kernel_rfl) (by kernel_rfl) (by kernel_rfl)) ?_
  intro W base args ds gs before hval0 hW hcnd _
  have hval : ∀ (j : Nat) t v, Try.f4.params[j]? = some t → args[j]? = some v → Value.okWide Try.prog W .any base t v := hval0
  have hW' := hW
  obtain ⟨p, q, hA0, hV, rfl, hfz, hnd⟩ := hW
  have hA : DataW.TrodAll enc Try.prog W 0 (fun _ => true) true Try.f4.params.toList args.toList ds p := hA0
  rw [Try.params4] at hA hval
  obtain ⟨v0, vs0, d0, ds0, p0, q0, hargs, rfl, rfl, h0, r0⟩ := trodAll_cons hA
  obtain ⟨rfl, rfl, rfl⟩ := trodAll_nil r0
  obtain rfl : args = #[v0] := by cases args; simp_all
  obtain ⟨rfl, rfl⟩ := trodVars_none hV
  obtain ⟨a0, len0, cap0, rfl⟩ := okWide_slice Try.underlying22 (hval 0 22 v0 rfl rfl)
  have k0 := h0
  have lt0 : ∀ x ∈ p0, x.block < W.heap.size := by obtain ⟨m, hm⟩ := k0; exact DataW.trod_lt m _ _ _ hm
  obtain ⟨z0, w0⟩ : ∃ zs, IsRow .u8 W a0 len0 cap0 zs := by
    obtain ⟨fuel, hf⟩ := h0
    rcases open_ints Try.underlying22 Try.underlying5 (by kernel_rfl) hf with ⟨hcs, _⟩ | ⟨x, l, c, zs, hcs, _, hl, hm, hz, _, hcell, hwz⟩
    · simp [Value.cells] at hcs
      obtain ⟨rfl, rfl, rfl⟩ := hcs
      exact ⟨[], .inl ⟨rfl, rfl, rfl, rfl⟩⟩
    · simp [Value.cells] at hcs
      obtain ⟨rfl, rfl, rfl⟩ := hcs
      exact ⟨zs, .inr ⟨_, rfl, hl, hm, by simpa using hz, hcell, hwz⟩⟩
  clear hA0 hval0
  refine (walk a0 len0 cap0 z0 W w0).mono fun e W' ⟨he, bel⟩ => ?_
  subst he
  exact ⟨_, rfl, _, _, _, [], _, [], hW', trodAll_mk1 (shut_bool Try.underlying4 _), (trodAll_cons_mk (Below.trod laidOut (by kernel_rfl) (of_decide_eq_true (by kernel_rfl)) k0 bel lt0) trodAll_mk0), rfl, bel.frame _, fun h => by cases h⟩

theorem over : Rows.fnNarrowRow.holds Try.pinned (OpenSpec.ofChange Rows.fnNarrowSpec) :=
  OpenClaim.holds_of_wide 4 Try.f4 rfl rfl rfl rfl rfl rfl rfl ⟨rfl, rfl, rfl, rfl, rfl⟩ rfl rfl rfl rfl rfl (by kernel_rfl) Try.func4 (by kernel_rfl)
    (of_decide_eq_true (by kernel_rfl)) (by unfold Func.isWrapper; first | (rw [if_pos (by decide +kernel)]; kernel_rfl) | (rw [if_neg (by decide +kernel)]; exact ⟨rfl, rfl⟩))
    (fun os started H enc _ => lifted os started H enc)

theorem proved : Rows.FnNarrowSaid := over
#print axioms proved
end Go.Proofs.Ytpfddfkjmbnpaac.fnNarrow
