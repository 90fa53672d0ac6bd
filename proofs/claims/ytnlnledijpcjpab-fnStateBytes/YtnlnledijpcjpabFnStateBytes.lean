/-
  What is proved: at every code (every slice of bytes, of whatever length), the law FnStateBytes answers true: a drawn state comes back of its bytes if it is right, and has none if it is not; what GetState reads of drawn bytes is right, and has those bytes; no condition.
-/
import Derived.Test.YtnlnledijpcjpabRows
import Derived.Test.YtnlnledijpcjpabCur
import Derived.Test.YtnlnledijpcjpabPiece
import Derived.Test.YtnlnledijpcjpabRow
import Derived.Test.YtnlnledijpcjpabPiece2
import Derived.Test.YtnlnledijpcjpabPieceOk
import Derived.Test.YtnlnledijpcjpabNum
import Derived.Test.YtnlnledijpcjpabRowLaw
import Derived.Test.YtnlnledijpcjpabPiece3
import Derived.Test.YtnlnledijpcjpabBytesA
import Derived.Test.YtnlnledijpcjpabRegs
import Derived.Test.YtnlnledijpcjpabPiece4
import Derived.Test.YtnlnledijpcjpabPiece5
import Derived.Test.YtnlnledijpcjpabPcI
import Derived.Test.YtnlnledijpcjpabPieceOkI
import Derived.Test.YtnlnledijpcjpabListsA
import Derived.Test.YtnlnledijpcjpabPieceI4
import Derived.Test.YtnlnledijpcjpabPieceI5
import Derived.Test.YtnlnledijpcjpabStaA
import Derived.Test.YtnlnledijpcjpabState4
import Derived.Test.YtnlnledijpcjpabState5
import Derived.Test.YtnlnledijpcjpabState8
import Derived.Test.YtnlnledijpcjpabStAt
import Derived.Test.YtnlnledijpcjpabStMark
import Derived.Test.YtnlnledijpcjpabGetAD
import Derived.Test.YtnlnledijpcjpabState6
import Derived.Test.YtnlnledijpcjpabState7
import Derived.Test.YtnlnledijpcjpabStPut
import Derived.Test.YtnlnledijpcjpabStGetM
import Derived.Test.YtnlnledijpcjpabStHeld
import Derived.Test.YtnlnledijpcjpabStEq
import Derived.Test.YtnlnledijpcjpabStSame
import Derived.Test.YtnlnledijpcjpabStLaw
import Derived.Test.YtnlnledijpcjpabStRow
import Derived.Test.YtnlnledijpcjpabPiece6
import Derived.Test.YtnlnledijpcjpabStNew
import Derived.Test.YtnlnledijpcjpabStGetS
import Derived.Test.YtnlnledijpcjpabStOk
import Derived.Test.YtnlnledijpcjpabStPuts
import Derived.Test.YtnlnledijpcjpabGetGI
import Derived.Test.YtnlnledijpcjpabStBack
import Derived.Test.YtnlnledijpcjpabCurs
import Derived.Test.YtnlnledijpcjpabDrawB
import Derived.Test.YtnlnledijpcjpabDrawP
import Derived.Test.YtnlnledijpcjpabDrawT1
import Derived.Test.YtnlnledijpcjpabDrawT2
import Derived.Test.YtnlnledijpcjpabDrawT3
import Derived.Test.YtnlnledijpcjpabDrawL
import Derived.Test.YtnlnledijpcjpabDrawBend
import Derived.Test.YtnlnledijpcjpabDrawTD
import Derived.Test.YtnlnledijpcjpabStSameI
import Derived.Test.YtnlnledijpcjpabStLawB
import Derived.WalkKit
import Derived.BigGuardPart
import Derived.ProofKit
import Derived.OpenShut
import Derived.ShutString
import Derived.ChangeOld
import Derived.Below
namespace Go.Proofs.Ytnlnledijpcjpab.fnStateBytes
open Go.ChangeShapes Go.WideShapes Go.ChangeAt Go.RowKit
open Go.ChangeMaps (open_string shut_string)
set_option linter.unusedVariables false

theorem own : ownKnob Try.prog.godebug = none := by kernel_rfl
theorem laidOut : laidOutB Try.prog = true := by kernel_rfl

/-- WHAT THE WALK IS TOLD OF A SLICE OF INTEGERS THAT CAME IN: it is nil; or it leads to a row of 'cap' cells, the numbers 'zs' (the first 'len' are its elements, the rest its spare room), each fitting its kind. -/
def IsRow (k : IntKind) (w : World) (a : Option Addr) (len cap : Nat) (zs : List Int) : Prop :=
  (a = none ∧ len = 0 ∧ cap = 0 ∧ zs = []) ∨
  ∃ x, a = some x ∧ len ≤ cap ∧ cap ≤ maxLen ∧ zs.length = cap ∧ (∀ i, i < zs.length → w.cell? (x.add i) = some (.int k (zs.getD i 0))) ∧ ∀ n ∈ zs, (Lit.int k n).wf = true

set_option maxHeartbeats 4000000 in
theorem walk (a0 : Option Addr) (len0 cap0 : Nat) (z0 : List Int) (w : World) (w0 : IsRow .u8 w a0 len0 cap0 z0) :
    Calls Try.prog 7 #[.slice a0 len0 cap0] w fun e w' => e = .returned (.bool true) ∧ Below w.heap.size w w' := by
  have hc : Code w a0 len0 w.heap.size := code_of_row w0
  clear w0
  by_cases hbig : (1048576 : Int) < (len0 : Int)
  · go_enter Try.func7, Try.ntmps7
    go_wp2_with (go_at_call 9; refine (big_any _ _ _ _).mono ?_; rintro e w' ⟨rfl, rfl⟩)
    go_ret
    exact ⟨rfl, Below.refl _ _⟩
  · go_enter Try.func7, Try.ntmps7
    try simp only [List.append_eq, List.cons_append, List.nil_append]
    go_wp2_with fail
    refine (big_any _ _ _ _).mono ?_
    rintro e w' ⟨rfl, rfl⟩
    have hB := Below.refl w'.heap.size w'
    go_wp2_with fail
    refine (drawPutState_any _ _ _ _ ((hc.below hB).mono hB.size (Nat.le_refl _))).mono ?_
    rintro e u1 ⟨t_s, h_s, rfl, hb, o_s, _⟩
    replace hB := below_app hB hb hB.size
    clear hb
    have n_s := h_s.pn
    have m_s := h_s.sn
    have hb := below_new2'' u1 (.cells #[.slice t_s.pa t_s.pn t_s.pcap, .slice t_s.sa t_s.sn t_s.scap, .int .i64 t_s.ac, .int .i64 t_s.cl] 56)
    have b_s := boxR_new u1 56 #[.slice t_s.pa t_s.pn t_s.pcap, .slice t_s.sa t_s.sn t_s.scap, .int .i64 t_s.ac, .int .i64 t_s.cl]
    generalize hVs : u1.alloc (.cells #[.slice t_s.pa t_s.pn t_s.pcap, .slice t_s.sa t_s.sn t_s.scap, .int .i64 t_s.ac, .int .i64 t_s.cl] 56) = u2 at hb b_s
    replace o_s := o_s.grew hb
    replace hB := below_app hB hb hB.size
    clear hb
    have hl := ptN_le t_s
    have hub : U8 (ptN t_s) (ptF t_s) := fun i _ => ptF_u8 _ i
    have c_s_0 : u2.cell? ⟨u1.heap.size, 0, none⟩ = some (.slice t_s.pa t_s.pn t_s.pcap) := b_s.cell 0
    have c_s_1 : u2.cell? ⟨u1.heap.size, 1, none⟩ = some (.slice t_s.sa t_s.sn t_s.scap) := b_s.cell 1
    have c_s_2 : u2.cell? ⟨u1.heap.size, 2, none⟩ = some (.int .i64 t_s.ac) := b_s.cell 2
    have c_s_3 : u2.cell? ⟨u1.heap.size, 3, none⟩ = some (.int .i64 t_s.cl) := b_s.cell 3
    go_wp2_with fail
    refine (implPutState_any t_s _ (h_s.ok o_s) (by omega) (by omega)).mono ?_
    rintro e u3 ⟨q_b, c_b, rfl, hcb, hb, o_b⟩
    clear c_s_0 c_s_1 c_s_2 c_s_3
    replace o_s := o_s.grew hb
    replace b_s := b_s.grew hb
    replace hB := below_app hB hb hB.size
    clear hb
    clear hVs
    cases hs : okS t_s with
    | false =>
      have HN : Hid (ptN t_s = 0) := ptN_no hs
      have HG : Hid (gsOk (ptN t_s) (ptF t_s) = false) := by show gsOk (ptN t_s) (ptF t_s) = false; rw [HN.out]; exact gs_empty _
      go_wp2_with fail
      refine (implGetState_any _ q_b (ptN t_s) c_b (ptF t_s) _ (by omega) hcb hub o_b.rd).mono ?_
      rintro e u4 ⟨t_x, rfl, hb, o_x, e_x⟩
      replace o_s := o_s.grew hb
      replace o_b := o_b.grew hb
      replace b_s := b_s.grew hb
      replace hB := below_app hB hb hB.size
      clear hb
      rw [HG.out]
      have hb := below_new2'' u4 (.cells #[.slice t_x.pa t_x.pn t_x.pcap, .slice t_x.sa t_x.sn t_x.scap, .int .i64 t_x.ac, .int .i64 t_x.cl] 56)
      have b_x := boxR_new u4 56 #[.slice t_x.pa t_x.pn t_x.pcap, .slice t_x.sa t_x.sn t_x.scap, .int .i64 t_x.ac, .int .i64 t_x.cl]
      generalize hVx : u4.alloc (.cells #[.slice t_x.pa t_x.pn t_x.pcap, .slice t_x.sa t_x.sn t_x.scap, .int .i64 t_x.ac, .int .i64 t_x.cl] 56) = u5 at hb b_x
      replace o_s := o_s.grew hb
      replace o_b := o_b.grew hb
      replace o_x := o_x.grew hb
      replace b_s := b_s.grew hb
      replace hB := below_app hB hb hB.size
      clear hb
      have k_x := got_ok hub o_x e_x
      have l_x := got_le e_x
      clear k_x
      go_wp2_with fail
      refine (drawGetState_any _ _ _ _ ((hc.below hB).mono hB.size (Nat.le_refl _))).mono ?_
      rintro e u6 ⟨q_c, c_c, n_c, f_c, rfl, hnc, hcc, huc, o_c, hb⟩
      replace o_s := o_s.grew hb
      replace o_b := o_b.grew hb
      replace o_x := o_x.grew hb
      replace b_s := b_s.grew hb
      replace b_x := b_x.grew hb
      replace hB := below_app hB hb hB.size
      clear hb
      clear hVx
      go_wp2_with fail
      refine (implGetState_any _ q_c n_c c_c f_c _ (by omega) hcc huc o_c.rd).mono ?_
      rintro e u7 ⟨t_y, rfl, hb, o_y, e_y⟩
      replace o_s := o_s.grew hb
      replace o_b := o_b.grew hb
      replace o_x := o_x.grew hb
      replace o_c := o_c.grew hb
      replace b_s := b_s.grew hb
      replace b_x := b_x.grew hb
      replace hB := below_app hB hb hB.size
      clear hb
      have hb := below_new2'' u7 (.cells #[.slice t_y.pa t_y.pn t_y.pcap, .slice t_y.sa t_y.sn t_y.scap, .int .i64 t_y.ac, .int .i64 t_y.cl] 56)
      have b_y := boxR_new u7 56 #[.slice t_y.pa t_y.pn t_y.pcap, .slice t_y.sa t_y.sn t_y.scap, .int .i64 t_y.ac, .int .i64 t_y.cl]
      generalize hVy : u7.alloc (.cells #[.slice t_y.pa t_y.pn t_y.pcap, .slice t_y.sa t_y.sn t_y.scap, .int .i64 t_y.ac, .int .i64 t_y.cl] 56) = u8 at hb b_y
      replace o_s := o_s.grew hb
      replace o_b := o_b.grew hb
      replace o_x := o_x.grew hb
      replace o_c := o_c.grew hb
      replace o_y := o_y.grew hb
      replace b_s := b_s.grew hb
      replace b_x := b_x.grew hb
      replace hB := below_app hB hb hB.size
      clear hb
      have l_y := got_le e_y
      go_wp2_with fail
      refine (specGetState_any _ q_c n_c c_c f_c _ (by omega) huc o_c.rd).mono ?_
      rintro e u9 ⟨t_z, rfl, hb, o_z, e_z⟩
      replace o_s := o_s.grew hb
      replace o_b := o_b.grew hb
      replace o_x := o_x.grew hb
      replace o_c := o_c.grew hb
      replace o_y := o_y.grew hb
      replace b_s := b_s.grew hb
      replace b_x := b_x.grew hb
      replace b_y := b_y.grew hb
      replace hB := below_app hB hb hB.size
      clear hb
      clear hVy
      have hb := below_new2'' u9 (.cells #[.slice t_z.pa t_z.pn t_z.pcap, .slice t_z.sa t_z.sn t_z.scap, .int .i64 t_z.ac, .int .i64 t_z.cl] 56)
      have b_z := boxR_new u9 56 #[.slice t_z.pa t_z.pn t_z.pcap, .slice t_z.sa t_z.sn t_z.scap, .int .i64 t_z.ac, .int .i64 t_z.cl]
      generalize hVz : u9.alloc (.cells #[.slice t_z.pa t_z.pn t_z.pcap, .slice t_z.sa t_z.sn t_z.scap, .int .i64 t_z.ac, .int .i64 t_z.cl] 56) = u10 at hb b_z
      replace o_s := o_s.grew hb
      replace o_b := o_b.grew hb
      replace o_x := o_x.grew hb
      replace o_c := o_c.grew hb
      replace o_y := o_y.grew hb
      replace o_z := o_z.grew hb
      replace b_s := b_s.grew hb
      replace b_x := b_x.grew hb
      replace b_y := b_y.grew hb
      replace hB := below_app hB hb hB.size
      clear hb
      clear o_z
      cases hg : gsOk n_c f_c with
      | false =>
        have hdummy := trivial
        have c_s_0 : u10.cell? ⟨u1.heap.size, 0, none⟩ = some (.slice t_s.pa t_s.pn t_s.pcap) := b_s.cell 0
        have c_s_1 : u10.cell? ⟨u1.heap.size, 1, none⟩ = some (.slice t_s.sa t_s.sn t_s.scap) := b_s.cell 1
        have c_s_2 : u10.cell? ⟨u1.heap.size, 2, none⟩ = some (.int .i64 t_s.ac) := b_s.cell 2
        have c_s_3 : u10.cell? ⟨u1.heap.size, 3, none⟩ = some (.int .i64 t_s.cl) := b_s.cell 3
        go_wp2_with fail
        refine (implStateOk_as (h_s.ok o_s) (by omega) (by omega) hs).mono ?_
        rintro e u11 ⟨rfl, hb⟩
        clear c_s_0 c_s_1 c_s_2 c_s_3
        replace o_s := o_s.grew hb
        replace o_b := o_b.grew hb
        replace o_x := o_x.grew hb
        replace o_c := o_c.grew hb
        replace o_y := o_y.grew hb
        replace b_s := b_s.grew hb
        replace b_x := b_x.grew hb
        replace b_y := b_y.grew hb
        replace b_z := b_z.grew hb
        replace hB := below_app hB hb hB.size
        clear hb
        clear hVz hdummy
        rw [HN.out]
        go_wp2
        go_ret
        exact ⟨rfl, hB⟩
      | true =>
        have HO : Hid (okS t_y = true) := got_okS e_y hg
        have HBY : Hid (ptN t_y = n_c ∧ ∀ i, i < n_c → ptF t_y i = f_c i) := got_bytes huc e_y hg
        have c_y_0 : u10.cell? ⟨u7.heap.size, 0, none⟩ = some (.slice t_y.pa t_y.pn t_y.pcap) := b_y.cell 0
        have c_y_1 : u10.cell? ⟨u7.heap.size, 1, none⟩ = some (.slice t_y.sa t_y.sn t_y.scap) := b_y.cell 1
        have c_y_2 : u10.cell? ⟨u7.heap.size, 2, none⟩ = some (.int .i64 t_y.ac) := b_y.cell 2
        have c_y_3 : u10.cell? ⟨u7.heap.size, 3, none⟩ = some (.int .i64 t_y.cl) := b_y.cell 3
        go_wp2_with fail
        refine (implStateOk_as (got_ok huc o_y e_y) (by omega) (by omega) HO.out).mono ?_
        rintro e u11 ⟨rfl, hb⟩
        clear c_y_0 c_y_1 c_y_2 c_y_3
        replace o_s := o_s.grew hb
        replace o_b := o_b.grew hb
        replace o_x := o_x.grew hb
        replace o_c := o_c.grew hb
        replace o_y := o_y.grew hb
        replace b_s := b_s.grew hb
        replace b_x := b_x.grew hb
        replace b_y := b_y.grew hb
        replace b_z := b_z.grew hb
        replace hB := below_app hB hb hB.size
        clear hb
        clear hVz
        have c_y_0 : u11.cell? ⟨u7.heap.size, 0, none⟩ = some (.slice t_y.pa t_y.pn t_y.pcap) := b_y.cell 0
        have c_y_1 : u11.cell? ⟨u7.heap.size, 1, none⟩ = some (.slice t_y.sa t_y.sn t_y.scap) := b_y.cell 1
        have c_y_2 : u11.cell? ⟨u7.heap.size, 2, none⟩ = some (.int .i64 t_y.ac) := b_y.cell 2
        have c_y_3 : u11.cell? ⟨u7.heap.size, 3, none⟩ = some (.int .i64 t_y.cl) := b_y.cell 3
        go_wp2_with fail
        refine (implPutState_any t_y _ (got_ok huc o_y e_y) (by omega) (by omega)).mono ?_
        rintro e u12 ⟨q_d, c_d, rfl, hcd, hb, o_d⟩
        clear c_y_0 c_y_1 c_y_2 c_y_3
        replace o_s := o_s.grew hb
        replace o_b := o_b.grew hb
        replace o_x := o_x.grew hb
        replace o_c := o_c.grew hb
        replace o_y := o_y.grew hb
        replace b_s := b_s.grew hb
        replace b_x := b_x.grew hb
        replace b_y := b_y.grew hb
        replace b_z := b_z.grew hb
        replace hB := below_app hB hb hB.size
        clear hb
        rw [HBY.out.1] at o_d ⊢
        replace o_d := o_d.congr HBY.out.2
        go_wp2_with fail
        refine (same_any _ _ q_d q_c n_c _ _ f_c _ o_d.rd o_c.rd).mono ?_
        rintro e u90 ⟨rfl, hu90⟩
        rw [hu90]
        clear hu90
        clear o_d
        have c_s_0 : u12.cell? ⟨u1.heap.size, 0, none⟩ = some (.slice t_s.pa t_s.pn t_s.pcap) := b_s.cell 0
        have c_s_1 : u12.cell? ⟨u1.heap.size, 1, none⟩ = some (.slice t_s.sa t_s.sn t_s.scap) := b_s.cell 1
        have c_s_2 : u12.cell? ⟨u1.heap.size, 2, none⟩ = some (.int .i64 t_s.ac) := b_s.cell 2
        have c_s_3 : u12.cell? ⟨u1.heap.size, 3, none⟩ = some (.int .i64 t_s.cl) := b_s.cell 3
        go_wp2_with fail
        refine (implStateOk_as (h_s.ok o_s) (by omega) (by omega) hs).mono ?_
        rintro e u13 ⟨rfl, hb⟩
        clear c_s_0 c_s_1 c_s_2 c_s_3
        replace o_s := o_s.grew hb
        replace o_b := o_b.grew hb
        replace o_x := o_x.grew hb
        replace o_c := o_c.grew hb
        replace o_y := o_y.grew hb
        replace b_s := b_s.grew hb
        replace b_x := b_x.grew hb
        replace b_y := b_y.grew hb
        replace b_z := b_z.grew hb
        replace hB := below_app hB hb hB.size
        clear hb
        rw [HN.out]
        go_wp2
        go_ret
        exact ⟨rfl, hB⟩
    | true =>
      have HG : Hid (gsOk (ptN t_s) (ptF t_s) = true) := (gs_there hs).1
      have HSM : Hid (∀ t, Alike t (gsS (ptN t_s) (ptF t_s)) → smS t t_s = true) := fun t ht => got_same hs ht
      go_wp2_with fail
      refine (implGetState_any _ q_b (ptN t_s) c_b (ptF t_s) _ (by omega) hcb hub o_b.rd).mono ?_
      rintro e u4 ⟨t_x, rfl, hb, o_x, e_x⟩
      replace o_s := o_s.grew hb
      replace o_b := o_b.grew hb
      replace b_s := b_s.grew hb
      replace hB := below_app hB hb hB.size
      clear hb
      rw [HG.out]
      have hb := below_new2'' u4 (.cells #[.slice t_x.pa t_x.pn t_x.pcap, .slice t_x.sa t_x.sn t_x.scap, .int .i64 t_x.ac, .int .i64 t_x.cl] 56)
      have b_x := boxR_new u4 56 #[.slice t_x.pa t_x.pn t_x.pcap, .slice t_x.sa t_x.sn t_x.scap, .int .i64 t_x.ac, .int .i64 t_x.cl]
      generalize hVx : u4.alloc (.cells #[.slice t_x.pa t_x.pn t_x.pcap, .slice t_x.sa t_x.sn t_x.scap, .int .i64 t_x.ac, .int .i64 t_x.cl] 56) = u5 at hb b_x
      replace o_s := o_s.grew hb
      replace o_b := o_b.grew hb
      replace o_x := o_x.grew hb
      replace b_s := b_s.grew hb
      replace hB := below_app hB hb hB.size
      clear hb
      have k_x := got_ok hub o_x e_x
      have l_x := got_le e_x
      clear k_x
      go_wp2_with fail
      refine (drawGetState_any _ _ _ _ ((hc.below hB).mono hB.size (Nat.le_refl _))).mono ?_
      rintro e u6 ⟨q_c, c_c, n_c, f_c, rfl, hnc, hcc, huc, o_c, hb⟩
      replace o_s := o_s.grew hb
      replace o_b := o_b.grew hb
      replace o_x := o_x.grew hb
      replace b_s := b_s.grew hb
      replace b_x := b_x.grew hb
      replace hB := below_app hB hb hB.size
      clear hb
      clear hVx
      go_wp2_with fail
      refine (implGetState_any _ q_c n_c c_c f_c _ (by omega) hcc huc o_c.rd).mono ?_
      rintro e u7 ⟨t_y, rfl, hb, o_y, e_y⟩
      replace o_s := o_s.grew hb
      replace o_b := o_b.grew hb
      replace o_x := o_x.grew hb
      replace o_c := o_c.grew hb
      replace b_s := b_s.grew hb
      replace b_x := b_x.grew hb
      replace hB := below_app hB hb hB.size
      clear hb
      have hb := below_new2'' u7 (.cells #[.slice t_y.pa t_y.pn t_y.pcap, .slice t_y.sa t_y.sn t_y.scap, .int .i64 t_y.ac, .int .i64 t_y.cl] 56)
      have b_y := boxR_new u7 56 #[.slice t_y.pa t_y.pn t_y.pcap, .slice t_y.sa t_y.sn t_y.scap, .int .i64 t_y.ac, .int .i64 t_y.cl]
      generalize hVy : u7.alloc (.cells #[.slice t_y.pa t_y.pn t_y.pcap, .slice t_y.sa t_y.sn t_y.scap, .int .i64 t_y.ac, .int .i64 t_y.cl] 56) = u8 at hb b_y
      replace o_s := o_s.grew hb
      replace o_b := o_b.grew hb
      replace o_x := o_x.grew hb
      replace o_c := o_c.grew hb
      replace o_y := o_y.grew hb
      replace b_s := b_s.grew hb
      replace b_x := b_x.grew hb
      replace hB := below_app hB hb hB.size
      clear hb
      have l_y := got_le e_y
      go_wp2_with fail
      refine (specGetState_any _ q_c n_c c_c f_c _ (by omega) huc o_c.rd).mono ?_
      rintro e u9 ⟨t_z, rfl, hb, o_z, e_z⟩
      replace o_s := o_s.grew hb
      replace o_b := o_b.grew hb
      replace o_x := o_x.grew hb
      replace o_c := o_c.grew hb
      replace o_y := o_y.grew hb
      replace b_s := b_s.grew hb
      replace b_x := b_x.grew hb
      replace b_y := b_y.grew hb
      replace hB := below_app hB hb hB.size
      clear hb
      clear hVy
      have hb := below_new2'' u9 (.cells #[.slice t_z.pa t_z.pn t_z.pcap, .slice t_z.sa t_z.sn t_z.scap, .int .i64 t_z.ac, .int .i64 t_z.cl] 56)
      have b_z := boxR_new u9 56 #[.slice t_z.pa t_z.pn t_z.pcap, .slice t_z.sa t_z.sn t_z.scap, .int .i64 t_z.ac, .int .i64 t_z.cl]
      generalize hVz : u9.alloc (.cells #[.slice t_z.pa t_z.pn t_z.pcap, .slice t_z.sa t_z.sn t_z.scap, .int .i64 t_z.ac, .int .i64 t_z.cl] 56) = u10 at hb b_z
      replace o_s := o_s.grew hb
      replace o_b := o_b.grew hb
      replace o_x := o_x.grew hb
      replace o_c := o_c.grew hb
      replace o_y := o_y.grew hb
      replace o_z := o_z.grew hb
      replace b_s := b_s.grew hb
      replace b_x := b_x.grew hb
      replace b_y := b_y.grew hb
      replace hB := below_app hB hb hB.size
      clear hb
      clear o_z
      cases hg : gsOk n_c f_c with
      | false =>
        have hdummy := trivial
        have c_s_0 : u10.cell? ⟨u1.heap.size, 0, none⟩ = some (.slice t_s.pa t_s.pn t_s.pcap) := b_s.cell 0
        have c_s_1 : u10.cell? ⟨u1.heap.size, 1, none⟩ = some (.slice t_s.sa t_s.sn t_s.scap) := b_s.cell 1
        have c_s_2 : u10.cell? ⟨u1.heap.size, 2, none⟩ = some (.int .i64 t_s.ac) := b_s.cell 2
        have c_s_3 : u10.cell? ⟨u1.heap.size, 3, none⟩ = some (.int .i64 t_s.cl) := b_s.cell 3
        go_wp2_with fail
        refine (implStateOk_as (h_s.ok o_s) (by omega) (by omega) hs).mono ?_
        rintro e u11 ⟨rfl, hb⟩
        clear c_s_0 c_s_1 c_s_2 c_s_3
        replace o_s := o_s.grew hb
        replace o_b := o_b.grew hb
        replace o_x := o_x.grew hb
        replace o_c := o_c.grew hb
        replace o_y := o_y.grew hb
        replace b_s := b_s.grew hb
        replace b_x := b_x.grew hb
        replace b_y := b_y.grew hb
        replace b_z := b_z.grew hb
        replace hB := below_app hB hb hB.size
        clear hb
        clear hVz hdummy
        have c_x_0 : u11.cell? ⟨u4.heap.size, 0, none⟩ = some (.slice t_x.pa t_x.pn t_x.pcap) := b_x.cell 0
        have c_x_1 : u11.cell? ⟨u4.heap.size, 1, none⟩ = some (.slice t_x.sa t_x.sn t_x.scap) := b_x.cell 1
        have c_x_2 : u11.cell? ⟨u4.heap.size, 2, none⟩ = some (.int .i64 t_x.ac) := b_x.cell 2
        have c_x_3 : u11.cell? ⟨u4.heap.size, 3, none⟩ = some (.int .i64 t_x.cl) := b_x.cell 3
        have c_s_0 : u11.cell? ⟨u1.heap.size, 0, none⟩ = some (.slice t_s.pa t_s.pn t_s.pcap) := b_s.cell 0
        have c_s_1 : u11.cell? ⟨u1.heap.size, 1, none⟩ = some (.slice t_s.sa t_s.sn t_s.scap) := b_s.cell 1
        have c_s_2 : u11.cell? ⟨u1.heap.size, 2, none⟩ = some (.int .i64 t_s.ac) := b_s.cell 2
        have c_s_3 : u11.cell? ⟨u1.heap.size, 3, none⟩ = some (.int .i64 t_s.cl) := b_s.cell 3
        go_wp2_with fail
        refine (implSameState_as (got_ok hub o_x e_x) (h_s.ok o_s) (by omega) (by omega) (by omega) (by omega) (HSM.out _ e_x)).mono ?_
        rintro e u12 ⟨rfl, hb⟩
        clear c_x_0 c_x_1 c_x_2 c_x_3 c_s_0 c_s_1 c_s_2 c_s_3
        replace o_s := o_s.grew hb
        replace o_b := o_b.grew hb
        replace o_x := o_x.grew hb
        replace o_c := o_c.grew hb
        replace o_y := o_y.grew hb
        replace b_s := b_s.grew hb
        replace b_x := b_x.grew hb
        replace b_y := b_y.grew hb
        replace b_z := b_z.grew hb
        replace hB := below_app hB hb hB.size
        clear hb
        go_wp2
        go_ret
        exact ⟨rfl, hB⟩
      | true =>
        have HO : Hid (okS t_y = true) := got_okS e_y hg
        have HBY : Hid (ptN t_y = n_c ∧ ∀ i, i < n_c → ptF t_y i = f_c i) := got_bytes huc e_y hg
        have c_y_0 : u10.cell? ⟨u7.heap.size, 0, none⟩ = some (.slice t_y.pa t_y.pn t_y.pcap) := b_y.cell 0
        have c_y_1 : u10.cell? ⟨u7.heap.size, 1, none⟩ = some (.slice t_y.sa t_y.sn t_y.scap) := b_y.cell 1
        have c_y_2 : u10.cell? ⟨u7.heap.size, 2, none⟩ = some (.int .i64 t_y.ac) := b_y.cell 2
        have c_y_3 : u10.cell? ⟨u7.heap.size, 3, none⟩ = some (.int .i64 t_y.cl) := b_y.cell 3
        go_wp2_with fail
        refine (implStateOk_as (got_ok huc o_y e_y) (by omega) (by omega) HO.out).mono ?_
        rintro e u11 ⟨rfl, hb⟩
        clear c_y_0 c_y_1 c_y_2 c_y_3
        replace o_s := o_s.grew hb
        replace o_b := o_b.grew hb
        replace o_x := o_x.grew hb
        replace o_c := o_c.grew hb
        replace o_y := o_y.grew hb
        replace b_s := b_s.grew hb
        replace b_x := b_x.grew hb
        replace b_y := b_y.grew hb
        replace b_z := b_z.grew hb
        replace hB := below_app hB hb hB.size
        clear hb
        clear hVz
        have c_y_0 : u11.cell? ⟨u7.heap.size, 0, none⟩ = some (.slice t_y.pa t_y.pn t_y.pcap) := b_y.cell 0
        have c_y_1 : u11.cell? ⟨u7.heap.size, 1, none⟩ = some (.slice t_y.sa t_y.sn t_y.scap) := b_y.cell 1
        have c_y_2 : u11.cell? ⟨u7.heap.size, 2, none⟩ = some (.int .i64 t_y.ac) := b_y.cell 2
        have c_y_3 : u11.cell? ⟨u7.heap.size, 3, none⟩ = some (.int .i64 t_y.cl) := b_y.cell 3
        go_wp2_with fail
        refine (implPutState_any t_y _ (got_ok huc o_y e_y) (by omega) (by omega)).mono ?_
        rintro e u12 ⟨q_d, c_d, rfl, hcd, hb, o_d⟩
        clear c_y_0 c_y_1 c_y_2 c_y_3
        replace o_s := o_s.grew hb
        replace o_b := o_b.grew hb
        replace o_x := o_x.grew hb
        replace o_c := o_c.grew hb
        replace o_y := o_y.grew hb
        replace b_s := b_s.grew hb
        replace b_x := b_x.grew hb
        replace b_y := b_y.grew hb
        replace b_z := b_z.grew hb
        replace hB := below_app hB hb hB.size
        clear hb
        rw [HBY.out.1] at o_d ⊢
        replace o_d := o_d.congr HBY.out.2
        go_wp2_with fail
        refine (same_any _ _ q_d q_c n_c _ _ f_c _ o_d.rd o_c.rd).mono ?_
        rintro e u90 ⟨rfl, hu90⟩
        rw [hu90]
        clear hu90
        clear o_d
        have c_s_0 : u12.cell? ⟨u1.heap.size, 0, none⟩ = some (.slice t_s.pa t_s.pn t_s.pcap) := b_s.cell 0
        have c_s_1 : u12.cell? ⟨u1.heap.size, 1, none⟩ = some (.slice t_s.sa t_s.sn t_s.scap) := b_s.cell 1
        have c_s_2 : u12.cell? ⟨u1.heap.size, 2, none⟩ = some (.int .i64 t_s.ac) := b_s.cell 2
        have c_s_3 : u12.cell? ⟨u1.heap.size, 3, none⟩ = some (.int .i64 t_s.cl) := b_s.cell 3
        go_wp2_with fail
        refine (implStateOk_as (h_s.ok o_s) (by omega) (by omega) hs).mono ?_
        rintro e u13 ⟨rfl, hb⟩
        clear c_s_0 c_s_1 c_s_2 c_s_3
        replace o_s := o_s.grew hb
        replace o_b := o_b.grew hb
        replace o_x := o_x.grew hb
        replace o_c := o_c.grew hb
        replace o_y := o_y.grew hb
        replace b_s := b_s.grew hb
        replace b_x := b_x.grew hb
        replace b_y := b_y.grew hb
        replace b_z := b_z.grew hb
        replace hB := below_app hB hb hB.size
        clear hb
        have c_x_0 : u13.cell? ⟨u4.heap.size, 0, none⟩ = some (.slice t_x.pa t_x.pn t_x.pcap) := b_x.cell 0
        have c_x_1 : u13.cell? ⟨u4.heap.size, 1, none⟩ = some (.slice t_x.sa t_x.sn t_x.scap) := b_x.cell 1
        have c_x_2 : u13.cell? ⟨u4.heap.size, 2, none⟩ = some (.int .i64 t_x.ac) := b_x.cell 2
        have c_x_3 : u13.cell? ⟨u4.heap.size, 3, none⟩ = some (.int .i64 t_x.cl) := b_x.cell 3
        have c_s_0 : u13.cell? ⟨u1.heap.size, 0, none⟩ = some (.slice t_s.pa t_s.pn t_s.pcap) := b_s.cell 0
        have c_s_1 : u13.cell? ⟨u1.heap.size, 1, none⟩ = some (.slice t_s.sa t_s.sn t_s.scap) := b_s.cell 1
        have c_s_2 : u13.cell? ⟨u1.heap.size, 2, none⟩ = some (.int .i64 t_s.ac) := b_s.cell 2
        have c_s_3 : u13.cell? ⟨u1.heap.size, 3, none⟩ = some (.int .i64 t_s.cl) := b_s.cell 3
        go_wp2_with fail
        refine (implSameState_as (got_ok hub o_x e_x) (h_s.ok o_s) (by omega) (by omega) (by omega) (by omega) (HSM.out _ e_x)).mono ?_
        rintro e u14 ⟨rfl, hb⟩
        clear c_x_0 c_x_1 c_x_2 c_x_3 c_s_0 c_s_1 c_s_2 c_s_3
        replace o_s := o_s.grew hb
        replace o_b := o_b.grew hb
        replace o_x := o_x.grew hb
        replace o_c := o_c.grew hb
        replace o_y := o_y.grew hb
        replace b_s := b_s.grew hb
        replace b_x := b_x.grew hb
        replace b_y := b_y.grew hb
        replace b_z := b_z.grew hb
        replace hB := below_app hB hb hB.size
        clear hb
        go_wp2
        go_ret
        exact ⟨rfl, hB⟩

set_option maxRecDepth 100000 in
theorem lifted (os : Os) (started : os.Started) (H : Type) (enc : TypeId × Value → H) :
    ReturnsInHanded {} Try.checked os 7 .any (Rows.fnStateBytesSpec.pre6 enc Try.prog Try.f7 Rows.fnStateBytesRow.domain false) (Rows.fnStateBytesSpec.post enc Try.prog Try.f7 false true false false) := by
  refine returnsInHanded_of_change (C := Try.checked) own started (by kernel_rfl) Try.func7
    (ChangeSpec.witness6 (enc := enc) (C := Try.checked) false ⟨#[], #[.slice none 0 0], []⟩ 8 (by kernel_rfl) (by kernel_rfl) (by kernel_rfl) (by kernel_rfl)) ?_
  intro W base args ds gs before hval0 hW hcnd _
  have hval : ∀ (j : Nat) t v, Try.f7.params[j]? = some t → args[j]? = some v → Value.okWide Try.prog W .any base t v := hval0
  have hW' := hW
  obtain ⟨p, q, hA0, hV, rfl, hfz, hnd⟩ := hW
  have hA : DataW.TrodAll enc Try.prog W 0 (fun _ => true) true Try.f7.params.toList args.toList ds p := hA0
  rw [Try.params7] at hA hval
  obtain ⟨v0, vs0, d0, ds0, p0, q0, hargs, rfl, rfl, h0, r0⟩ := trodAll_cons hA
  obtain ⟨rfl, rfl, rfl⟩ := trodAll_nil r0
  obtain rfl : args = #[v0] := by cases args; simp_all
  obtain ⟨rfl, rfl⟩ := trodVars_none hV
  obtain ⟨a0, len0, cap0, rfl⟩ := okWide_slice Try.underlying22 (hval 0 22 v0 rfl rfl)
  have k0 := h0
  have lt0 : ∀ x ∈ p0, x.block < W.heap.size := by obtain ⟨m, hm⟩ := k0; exact DataW.trod_lt m _ _ _ hm
  obtain ⟨z0, w0⟩ : ∃ zs, IsRow .u8 W a0 len0 cap0 zs := by
    obtain ⟨fuel, hf⟩ := h0
    rcases open_ints Try.underlying22 Try.underlying5 (by kernel_rfl) hf with ⟨hcs, _⟩ | ⟨x, l, c, zs, hcs, _, hl, hm, hz, _, hcell, hwz⟩
    · simp [Value.cells] at hcs
      obtain ⟨rfl, rfl, rfl⟩ := hcs
      exact ⟨[], .inl ⟨rfl, rfl, rfl, rfl⟩⟩
    · simp [Value.cells] at hcs
      obtain ⟨rfl, rfl, rfl⟩ := hcs
      exact ⟨zs, .inr ⟨_, rfl, hl, hm, by simpa using hz, hcell, hwz⟩⟩
  clear hA0 hval0
  refine (walk a0 len0 cap0 z0 W w0).mono fun e W' ⟨he, bel⟩ => ?_
  subst he
  exact ⟨_, rfl, _, _, _, [], _, [], hW', trodAll_mk1 (shut_bool Try.underlying4 _), (trodAll_cons_mk (Below.trod laidOut (by kernel_rfl) (of_decide_eq_true (by kernel_rfl)) k0 bel lt0) trodAll_mk0), rfl, bel.frame _, fun h => by cases h⟩

theorem over : Rows.fnStateBytesRow.holds Try.pinned (OpenSpec.ofChange Rows.fnStateBytesSpec) :=
  OpenClaim.holds_of_wide 7 Try.f7 rfl rfl rfl rfl rfl rfl rfl ⟨rfl, rfl, rfl, rfl, rfl⟩ rfl rfl rfl rfl rfl (by kernel_rfl) Try.func7 (by kernel_rfl)
    (of_decide_eq_true (by kernel_rfl)) (by unfold Func.isWrapper; first | (rw [if_pos (by decide +kernel)]; kernel_rfl) | (rw [if_neg (by decide +kernel)]; exact ⟨rfl, rfl⟩))
    (fun os started H enc _ => lifted os started H enc)

theorem proved : Rows.FnStateBytesSaid := over
#print axioms proved
end Go.Proofs.Ytnlnledijpcjpab.fnStateBytes
