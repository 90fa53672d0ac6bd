/-
  What is proved: at every code (every slice of bytes, of whatever length), the law FnPieces answers true: of drawn pieces the program says which are right, what traits they have, how strong and tough they are, how they are elsewhere, and which are the same as the specification does; one that goes elsewhere is as it was printed; no condition.
-/
import Derived.Test.YtjpimkolkhbflabRows
import Derived.Test.YtjpimkolkhbflabCur
import Derived.Test.YtjpimkolkhbflabPiece
import Derived.Test.YtjpimkolkhbflabRow
import Derived.Test.YtjpimkolkhbflabPiece2
import Derived.Test.YtjpimkolkhbflabRowLaw
import Derived.Test.YtjpimkolkhbflabStaA
import Derived.Test.YtjpimkolkhbflabRegs
import Derived.Test.YtjpimkolkhbflabNum
import Derived.Test.YtjpimkolkhbflabPiece3
import Derived.Test.YtjpimkolkhbflabState4
import Derived.Test.YtjpimkolkhbflabState5
import Derived.Test.YtjpimkolkhbflabStMark
import Derived.Test.YtjpimkolkhbflabPieceOk
import Derived.Test.YtjpimkolkhbflabState6
import Derived.Test.YtjpimkolkhbflabStHeld
import Derived.Test.YtjpimkolkhbflabStEq
import Derived.Test.YtjpimkolkhbflabStSame
import Derived.Test.YtjpimkolkhbflabStLaw
import Derived.Test.YtjpimkolkhbflabBytesA
import Derived.Test.YtjpimkolkhbflabPiece4
import Derived.Test.YtjpimkolkhbflabPiece5
import Derived.Test.YtjpimkolkhbflabStRow
import Derived.Test.YtjpimkolkhbflabStNew
import Derived.Test.YtjpimkolkhbflabCurs
import Derived.Test.YtjpimkolkhbflabDrawB
import Derived.Test.YtjpimkolkhbflabDrawP
import Derived.Test.YtjpimkolkhbflabDrawT1
import Derived.Test.YtjpimkolkhbflabDrawT2
import Derived.Test.YtjpimkolkhbflabDrawT3
import Derived.Test.YtjpimkolkhbflabDrawL
import Derived.Test.YtjpimkolkhbflabDrawBend
import Derived.Test.YtjpimkolkhbflabState7
import Derived.Test.YtjpimkolkhbflabState8
import Derived.Test.YtjpimkolkhbflabStAt
import Derived.Test.YtjpimkolkhbflabStPut
import Derived.Test.YtjpimkolkhbflabDrawTD
import Derived.Test.YtjpimkolkhbflabDrawT6
import Derived.Test.YtjpimkolkhbflabDrawQ
import Derived.Test.YtjpimkolkhbflabPcI
import Derived.Test.YtjpimkolkhbflabPieceOkI
import Derived.WalkKit
import Derived.BigGuardPart
import Derived.BigQuiet
import Derived.Deep.RegionWith
import Derived.ProofKit
import Derived.OpenShut
import Derived.ShutString
import Derived.ChangeOld
import Derived.Below
namespace Go.Proofs.Ytjpimkolkhbflab.fnPieces
open Go.ChangeShapes Go.WideShapes Go.ChangeAt Go.RowKit
open Go.ChangeMaps (open_string shut_string)
set_option linter.unusedVariables false

theorem own : ownKnob Try.prog.godebug = none := by kernel_rfl
theorem laidOut : laidOutB Try.prog = true := by kernel_rfl

/-- WHAT THE WALK IS TOLD OF A SLICE OF INTEGERS THAT CAME IN: it is nil; or it leads to a row of 'cap' cells, the numbers 'zs' (the first 'len' are its elements, the rest its spare room), each fitting its kind. -/
def IsRow (k : IntKind) (w : World) (a : Option Addr) (len cap : Nat) (zs : List Int) : Prop :=
  (a = none ∧ len = 0 ∧ cap = 0 ∧ zs = []) ∨
  ∃ x, a = some x ∧ len ≤ cap ∧ cap ≤ maxLen ∧ zs.length = cap ∧ (∀ i, i < zs.length → w.cell? (x.add i) = some (.int k (zs.getD i 0))) ∧ ∀ n ∈ zs, (Lit.int k n).wf = true

theorem bnd_twice (x : Int) : bnd (bnd x) = bnd x := by unfold bnd; (repeat' split) <;> omega
theorem pw_mv (p : Pc) (z s : Int) : pwP (mvP p z s) = bnd p.po := by
  have h0 : bnd 0 = 0 := by decide
  unfold pwP mvP ls pl
  simp only [h0, Int.add_zero, Int.sub_zero, bnd_twice]
theorem ok_mv {p : Pc} {z s : Int} (h : okP p = true) (hz : 1 ≤ z ∧ z ≤ 4) (hs : 0 ≤ s ∧ s ≤ 9999) : okP (mvP p z s) = true := by
  unfold okP okA okB okC at h ⊢
  unfold mvP
  simp only [Bool.and_eq_true] at h ⊢
  obtain ⟨⟨⟨⟨⟨⟨⟨⟨⟨h0, h1⟩, _⟩, _⟩, _⟩, h5⟩, h6⟩, h7⟩, _⟩, _⟩ := h
  refine ⟨⟨⟨⟨⟨⟨⟨⟨⟨h0, h1⟩, h1⟩, ib_yes hz⟩, ib_yes hs⟩, h5⟩, h6⟩, h7⟩, ⟨⟨by decide, by decide⟩, by decide⟩⟩, by simp⟩
set_option maxRecDepth 100000 in
set_option maxHeartbeats 2000000 in
theorem walk (a0 : Option Addr) (len0 cap0 : Nat) (z0 : List Int) (w : World) (w0 : IsRow .u8 w a0 len0 cap0 z0) :
    Calls Try.prog 4 #[.slice a0 len0 cap0] w fun e w' => e = .returned (.bool true) ∧ Below w.heap.size w w' := by
  have hc : Code w a0 len0 w.heap.size := code_of_row w0
  clear w0
  by_cases hbig : (1048576 : Int) < (len0 : Int)
  · go_enter Try.func4, Try.ntmps4
    go_wp2_with (go_at_call 9; refine (big_any _ _ _ _).mono ?_; rintro e w' ⟨rfl, rfl⟩)
    go_ret
    exact ⟨rfl, Below.refl _ _⟩
  · go_enter Try.func4, Try.ntmps4
    try simp only [List.append_eq, List.cons_append, List.nil_append]
    go_wp2_with fail
    refine (big_any _ _ _ _).mono ?_
    rintro e w' ⟨rfl, rfl⟩
    have hB := Below.refl w'.heap.size w'
    go_wp2_with fail
    refine (drawPieceOk_any _ _ _ _ ((hc.below hB).mono hB.size (Nat.le_refl _))).mono ?_
    rintro e u1 ⟨p, rfl, hb⟩
    replace hB := below_app hB hb hB.size
    clear hb
    have hb := below_new2'' u1 (.cells #[.int .i64 p.id, .int .i64 p.ow, .int .i64 p.si, .int .i64 p.zo, .int .i64 p.st, .int .i64 p.po, .int .i64 p.to, .int .i64 p.tr, .int .i64 p.pl, .int .i64 p.mi, .int .i64 p.ma, .bool p.de, .bool p.be] 31)
    have b_p := boxR_new u1 31 #[.int .i64 p.id, .int .i64 p.ow, .int .i64 p.si, .int .i64 p.zo, .int .i64 p.st, .int .i64 p.po, .int .i64 p.to, .int .i64 p.tr, .int .i64 p.pl, .int .i64 p.mi, .int .i64 p.ma, .bool p.de, .bool p.be]
    generalize hVp : u1.alloc (.cells #[.int .i64 p.id, .int .i64 p.ow, .int .i64 p.si, .int .i64 p.zo, .int .i64 p.st, .int .i64 p.po, .int .i64 p.to, .int .i64 p.tr, .int .i64 p.pl, .int .i64 p.mi, .int .i64 p.ma, .bool p.de, .bool p.be] 31) = u2 at hb b_p
    replace hB := below_app hB hb hB.size
    clear hb
    go_wp2_with fail
    refine (drawHasTrait_any _ _ _ _ ((hc.below hB).mono hB.size (Nat.le_refl _))).mono ?_
    rintro e u3 ⟨q, t, rfl, hb⟩
    replace b_p := b_p.grew hb
    replace hB := below_app hB hb hB.size
    clear hb
    clear hVp
    have hb := below_new2'' u3 (.cells #[.int .i64 q.id, .int .i64 q.ow, .int .i64 q.si, .int .i64 q.zo, .int .i64 q.st, .int .i64 q.po, .int .i64 q.to, .int .i64 q.tr, .int .i64 q.pl, .int .i64 q.mi, .int .i64 q.ma, .bool q.de, .bool q.be] 31)
    have b_q := boxR_new u3 31 #[.int .i64 q.id, .int .i64 q.ow, .int .i64 q.si, .int .i64 q.zo, .int .i64 q.st, .int .i64 q.po, .int .i64 q.to, .int .i64 q.tr, .int .i64 q.pl, .int .i64 q.mi, .int .i64 q.ma, .bool q.de, .bool q.be]
    generalize hVq : u3.alloc (.cells #[.int .i64 q.id, .int .i64 q.ow, .int .i64 q.si, .int .i64 q.zo, .int .i64 q.st, .int .i64 q.po, .int .i64 q.to, .int .i64 q.tr, .int .i64 q.pl, .int .i64 q.mi, .int .i64 q.ma, .bool q.de, .bool q.be] 31) = u4 at hb b_q
    replace b_p := b_p.grew hb
    replace hB := below_app hB hb hB.size
    clear hb
    go_wp2_with fail
    refine (drawMoved_any _ _ _ _ ((hc.below hB).mono hB.size (Nat.le_refl _))).mono ?_
    rintro e u5 ⟨r, y, z, hy0, hy1, hz0, hz1, rfl, hb⟩
    replace b_p := b_p.grew hb
    replace b_q := b_q.grew hb
    replace hB := below_app hB hb hB.size
    clear hb
    clear hVq
    have hb := below_new2'' u5 (.cells #[.int .i64 r.id, .int .i64 r.ow, .int .i64 r.si, .int .i64 r.zo, .int .i64 r.st, .int .i64 r.po, .int .i64 r.to, .int .i64 r.tr, .int .i64 r.pl, .int .i64 r.mi, .int .i64 r.ma, .bool r.de, .bool r.be] 31)
    have b_r := boxR_new u5 31 #[.int .i64 r.id, .int .i64 r.ow, .int .i64 r.si, .int .i64 r.zo, .int .i64 r.st, .int .i64 r.po, .int .i64 r.to, .int .i64 r.tr, .int .i64 r.pl, .int .i64 r.mi, .int .i64 r.ma, .bool r.de, .bool r.be]
    generalize hVr : u5.alloc (.cells #[.int .i64 r.id, .int .i64 r.ow, .int .i64 r.si, .int .i64 r.zo, .int .i64 r.st, .int .i64 r.po, .int .i64 r.to, .int .i64 r.tr, .int .i64 r.pl, .int .i64 r.mi, .int .i64 r.ma, .bool r.de, .bool r.be] 31) = u6 at hb b_r
    replace b_p := b_p.grew hb
    replace b_q := b_q.grew hb
    replace hB := below_app hB hb hB.size
    clear hb
    have c_r_0 : u6.cell? ⟨u5.heap.size, 0, none⟩ = some (.int .i64 r.id) := b_r.cell 0
    have c_r_1 : u6.cell? ⟨u5.heap.size, 1, none⟩ = some (.int .i64 r.ow) := b_r.cell 1
    have c_r_2 : u6.cell? ⟨u5.heap.size, 2, none⟩ = some (.int .i64 r.si) := b_r.cell 2
    have c_r_3 : u6.cell? ⟨u5.heap.size, 3, none⟩ = some (.int .i64 r.zo) := b_r.cell 3
    have c_r_4 : u6.cell? ⟨u5.heap.size, 4, none⟩ = some (.int .i64 r.st) := b_r.cell 4
    have c_r_5 : u6.cell? ⟨u5.heap.size, 5, none⟩ = some (.int .i64 r.po) := b_r.cell 5
    have c_r_6 : u6.cell? ⟨u5.heap.size, 6, none⟩ = some (.int .i64 r.to) := b_r.cell 6
    have c_r_7 : u6.cell? ⟨u5.heap.size, 7, none⟩ = some (.int .i64 r.tr) := b_r.cell 7
    have c_r_8 : u6.cell? ⟨u5.heap.size, 8, none⟩ = some (.int .i64 r.pl) := b_r.cell 8
    have c_r_9 : u6.cell? ⟨u5.heap.size, 9, none⟩ = some (.int .i64 r.mi) := b_r.cell 9
    have c_r_10 : u6.cell? ⟨u5.heap.size, 10, none⟩ = some (.int .i64 r.ma) := b_r.cell 10
    have c_r_11 : u6.cell? ⟨u5.heap.size, 11, none⟩ = some (.bool r.de) := b_r.cell 11
    have c_r_12 : u6.cell? ⟨u5.heap.size, 12, none⟩ = some (.bool r.be) := b_r.cell 12
    go_wp2_with fail
    refine (implMoved_any r y z _).mono ?_
    rintro e u7 ⟨rfl, hb⟩
    clear c_r_0 c_r_1 c_r_2 c_r_3 c_r_4 c_r_5 c_r_6 c_r_7 c_r_8 c_r_9 c_r_10 c_r_11 c_r_12
    replace b_p := b_p.grew hb
    replace b_q := b_q.grew hb
    replace b_r := b_r.grew hb
    replace hB := below_app hB hb hB.size
    clear hb
    clear hVr
    have HM1 : Hid (pwP (mvP r y z) = bnd r.po) := pw_mv r y z
    have HM2 : Hid ((mvP r y z).si = r.ow) := (rfl : r.ow = r.ow)
    have HM3 : Hid (mvP (mvP r y z) y z = mvP r y z) := (rfl : mvP r y z = mvP r y z)
    have HM4 : Hid (okP r = true → 1 ≤ y → okP (mvP r y z) = true) := fun h1 h2 => ok_mv h1 ⟨h2, by omega⟩ ⟨hz0, by omega⟩
    have HM5 : Hid (mvP r y z = mvP r y z) := (rfl : mvP r y z = mvP r y z)
    generalize hm : mvP r y z = m at HM1 HM2 HM3 HM4 ⊢
    have HM : Hid (mvP r y z = m) := hm
    clear hm HM5
    have hb := below_new2'' u7 (.cells #[.int .i64 m.id, .int .i64 m.ow, .int .i64 m.si, .int .i64 m.zo, .int .i64 m.st, .int .i64 m.po, .int .i64 m.to, .int .i64 m.tr, .int .i64 m.pl, .int .i64 m.mi, .int .i64 m.ma, .bool m.de, .bool m.be] 31)
    have b_m := boxR_new u7 31 #[.int .i64 m.id, .int .i64 m.ow, .int .i64 m.si, .int .i64 m.zo, .int .i64 m.st, .int .i64 m.po, .int .i64 m.to, .int .i64 m.tr, .int .i64 m.pl, .int .i64 m.mi, .int .i64 m.ma, .bool m.de, .bool m.be]
    generalize hVm : u7.alloc (.cells #[.int .i64 m.id, .int .i64 m.ow, .int .i64 m.si, .int .i64 m.zo, .int .i64 m.st, .int .i64 m.po, .int .i64 m.to, .int .i64 m.tr, .int .i64 m.pl, .int .i64 m.mi, .int .i64 m.ma, .bool m.de, .bool m.be] 31) = u8 at hb b_m
    replace b_p := b_p.grew hb
    replace b_q := b_q.grew hb
    replace b_r := b_r.grew hb
    replace hB := below_app hB hb hB.size
    clear hb
    go_wp2_with fail
    refine (drawSamePiece_any _ _ _ _ ((hc.below hB).mono hB.size (Nat.le_refl _))).mono ?_
    rintro e u9 ⟨c, d, rfl, hb⟩
    replace b_p := b_p.grew hb
    replace b_q := b_q.grew hb
    replace b_r := b_r.grew hb
    replace b_m := b_m.grew hb
    replace hB := below_app hB hb hB.size
    clear hb
    clear hVm
    have x4 := (boxR_new u9 31 #[.int .i64 0, .int .i64 0, .int .i64 0, .int .i64 0, .int .i64 0, .int .i64 0, .int .i64 0, .int .i64 0, .int .i64 0, .int .i64 0, .int .i64 0, .bool false, .bool false]).alloc (.cells #[.int .i64 0, .int .i64 0, .int .i64 0, .int .i64 0, .int .i64 0, .int .i64 0, .int .i64 0, .int .i64 0, .int .i64 0, .int .i64 0, .int .i64 0, .bool false, .bool false] 31)
    have x5 : BoxR ((u9.alloc (.cells #[.int .i64 0, .int .i64 0, .int .i64 0, .int .i64 0, .int .i64 0, .int .i64 0, .int .i64 0, .int .i64 0, .int .i64 0, .int .i64 0, .int .i64 0, .bool false, .bool false] 31)).alloc (.cells #[.int .i64 0, .int .i64 0, .int .i64 0, .int .i64 0, .int .i64 0, .int .i64 0, .int .i64 0, .int .i64 0, .int .i64 0, .int .i64 0, .int .i64 0, .bool false, .bool false] 31)) (u9.heap.size + 1) 31 #[.int .i64 0, .int .i64 0, .int .i64 0, .int .i64 0, .int .i64 0, .int .i64 0, .int .i64 0, .int .i64 0, .int .i64 0, .int .i64 0, .int .i64 0, .bool false, .bool false] := heap_alloc2_new _ _ _
    have hbA := ((Below.refl _ u9).alloc (Nat.le_refl _) (.cells #[.int .i64 0, .int .i64 0, .int .i64 0, .int .i64 0, .int .i64 0, .int .i64 0, .int .i64 0, .int .i64 0, .int .i64 0, .int .i64 0, .int .i64 0, .bool false, .bool false] 31)).alloc (by simp) (.cells #[.int .i64 0, .int .i64 0, .int .i64 0, .int .i64 0, .int .i64 0, .int .i64 0, .int .i64 0, .int .i64 0, .int .i64 0, .int .i64 0, .int .i64 0, .bool false, .bool false] 31)
    generalize hWA : (u9.alloc (.cells #[.int .i64 0, .int .i64 0, .int .i64 0, .int .i64 0, .int .i64 0, .int .i64 0, .int .i64 0, .int .i64 0, .int .i64 0, .int .i64 0, .int .i64 0, .bool false, .bool false] 31)).alloc (.cells #[.int .i64 0, .int .i64 0, .int .i64 0, .int .i64 0, .int .i64 0, .int .i64 0, .int .i64 0, .int .i64 0, .int .i64 0, .int .i64 0, .int .i64 0, .bool false, .bool false] 31) = WA at x4 x5 hbA
    have y4 : BoxR (WA.setRow u9.heap.size #[.int .i64 c.id, .int .i64 c.ow, .int .i64 c.si, .int .i64 c.zo, .int .i64 c.st, .int .i64 c.po, .int .i64 c.to, .int .i64 c.tr, .int .i64 c.pl, .int .i64 c.mi, .int .i64 c.ma, .bool c.de, .bool c.be]) u9.heap.size 31 #[.int .i64 c.id, .int .i64 c.ow, .int .i64 c.si, .int .i64 c.zo, .int .i64 c.st, .int .i64 c.po, .int .i64 c.to, .int .i64 c.tr, .int .i64 c.pl, .int .i64 c.mi, .int .i64 c.ma, .bool c.de, .bool c.be] := setRow_heap _ _ _ _ _ _ x4
    have y5 : BoxR (WA.setRow u9.heap.size #[.int .i64 c.id, .int .i64 c.ow, .int .i64 c.si, .int .i64 c.zo, .int .i64 c.st, .int .i64 c.po, .int .i64 c.to, .int .i64 c.tr, .int .i64 c.pl, .int .i64 c.mi, .int .i64 c.ma, .bool c.de, .bool c.be]) (u9.heap.size + 1) 31 #[.int .i64 0, .int .i64 0, .int .i64 0, .int .i64 0, .int .i64 0, .int .i64 0, .int .i64 0, .int .i64 0, .int .i64 0, .int .i64 0, .int .i64 0, .bool false, .bool false] := (heap_setRow_ne' WA _ _ _ (by omega)).trans x5
    have b_c : BoxR ((WA.setRow u9.heap.size #[.int .i64 c.id, .int .i64 c.ow, .int .i64 c.si, .int .i64 c.zo, .int .i64 c.st, .int .i64 c.po, .int .i64 c.to, .int .i64 c.tr, .int .i64 c.pl, .int .i64 c.mi, .int .i64 c.ma, .bool c.de, .bool c.be]).setRow (u9.heap.size + 1) #[.int .i64 d.id, .int .i64 d.ow, .int .i64 d.si, .int .i64 d.zo, .int .i64 d.st, .int .i64 d.po, .int .i64 d.to, .int .i64 d.tr, .int .i64 d.pl, .int .i64 d.mi, .int .i64 d.ma, .bool d.de, .bool d.be]) u9.heap.size 31 #[.int .i64 c.id, .int .i64 c.ow, .int .i64 c.si, .int .i64 c.zo, .int .i64 c.st, .int .i64 c.po, .int .i64 c.to, .int .i64 c.tr, .int .i64 c.pl, .int .i64 c.mi, .int .i64 c.ma, .bool c.de, .bool c.be] := (heap_setRow_ne' _ _ _ _ (by omega)).trans y4
    have b_d : BoxR ((WA.setRow u9.heap.size #[.int .i64 c.id, .int .i64 c.ow, .int .i64 c.si, .int .i64 c.zo, .int .i64 c.st, .int .i64 c.po, .int .i64 c.to, .int .i64 c.tr, .int .i64 c.pl, .int .i64 c.mi, .int .i64 c.ma, .bool c.de, .bool c.be]).setRow (u9.heap.size + 1) #[.int .i64 d.id, .int .i64 d.ow, .int .i64 d.si, .int .i64 d.zo, .int .i64 d.st, .int .i64 d.po, .int .i64 d.to, .int .i64 d.tr, .int .i64 d.pl, .int .i64 d.mi, .int .i64 d.ma, .bool d.de, .bool d.be]) (u9.heap.size + 1) 31 #[.int .i64 d.id, .int .i64 d.ow, .int .i64 d.si, .int .i64 d.zo, .int .i64 d.st, .int .i64 d.po, .int .i64 d.to, .int .i64 d.tr, .int .i64 d.pl, .int .i64 d.mi, .int .i64 d.ma, .bool d.de, .bool d.be] := setRow_heap _ _ _ _ _ _ y5
    have hb := below_setRow (below_setRow hbA (Nat.le_refl u9.heap.size) #[.int .i64 c.id, .int .i64 c.ow, .int .i64 c.si, .int .i64 c.zo, .int .i64 c.st, .int .i64 c.po, .int .i64 c.to, .int .i64 c.tr, .int .i64 c.pl, .int .i64 c.mi, .int .i64 c.ma, .bool c.de, .bool c.be]) (by omega : u9.heap.size ≤ u9.heap.size + 1) #[.int .i64 d.id, .int .i64 d.ow, .int .i64 d.si, .int .i64 d.zo, .int .i64 d.st, .int .i64 d.po, .int .i64 d.to, .int .i64 d.tr, .int .i64 d.pl, .int .i64 d.mi, .int .i64 d.ma, .bool d.de, .bool d.be]
    generalize hU0 : (WA.setRow u9.heap.size #[.int .i64 c.id, .int .i64 c.ow, .int .i64 c.si, .int .i64 c.zo, .int .i64 c.st, .int .i64 c.po, .int .i64 c.to, .int .i64 c.tr, .int .i64 c.pl, .int .i64 c.mi, .int .i64 c.ma, .bool c.de, .bool c.be]).setRow (u9.heap.size + 1) #[.int .i64 d.id, .int .i64 d.ow, .int .i64 d.si, .int .i64 d.zo, .int .i64 d.st, .int .i64 d.po, .int .i64 d.to, .int .i64 d.tr, .int .i64 d.pl, .int .i64 d.mi, .int .i64 d.ma, .bool d.de, .bool d.be] = U0 at b_c b_d hb
    replace b_p := b_p.grew hb
    replace b_q := b_q.grew hb
    replace b_r := b_r.grew hb
    replace b_m := b_m.grew hb
    replace hB := below_app hB hb hB.size
    clear hb
    have hne := bw_ne U0
    have c_p_0 := fun x : BW U0 => x.cell (show U0.cell? ⟨u1.heap.size, 0, none⟩ = some (.int .i64 p.id) from b_p.cell 0)
    have c_p_1 := fun x : BW U0 => x.cell (show U0.cell? ⟨u1.heap.size, 1, none⟩ = some (.int .i64 p.ow) from b_p.cell 1)
    have c_p_2 := fun x : BW U0 => x.cell (show U0.cell? ⟨u1.heap.size, 2, none⟩ = some (.int .i64 p.si) from b_p.cell 2)
    have c_p_3 := fun x : BW U0 => x.cell (show U0.cell? ⟨u1.heap.size, 3, none⟩ = some (.int .i64 p.zo) from b_p.cell 3)
    have c_p_4 := fun x : BW U0 => x.cell (show U0.cell? ⟨u1.heap.size, 4, none⟩ = some (.int .i64 p.st) from b_p.cell 4)
    have c_p_5 := fun x : BW U0 => x.cell (show U0.cell? ⟨u1.heap.size, 5, none⟩ = some (.int .i64 p.po) from b_p.cell 5)
    have c_p_6 := fun x : BW U0 => x.cell (show U0.cell? ⟨u1.heap.size, 6, none⟩ = some (.int .i64 p.to) from b_p.cell 6)
    have c_p_7 := fun x : BW U0 => x.cell (show U0.cell? ⟨u1.heap.size, 7, none⟩ = some (.int .i64 p.tr) from b_p.cell 7)
    have c_p_8 := fun x : BW U0 => x.cell (show U0.cell? ⟨u1.heap.size, 8, none⟩ = some (.int .i64 p.pl) from b_p.cell 8)
    have c_p_9 := fun x : BW U0 => x.cell (show U0.cell? ⟨u1.heap.size, 9, none⟩ = some (.int .i64 p.mi) from b_p.cell 9)
    have c_p_10 := fun x : BW U0 => x.cell (show U0.cell? ⟨u1.heap.size, 10, none⟩ = some (.int .i64 p.ma) from b_p.cell 10)
    have c_p_11 := fun x : BW U0 => x.cell (show U0.cell? ⟨u1.heap.size, 11, none⟩ = some (.bool p.de) from b_p.cell 11)
    have c_p_12 := fun x : BW U0 => x.cell (show U0.cell? ⟨u1.heap.size, 12, none⟩ = some (.bool p.be) from b_p.cell 12)
    have c_q_0 := fun x : BW U0 => x.cell (show U0.cell? ⟨u3.heap.size, 0, none⟩ = some (.int .i64 q.id) from b_q.cell 0)
    have c_q_1 := fun x : BW U0 => x.cell (show U0.cell? ⟨u3.heap.size, 1, none⟩ = some (.int .i64 q.ow) from b_q.cell 1)
    have c_q_2 := fun x : BW U0 => x.cell (show U0.cell? ⟨u3.heap.size, 2, none⟩ = some (.int .i64 q.si) from b_q.cell 2)
    have c_q_3 := fun x : BW U0 => x.cell (show U0.cell? ⟨u3.heap.size, 3, none⟩ = some (.int .i64 q.zo) from b_q.cell 3)
    have c_q_4 := fun x : BW U0 => x.cell (show U0.cell? ⟨u3.heap.size, 4, none⟩ = some (.int .i64 q.st) from b_q.cell 4)
    have c_q_5 := fun x : BW U0 => x.cell (show U0.cell? ⟨u3.heap.size, 5, none⟩ = some (.int .i64 q.po) from b_q.cell 5)
    have c_q_6 := fun x : BW U0 => x.cell (show U0.cell? ⟨u3.heap.size, 6, none⟩ = some (.int .i64 q.to) from b_q.cell 6)
    have c_q_7 := fun x : BW U0 => x.cell (show U0.cell? ⟨u3.heap.size, 7, none⟩ = some (.int .i64 q.tr) from b_q.cell 7)
    have c_q_8 := fun x : BW U0 => x.cell (show U0.cell? ⟨u3.heap.size, 8, none⟩ = some (.int .i64 q.pl) from b_q.cell 8)
    have c_q_9 := fun x : BW U0 => x.cell (show U0.cell? ⟨u3.heap.size, 9, none⟩ = some (.int .i64 q.mi) from b_q.cell 9)
    have c_q_10 := fun x : BW U0 => x.cell (show U0.cell? ⟨u3.heap.size, 10, none⟩ = some (.int .i64 q.ma) from b_q.cell 10)
    have c_q_11 := fun x : BW U0 => x.cell (show U0.cell? ⟨u3.heap.size, 11, none⟩ = some (.bool q.de) from b_q.cell 11)
    have c_q_12 := fun x : BW U0 => x.cell (show U0.cell? ⟨u3.heap.size, 12, none⟩ = some (.bool q.be) from b_q.cell 12)
    have c_r_0 := fun x : BW U0 => x.cell (show U0.cell? ⟨u5.heap.size, 0, none⟩ = some (.int .i64 r.id) from b_r.cell 0)
    have c_r_1 := fun x : BW U0 => x.cell (show U0.cell? ⟨u5.heap.size, 1, none⟩ = some (.int .i64 r.ow) from b_r.cell 1)
    have c_r_2 := fun x : BW U0 => x.cell (show U0.cell? ⟨u5.heap.size, 2, none⟩ = some (.int .i64 r.si) from b_r.cell 2)
    have c_r_3 := fun x : BW U0 => x.cell (show U0.cell? ⟨u5.heap.size, 3, none⟩ = some (.int .i64 r.zo) from b_r.cell 3)
    have c_r_4 := fun x : BW U0 => x.cell (show U0.cell? ⟨u5.heap.size, 4, none⟩ = some (.int .i64 r.st) from b_r.cell 4)
    have c_r_5 := fun x : BW U0 => x.cell (show U0.cell? ⟨u5.heap.size, 5, none⟩ = some (.int .i64 r.po) from b_r.cell 5)
    have c_r_6 := fun x : BW U0 => x.cell (show U0.cell? ⟨u5.heap.size, 6, none⟩ = some (.int .i64 r.to) from b_r.cell 6)
    have c_r_7 := fun x : BW U0 => x.cell (show U0.cell? ⟨u5.heap.size, 7, none⟩ = some (.int .i64 r.tr) from b_r.cell 7)
    have c_r_8 := fun x : BW U0 => x.cell (show U0.cell? ⟨u5.heap.size, 8, none⟩ = some (.int .i64 r.pl) from b_r.cell 8)
    have c_r_9 := fun x : BW U0 => x.cell (show U0.cell? ⟨u5.heap.size, 9, none⟩ = some (.int .i64 r.mi) from b_r.cell 9)
    have c_r_10 := fun x : BW U0 => x.cell (show U0.cell? ⟨u5.heap.size, 10, none⟩ = some (.int .i64 r.ma) from b_r.cell 10)
    have c_r_11 := fun x : BW U0 => x.cell (show U0.cell? ⟨u5.heap.size, 11, none⟩ = some (.bool r.de) from b_r.cell 11)
    have c_r_12 := fun x : BW U0 => x.cell (show U0.cell? ⟨u5.heap.size, 12, none⟩ = some (.bool r.be) from b_r.cell 12)
    have c_m_0 := fun x : BW U0 => x.cell (show U0.cell? ⟨u7.heap.size, 0, none⟩ = some (.int .i64 m.id) from b_m.cell 0)
    have c_m_1 := fun x : BW U0 => x.cell (show U0.cell? ⟨u7.heap.size, 1, none⟩ = some (.int .i64 m.ow) from b_m.cell 1)
    have c_m_2 := fun x : BW U0 => x.cell (show U0.cell? ⟨u7.heap.size, 2, none⟩ = some (.int .i64 m.si) from b_m.cell 2)
    have c_m_3 := fun x : BW U0 => x.cell (show U0.cell? ⟨u7.heap.size, 3, none⟩ = some (.int .i64 m.zo) from b_m.cell 3)
    have c_m_4 := fun x : BW U0 => x.cell (show U0.cell? ⟨u7.heap.size, 4, none⟩ = some (.int .i64 m.st) from b_m.cell 4)
    have c_m_5 := fun x : BW U0 => x.cell (show U0.cell? ⟨u7.heap.size, 5, none⟩ = some (.int .i64 m.po) from b_m.cell 5)
    have c_m_6 := fun x : BW U0 => x.cell (show U0.cell? ⟨u7.heap.size, 6, none⟩ = some (.int .i64 m.to) from b_m.cell 6)
    have c_m_7 := fun x : BW U0 => x.cell (show U0.cell? ⟨u7.heap.size, 7, none⟩ = some (.int .i64 m.tr) from b_m.cell 7)
    have c_m_8 := fun x : BW U0 => x.cell (show U0.cell? ⟨u7.heap.size, 8, none⟩ = some (.int .i64 m.pl) from b_m.cell 8)
    have c_m_9 := fun x : BW U0 => x.cell (show U0.cell? ⟨u7.heap.size, 9, none⟩ = some (.int .i64 m.mi) from b_m.cell 9)
    have c_m_10 := fun x : BW U0 => x.cell (show U0.cell? ⟨u7.heap.size, 10, none⟩ = some (.int .i64 m.ma) from b_m.cell 10)
    have c_m_11 := fun x : BW U0 => x.cell (show U0.cell? ⟨u7.heap.size, 11, none⟩ = some (.bool m.de) from b_m.cell 11)
    have c_m_12 := fun x : BW U0 => x.cell (show U0.cell? ⟨u7.heap.size, 12, none⟩ = some (.bool m.be) from b_m.cell 12)
    have c_c_0 := fun x : BW U0 => x.cell (show U0.cell? ⟨u9.heap.size, 0, none⟩ = some (.int .i64 c.id) from b_c.cell 0)
    have c_c_1 := fun x : BW U0 => x.cell (show U0.cell? ⟨u9.heap.size, 1, none⟩ = some (.int .i64 c.ow) from b_c.cell 1)
    have c_c_2 := fun x : BW U0 => x.cell (show U0.cell? ⟨u9.heap.size, 2, none⟩ = some (.int .i64 c.si) from b_c.cell 2)
    have c_c_3 := fun x : BW U0 => x.cell (show U0.cell? ⟨u9.heap.size, 3, none⟩ = some (.int .i64 c.zo) from b_c.cell 3)
    have c_c_4 := fun x : BW U0 => x.cell (show U0.cell? ⟨u9.heap.size, 4, none⟩ = some (.int .i64 c.st) from b_c.cell 4)
    have c_c_5 := fun x : BW U0 => x.cell (show U0.cell? ⟨u9.heap.size, 5, none⟩ = some (.int .i64 c.po) from b_c.cell 5)
    have c_c_6 := fun x : BW U0 => x.cell (show U0.cell? ⟨u9.heap.size, 6, none⟩ = some (.int .i64 c.to) from b_c.cell 6)
    have c_c_7 := fun x : BW U0 => x.cell (show U0.cell? ⟨u9.heap.size, 7, none⟩ = some (.int .i64 c.tr) from b_c.cell 7)
    have c_c_8 := fun x : BW U0 => x.cell (show U0.cell? ⟨u9.heap.size, 8, none⟩ = some (.int .i64 c.pl) from b_c.cell 8)
    have c_c_9 := fun x : BW U0 => x.cell (show U0.cell? ⟨u9.heap.size, 9, none⟩ = some (.int .i64 c.mi) from b_c.cell 9)
    have c_c_10 := fun x : BW U0 => x.cell (show U0.cell? ⟨u9.heap.size, 10, none⟩ = some (.int .i64 c.ma) from b_c.cell 10)
    have c_c_11 := fun x : BW U0 => x.cell (show U0.cell? ⟨u9.heap.size, 11, none⟩ = some (.bool c.de) from b_c.cell 11)
    have c_c_12 := fun x : BW U0 => x.cell (show U0.cell? ⟨u9.heap.size, 12, none⟩ = some (.bool c.be) from b_c.cell 12)
    have c_d_0 := fun x : BW U0 => x.cell (show U0.cell? ⟨u9.heap.size + 1, 0, none⟩ = some (.int .i64 d.id) from b_d.cell 0)
    have c_d_1 := fun x : BW U0 => x.cell (show U0.cell? ⟨u9.heap.size + 1, 1, none⟩ = some (.int .i64 d.ow) from b_d.cell 1)
    have c_d_2 := fun x : BW U0 => x.cell (show U0.cell? ⟨u9.heap.size + 1, 2, none⟩ = some (.int .i64 d.si) from b_d.cell 2)
    have c_d_3 := fun x : BW U0 => x.cell (show U0.cell? ⟨u9.heap.size + 1, 3, none⟩ = some (.int .i64 d.zo) from b_d.cell 3)
    have c_d_4 := fun x : BW U0 => x.cell (show U0.cell? ⟨u9.heap.size + 1, 4, none⟩ = some (.int .i64 d.st) from b_d.cell 4)
    have c_d_5 := fun x : BW U0 => x.cell (show U0.cell? ⟨u9.heap.size + 1, 5, none⟩ = some (.int .i64 d.po) from b_d.cell 5)
    have c_d_6 := fun x : BW U0 => x.cell (show U0.cell? ⟨u9.heap.size + 1, 6, none⟩ = some (.int .i64 d.to) from b_d.cell 6)
    have c_d_7 := fun x : BW U0 => x.cell (show U0.cell? ⟨u9.heap.size + 1, 7, none⟩ = some (.int .i64 d.tr) from b_d.cell 7)
    have c_d_8 := fun x : BW U0 => x.cell (show U0.cell? ⟨u9.heap.size + 1, 8, none⟩ = some (.int .i64 d.pl) from b_d.cell 8)
    have c_d_9 := fun x : BW U0 => x.cell (show U0.cell? ⟨u9.heap.size + 1, 9, none⟩ = some (.int .i64 d.mi) from b_d.cell 9)
    have c_d_10 := fun x : BW U0 => x.cell (show U0.cell? ⟨u9.heap.size + 1, 10, none⟩ = some (.int .i64 d.ma) from b_d.cell 10)
    have c_d_11 := fun x : BW U0 => x.cell (show U0.cell? ⟨u9.heap.size + 1, 11, none⟩ = some (.bool d.de) from b_d.cell 11)
    have c_d_12 := fun x : BW U0 => x.cell (show U0.cell? ⟨u9.heap.size + 1, 12, none⟩ = some (.bool d.be) from b_d.cell 12)
    have heq1 := fun w => run_eq_pc m m w
    rw [smP_self] at heq1
    have heq2 := fun w => run_eq_pc c d w
    have MV : ∀ w : World, Calls Try.prog 35 #[(.agg #[.int .i64 r.id, .int .i64 r.ow, .int .i64 r.si, .int .i64 r.zo, .int .i64 r.st, .int .i64 r.po, .int .i64 r.to, .int .i64 r.tr, .int .i64 r.pl, .int .i64 r.mi, .int .i64 r.ma, .bool r.de, .bool r.be]), .int .i64 y, .int .i64 z] w fun e w' => e = .returned (.agg #[.int .i64 m.id, .int .i64 m.ow, .int .i64 m.si, .int .i64 m.zo, .int .i64 m.st, .int .i64 m.po, .int .i64 m.to, .int .i64 m.tr, .int .i64 m.pl, .int .i64 m.mi, .int .i64 m.ma, .bool m.de, .bool m.be]) ∧ Below w.heap.size w w' := fun w => by have := specMoved_any r y z w; rw [HM.out] at this; exact this
    go_wp2_with first | (refine wpList_store_row rfl 31 (.tmp 10) _ rfl u9.heap.size #[.int .i64 c.id, .int .i64 c.ow, .int .i64 c.si, .int .i64 c.zo, .int .i64 c.st, .int .i64 c.po, .int .i64 c.to, .int .i64 c.tr, .int .i64 c.pl, .int .i64 c.mi, .int .i64 c.ma, .bool c.de, .bool c.be] (by rfl) (by rfl) _ _ x4 (by kernel_rfl) (by rfl) (by simp [Value.oneCell']) ?_) | (refine wpList_store_row rfl 31 (.tmp 11) _ rfl (u9.heap.size + 1) #[.int .i64 d.id, .int .i64 d.ow, .int .i64 d.si, .int .i64 d.zo, .int .i64 d.st, .int .i64 d.po, .int .i64 d.to, .int .i64 d.tr, .int .i64 d.pl, .int .i64 d.mi, .int .i64 d.ma, .bool d.de, .bool d.be] (by rfl) (by rfl) _ _ y5 (by kernel_rfl) (by rfl) (by simp [Value.oneCell']) ?_; rw [hU0])
    clear x4 x5 y4 y5 hU0 hWA hbA
    try go_wp2_with fail
    try simp only [Act.put]
    refine wp_region_below_lit (W := U0) 45 (by kernel_rfl) (by kernel_rfl) (by decide) (Below.refl _ _) (by intro c d v a w h; cases d <;> exact h) ?_
    simp only [List.take_succ_cons, List.take_zero, List.drop_succ_cons, List.drop_zero]
    repeat (go_big_quiet_step (first | (go_at_call 27; refine quiet_below (implPieceOk_any _ _)) | (go_at_call 28; refine quiet_below (specPieceOk_any _ _)) | (go_at_call 29; refine quiet_below (implHasTrait_any _ _ _)) | (go_at_call 30; refine quiet_below (specHasTrait_any _ _ _)) | (go_at_call 31; refine quiet_below (implPowerOf_any _ _)) | (go_at_call 32; refine quiet_below (specPowerOf_any _ _)) | (go_at_call 33; refine quiet_below (implToughOf_any _ _)) | (go_at_call 34; refine quiet_below (specToughOf_any _ _)) | (go_at_call 35; refine quiet_below (MV _)) | (go_at_call 36; refine quiet_below (implSamePiece_any _ _ _))))
    refine wpQuiet_nil ?_
    rintro _ ⟨x1, rfl⟩
    clear c_p_0 c_p_1 c_p_2 c_p_3 c_p_4 c_p_5 c_p_6 c_p_7 c_p_8 c_p_9 c_p_10 c_p_11 c_p_12 c_q_0 c_q_1 c_q_2 c_q_3 c_q_4 c_q_5 c_q_6 c_q_7 c_q_8 c_q_9 c_q_10 c_q_11 c_q_12 c_r_0 c_r_1 c_r_2 c_r_3 c_r_4 c_r_5 c_r_6 c_r_7 c_r_8 c_r_9 c_r_10 c_r_11 c_r_12 c_m_0 c_m_1 c_m_2 c_m_3 c_m_4 c_m_5 c_m_6 c_m_7 c_m_8 c_m_9 c_m_10 c_m_11 c_m_12 c_c_0 c_c_1 c_c_2 c_c_3 c_c_4 c_c_5 c_c_6 c_c_7 c_c_8 c_c_9 c_c_10 c_c_11 c_c_12 c_d_0 c_d_1 c_d_2 c_d_3 c_d_4 c_d_5 c_d_6 c_d_7 c_d_8 c_d_9 c_d_10 c_d_11 c_d_12 hne heq2 MV
    as_aux_lemma =>
      replace b_r := b_r.grew x1.h
      replace b_m := b_m.grew x1.h
      replace hB := below_app hB x1.h hB.size
      generalize x1.u = U1 at b_r b_m hB ⊢
      clear b_p b_q b_c b_d
      have hne := bw_ne U1
      have c_r_0 := fun x : BW U1 => x.cell (show U1.cell? ⟨u5.heap.size, 0, none⟩ = some (.int .i64 r.id) from b_r.cell 0)
      have c_r_1 := fun x : BW U1 => x.cell (show U1.cell? ⟨u5.heap.size, 1, none⟩ = some (.int .i64 r.ow) from b_r.cell 1)
      have c_r_2 := fun x : BW U1 => x.cell (show U1.cell? ⟨u5.heap.size, 2, none⟩ = some (.int .i64 r.si) from b_r.cell 2)
      have c_r_3 := fun x : BW U1 => x.cell (show U1.cell? ⟨u5.heap.size, 3, none⟩ = some (.int .i64 r.zo) from b_r.cell 3)
      have c_r_4 := fun x : BW U1 => x.cell (show U1.cell? ⟨u5.heap.size, 4, none⟩ = some (.int .i64 r.st) from b_r.cell 4)
      have c_r_5 := fun x : BW U1 => x.cell (show U1.cell? ⟨u5.heap.size, 5, none⟩ = some (.int .i64 r.po) from b_r.cell 5)
      have c_r_6 := fun x : BW U1 => x.cell (show U1.cell? ⟨u5.heap.size, 6, none⟩ = some (.int .i64 r.to) from b_r.cell 6)
      have c_r_7 := fun x : BW U1 => x.cell (show U1.cell? ⟨u5.heap.size, 7, none⟩ = some (.int .i64 r.tr) from b_r.cell 7)
      have c_r_8 := fun x : BW U1 => x.cell (show U1.cell? ⟨u5.heap.size, 8, none⟩ = some (.int .i64 r.pl) from b_r.cell 8)
      have c_r_9 := fun x : BW U1 => x.cell (show U1.cell? ⟨u5.heap.size, 9, none⟩ = some (.int .i64 r.mi) from b_r.cell 9)
      have c_r_10 := fun x : BW U1 => x.cell (show U1.cell? ⟨u5.heap.size, 10, none⟩ = some (.int .i64 r.ma) from b_r.cell 10)
      have c_r_11 := fun x : BW U1 => x.cell (show U1.cell? ⟨u5.heap.size, 11, none⟩ = some (.bool r.de) from b_r.cell 11)
      have c_r_12 := fun x : BW U1 => x.cell (show U1.cell? ⟨u5.heap.size, 12, none⟩ = some (.bool r.be) from b_r.cell 12)
      have c_m_0 := fun x : BW U1 => x.cell (show U1.cell? ⟨u7.heap.size, 0, none⟩ = some (.int .i64 m.id) from b_m.cell 0)
      have c_m_1 := fun x : BW U1 => x.cell (show U1.cell? ⟨u7.heap.size, 1, none⟩ = some (.int .i64 m.ow) from b_m.cell 1)
      have c_m_2 := fun x : BW U1 => x.cell (show U1.cell? ⟨u7.heap.size, 2, none⟩ = some (.int .i64 m.si) from b_m.cell 2)
      have c_m_3 := fun x : BW U1 => x.cell (show U1.cell? ⟨u7.heap.size, 3, none⟩ = some (.int .i64 m.zo) from b_m.cell 3)
      have c_m_4 := fun x : BW U1 => x.cell (show U1.cell? ⟨u7.heap.size, 4, none⟩ = some (.int .i64 m.st) from b_m.cell 4)
      have c_m_5 := fun x : BW U1 => x.cell (show U1.cell? ⟨u7.heap.size, 5, none⟩ = some (.int .i64 m.po) from b_m.cell 5)
      have c_m_6 := fun x : BW U1 => x.cell (show U1.cell? ⟨u7.heap.size, 6, none⟩ = some (.int .i64 m.to) from b_m.cell 6)
      have c_m_7 := fun x : BW U1 => x.cell (show U1.cell? ⟨u7.heap.size, 7, none⟩ = some (.int .i64 m.tr) from b_m.cell 7)
      have c_m_8 := fun x : BW U1 => x.cell (show U1.cell? ⟨u7.heap.size, 8, none⟩ = some (.int .i64 m.pl) from b_m.cell 8)
      have c_m_9 := fun x : BW U1 => x.cell (show U1.cell? ⟨u7.heap.size, 9, none⟩ = some (.int .i64 m.mi) from b_m.cell 9)
      have c_m_10 := fun x : BW U1 => x.cell (show U1.cell? ⟨u7.heap.size, 10, none⟩ = some (.int .i64 m.ma) from b_m.cell 10)
      have c_m_11 := fun x : BW U1 => x.cell (show U1.cell? ⟨u7.heap.size, 11, none⟩ = some (.bool m.de) from b_m.cell 11)
      have c_m_12 := fun x : BW U1 => x.cell (show U1.cell? ⟨u7.heap.size, 12, none⟩ = some (.bool m.be) from b_m.cell 12)
      have MW : ∀ w : World, Calls Try.prog 25 #[(.agg #[.int .i64 m.id, .int .i64 m.ow, .int .i64 m.si, .int .i64 m.zo, .int .i64 m.st, .int .i64 m.po, .int .i64 m.to, .int .i64 m.tr, .int .i64 m.pl, .int .i64 m.mi, .int .i64 m.ma, .bool m.de, .bool m.be]), .int .i64 y, .int .i64 z] w fun e w' => e = .returned (.agg #[.int .i64 m.id, .int .i64 m.ow, .int .i64 m.si, .int .i64 m.zo, .int .i64 m.st, .int .i64 m.po, .int .i64 m.to, .int .i64 m.tr, .int .i64 m.pl, .int .i64 m.mi, .int .i64 m.ma, .bool m.de, .bool m.be]) ∧ Below w.heap.size w w' := fun w => by have := implMoved_any m y z w; rw [HM3.out] at this; exact this
      have PW : ∀ w : World, Calls Try.prog 31 #[(.agg #[.int .i64 m.id, .int .i64 m.ow, .int .i64 m.si, .int .i64 m.zo, .int .i64 m.st, .int .i64 m.po, .int .i64 m.to, .int .i64 m.tr, .int .i64 m.pl, .int .i64 m.mi, .int .i64 m.ma, .bool m.de, .bool m.be])] w fun e w' => e = .returned (.int .i64 (bnd r.po)) ∧ Below w.heap.size w w' := fun w => by have := implPowerOf_any m w; rw [HM1.out] at this; exact this
      have hsi : (m.si == r.ow) = true := by rw [HM2.out]; simp
      clear HM1 HM2 HM3 HM
      have OKR : ∀ b, okP r = b → ∀ w : World, Calls Try.prog 27 #[(.agg #[.int .i64 r.id, .int .i64 r.ow, .int .i64 r.si, .int .i64 r.zo, .int .i64 r.st, .int .i64 r.po, .int .i64 r.to, .int .i64 r.tr, .int .i64 r.pl, .int .i64 r.mi, .int .i64 r.ma, .bool r.de, .bool r.be])] w fun e w' => e = .returned (.bool b) ∧ Below w.heap.size w w' := fun b h w => by rw [← h]; exact implPieceOk_any r w
      have OKM : ∀ b, okP m = b → ∀ w : World, Calls Try.prog 27 #[(.agg #[.int .i64 m.id, .int .i64 m.ow, .int .i64 m.si, .int .i64 m.zo, .int .i64 m.st, .int .i64 m.po, .int .i64 m.to, .int .i64 m.tr, .int .i64 m.pl, .int .i64 m.mi, .int .i64 m.ma, .bool m.de, .bool m.be])] w fun e w' => e = .returned (.bool b) ∧ Below w.heap.size w w' := fun b h w => by rw [← h]; exact implPieceOk_any m w
      have y4 : ¬ (4 < y) := by omega
      go_wp2_with fail
      refine wp_region_below_lit (W := U1) 39 (by kernel_rfl) (by kernel_rfl) (by decide) (Below.refl _ _) (by intro c d v a w h; cases d <;> exact h) ?_
      simp only [List.take_succ_cons, List.take_zero, List.drop_succ_cons, List.drop_zero]
      repeat (go_big_quiet_step (first | (go_at_call 31; refine quiet_below (PW _)) | (go_at_call 37; refine quiet_below_same (implBound_any _ _)) | (go_at_call 25; refine quiet_below (MW _))))
      cases hr : okP r with
      | false =>
        repeat (go_big_quiet_step (first | (go_at_call_of 27 (r.id); refine quiet_below (OKR _ hr _))))
        refine wpQuiet_nil ?_
        rintro _ ⟨x2, rfl⟩
        clear c_r_0 c_r_1 c_r_2 c_r_3 c_r_4 c_r_5 c_r_6 c_r_7 c_r_8 c_r_9 c_r_10 c_r_11 c_r_12 c_m_0 c_m_1 c_m_2 c_m_3 c_m_4 c_m_5 c_m_6 c_m_7 c_m_8 c_m_9 c_m_10 c_m_11 c_m_12 hne heq1
        go_wp2
        go_ret
        exact ⟨rfl, below_app hB x2.h hB.size⟩
      | true =>
        by_cases hy : y < 1
        · have hdm := trivial
          repeat (go_big_quiet_step (first | (go_at_call_of 27 (r.id); refine quiet_below (OKR _ hr _))))
          refine wpQuiet_nil ?_
          rintro _ ⟨x2, rfl⟩
          clear c_r_0 c_r_1 c_r_2 c_r_3 c_r_4 c_r_5 c_r_6 c_r_7 c_r_8 c_r_9 c_r_10 c_r_11 c_r_12 c_m_0 c_m_1 c_m_2 c_m_3 c_m_4 c_m_5 c_m_6 c_m_7 c_m_8 c_m_9 c_m_10 c_m_11 c_m_12 hne heq1
          go_wp2
          go_ret
          exact ⟨rfl, below_app hB x2.h hB.size⟩
        · have hom := HM4.out hr (by omega)
          have hyf : decide (y < 1) = false := by simp; omega
          have hyg : decide (4 < y) = false := by simp; omega
          have hom' : Hid (okP m = true) := hom
          clear hom
          repeat (go_big_quiet_step (first | (go_at_call_of 27 (r.id); refine quiet_below (OKR _ hr _)) | (go_at_call_of 27 (m.id); refine quiet_below (OKM _ hom'.out _))))
          refine wpQuiet_nil ?_
          rintro _ ⟨x2, rfl⟩
          clear c_r_0 c_r_1 c_r_2 c_r_3 c_r_4 c_r_5 c_r_6 c_r_7 c_r_8 c_r_9 c_r_10 c_r_11 c_r_12 c_m_0 c_m_1 c_m_2 c_m_3 c_m_4 c_m_5 c_m_6 c_m_7 c_m_8 c_m_9 c_m_10 c_m_11 c_m_12 hne heq1
          go_wp2
          go_ret
          exact ⟨rfl, below_app hB x2.h hB.size⟩

set_option maxRecDepth 100000 in
theorem lifted (os : Os) (started : os.Started) (H : Type) (enc : TypeId × Value → H) :
    ReturnsInHanded {} Try.checked os 4 .any (Rows.fnPiecesSpec.pre6 enc Try.prog Try.f4 Rows.fnPiecesRow.domain false) (Rows.fnPiecesSpec.post enc Try.prog Try.f4 false true false false) := by
  refine returnsInHanded_of_change (C := Try.checked) own started (by kernel_rfl) Try.func4
    (ChangeSpec.witness6 (enc := enc) (C := Try.checked) false ⟨#[], #[.slice none 0 0], []⟩ 8 (by kernel_rfl) (by kernel_rfl) (by kernel_rfl) (by kernel_rfl)) ?_
  intro W base args ds gs before hval0 hW hcnd _
  have hval : ∀ (j : Nat) t v, Try.f4.params[j]? = some t → args[j]? = some v → Value.okWide Try.prog W .any base t v := hval0
  have hW' := hW
  obtain ⟨p, q, hA0, hV, rfl, hfz, hnd⟩ := hW
  have hA : DataW.TrodAll enc Try.prog W 0 (fun _ => true) true Try.f4.params.toList args.toList ds p := hA0
  rw [Try.params4] at hA hval
  obtain ⟨v0, vs0, d0, ds0, p0, q0, hargs, rfl, rfl, h0, r0⟩ := trodAll_cons hA
  obtain ⟨rfl, rfl, rfl⟩ := trodAll_nil r0
  obtain rfl : args = #[v0] := by cases args; simp_all
  obtain ⟨rfl, rfl⟩ := trodVars_none hV
  obtain ⟨a0, len0, cap0, rfl⟩ := okWide_slice Try.underlying22 (hval 0 22 v0 rfl rfl)
  have k0 := h0
  have lt0 : ∀ x ∈ p0, x.block < W.heap.size := by obtain ⟨m, hm⟩ := k0; exact DataW.trod_lt m _ _ _ hm
  obtain ⟨z0, w0⟩ : ∃ zs, IsRow .u8 W a0 len0 cap0 zs := by
    obtain ⟨fuel, hf⟩ := h0
    rcases open_ints Try.underlying22 Try.underlying5 (by kernel_rfl) hf with ⟨hcs, _⟩ | ⟨x, l, c, zs, hcs, _, hl, hm, hz, _, hcell, hwz⟩
    · simp [Value.cells] at hcs
      obtain ⟨rfl, rfl, rfl⟩ := hcs
      exact ⟨[], .inl ⟨rfl, rfl, rfl, rfl⟩⟩
    · simp [Value.cells] at hcs
      obtain ⟨rfl, rfl, rfl⟩ := hcs
      exact ⟨zs, .inr ⟨_, rfl, hl, hm, by simpa using hz, hcell, hwz⟩⟩
  clear hA0 hval0
  refine (walk a0 len0 cap0 z0 W w0).mono fun e W' ⟨he, bel⟩ => ?_
  subst he
  exact ⟨_, rfl, _, _, _, [], _, [], hW', trodAll_mk1 (shut_bool Try.underlying4 _), (trodAll_cons_mk (Below.trod laidOut (by kernel_rfl) (of_decide_eq_true (by kernel_rfl)) k0 bel lt0) trodAll_mk0), rfl, bel.frame _, fun h => by cases h⟩

theorem over : Rows.fnPiecesRow.holds Try.pinned (OpenSpec.ofChange Rows.fnPiecesSpec) :=
  OpenClaim.holds_of_wide 4 Try.f4 rfl rfl rfl rfl rfl rfl rfl ⟨rfl, rfl, rfl, rfl, rfl⟩ rfl rfl rfl rfl rfl (by kernel_rfl) Try.func4 (by kernel_rfl)
    (of_decide_eq_true (by kernel_rfl)) (by unfold Func.isWrapper; first | (rw [if_pos (by decide +kernel)]; kernel_rfl) | (rw [if_neg (by decide +kernel)]; exact ⟨rfl, rfl⟩))
    (fun os started H enc _ => lifted os started H enc)

theorem proved : Rows.FnPiecesSaid := over
#print axioms proved
end Go.Proofs.Ytjpimkolkhbflab.fnPieces
