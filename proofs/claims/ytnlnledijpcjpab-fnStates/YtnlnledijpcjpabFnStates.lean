/-
  What is proved: at every code (every slice of bytes, of whatever length), the law FnStates answers true: a new state is right; of drawn states the program says which are right, which are the same, and who is on the field as the specification does; a drawn state is right; no condition.
-/
import Derived.Test.YtnlnledijpcjpabRows
import Derived.Test.YtnlnledijpcjpabCur
import Derived.Test.YtnlnledijpcjpabPiece
import Derived.Test.YtnlnledijpcjpabRow
import Derived.Test.YtnlnledijpcjpabPiece2
import Derived.Test.YtnlnledijpcjpabRowLaw
import Derived.Test.YtnlnledijpcjpabStaA
import Derived.Test.YtnlnledijpcjpabRegs
import Derived.Test.YtnlnledijpcjpabNum
import Derived.Test.YtnlnledijpcjpabPiece3
import Derived.Test.YtnlnledijpcjpabState4
import Derived.Test.YtnlnledijpcjpabState5
import Derived.Test.YtnlnledijpcjpabStMark
import Derived.Test.YtnlnledijpcjpabPieceOk
import Derived.Test.YtnlnledijpcjpabState6
import Derived.Test.YtnlnledijpcjpabStHeld
import Derived.Test.YtnlnledijpcjpabStEq
import Derived.Test.YtnlnledijpcjpabStSame
import Derived.Test.YtnlnledijpcjpabStLaw
import Derived.Test.YtnlnledijpcjpabState7
import Derived.Test.YtnlnledijpcjpabBytesA
import Derived.Test.YtnlnledijpcjpabState8
import Derived.Test.YtnlnledijpcjpabStAt
import Derived.Test.YtnlnledijpcjpabPcI
import Derived.Test.YtnlnledijpcjpabPieceOkI
import Derived.Test.YtnlnledijpcjpabStOk
import Derived.Test.YtnlnledijpcjpabStSameS
import Derived.Test.YtnlnledijpcjpabStSameI
import Derived.Test.YtnlnledijpcjpabStNew
import Derived.Test.YtnlnledijpcjpabStField
import Derived.Test.YtnlnledijpcjpabStLawI
import Derived.Test.YtnlnledijpcjpabPiece4
import Derived.Test.YtnlnledijpcjpabPiece5
import Derived.Test.YtnlnledijpcjpabStRow
import Derived.Test.YtnlnledijpcjpabCurs
import Derived.Test.YtnlnledijpcjpabDrawB
import Derived.Test.YtnlnledijpcjpabDrawP
import Derived.Test.YtnlnledijpcjpabDrawT1
import Derived.Test.YtnlnledijpcjpabDrawT2
import Derived.Test.YtnlnledijpcjpabDrawT3
import Derived.Test.YtnlnledijpcjpabDrawL
import Derived.Test.YtnlnledijpcjpabDrawBend
import Derived.Test.YtnlnledijpcjpabStPut
import Derived.Test.YtnlnledijpcjpabDrawTD
import Derived.Test.YtnlnledijpcjpabDrawT6
import Derived.Test.YtnlnledijpcjpabStCopy
import Derived.Test.YtnlnledijpcjpabDrawT7
import Derived.Test.YtnlnledijpcjpabSetsA
import Derived.Test.YtnlnledijpcjpabSetsB
import Derived.Test.YtnlnledijpcjpabStLawU
import Derived.Test.YtnlnledijpcjpabSetsC
import Derived.Test.YtnlnledijpcjpabSetLib
import Derived.Test.YtnlnledijpcjpabSetFrom
import Derived.Test.YtnlnledijpcjpabSetImpl
import Derived.Test.YtnlnledijpcjpabSetSift
import Derived.WalkKit
import Derived.BigGuardPart
import Derived.Deep.RegionHeldLaw
import Derived.ProofKit
import Derived.OpenShut
import Derived.ShutString
import Derived.ChangeOld
import Derived.Below
namespace Go.Proofs.Ytnlnledijpcjpab.fnStates
open Go.ChangeShapes Go.WideShapes Go.ChangeAt Go.RowKit
open Go.ChangeMaps (open_string shut_string)
set_option linter.unusedVariables false

theorem own : ownKnob Try.prog.godebug = none := by kernel_rfl
theorem laidOut : laidOutB Try.prog = true := by kernel_rfl

/-- WHAT THE WALK IS TOLD OF A SLICE OF INTEGERS THAT CAME IN: it is nil; or it leads to a row of 'cap' cells, the numbers 'zs' (the first 'len' are its elements, the rest its spare room), each fitting its kind. -/
def IsRow (k : IntKind) (w : World) (a : Option Addr) (len cap : Nat) (zs : List Int) : Prop :=
  (a = none ∧ len = 0 ∧ cap = 0 ∧ zs = []) ∨
  ∃ x, a = some x ∧ len ≤ cap ∧ cap ≤ maxLen ∧ zs.length = cap ∧ (∀ i, i < zs.length → w.cell? (x.add i) = some (.int k (zs.getD i 0))) ∧ ∀ n ∈ zs, (Lit.int k n).wf = true

theorem implStateOk_dr {s : Stt} {w : World} {b : Bool} (hb : okS s = b) (hok : s.ok w) (hn : s.pn ≤ 1048577) (hn2 : s.sn ≤ 1048577) : Calls Try.prog 50 #[(.agg #[.slice s.pa s.pn s.pcap, .slice s.sa s.sn s.scap, .int .i64 s.ac, .int .i64 s.cl])] w fun e w' => e = .returned (.bool b) ∧ Below w.heap.size w w' := by
  rw [← hb]; exact implStateOk_any s w hok hn hn2
theorem implStateOk_nw {t : Stt} {n : Int} {w : World} (a : Alike t (nwS n)) (hok : t.ok w) : Calls Try.prog 50 #[(.agg #[.slice t.pa t.pn t.pcap, .slice t.sa t.sn t.scap, .int .i64 t.ac, .int .i64 t.cl])] w fun e w' => e = .returned (.bool true) ∧ Below w.heap.size w w' := by
  have h1 := nwN_le n
  refine implStateOk_dr (nw_ok a) hok (by rw [a.pn]; exact Nat.zero_le _) (by rw [a.sn]; show nwN n ≤ 1048577; omega)
theorem implWithin_as {ad bd : Addr} {b b' n c m c' : Nat} {f g : Nat → Int} {w : World} (hn : n ≤ 3000000) (hm : m ≤ 3000000) (h : Rd .i64 w b (some ad) n f) (h' : Rd .i64 w b' (some bd) m g) (hw : wn n f m g = true) :
    Calls Try.prog 19 #[.slice (some ad) n c, .slice (some bd) m c'] w fun e w' => e = .returned (.bool true) ∧ Below w.heap.size w w' := by
  rw [← hw]; exact implWithin_b ad bd b b' n c m c' f g w hn hm h h'
set_option maxRecDepth 100000 in
set_option maxHeartbeats 2000000 in
theorem walk (a0 : Option Addr) (len0 cap0 : Nat) (z0 : List Int) (w : World) (w0 : IsRow .u8 w a0 len0 cap0 z0) :
    Calls Try.prog 6 #[.slice a0 len0 cap0] w fun e w' => e = .returned (.bool true) ∧ Below w.heap.size w w' := by
  have hc : Code w a0 len0 w.heap.size := code_of_row w0
  clear w0
  by_cases hbig : (1048576 : Int) < (len0 : Int)
  · go_enter Try.func6, Try.ntmps6
    go_wp2_with (go_at_call 9; refine (big_any _ _ _ _).mono ?_; rintro e w' ⟨rfl, rfl⟩)
    go_ret
    exact ⟨rfl, Below.refl _ _⟩
  · go_enter Try.func6, Try.ntmps6
    try simp only [List.append_eq, List.cons_append, List.nil_append]
    go_wp2_with fail
    refine (big_any _ _ _ _).mono ?_
    rintro e w' ⟨rfl, rfl⟩
    have hB := Below.refl w'.heap.size w'
    go_wp2_with fail
    refine (drawStateOk_any _ _ _ _ ((hc.below hB).mono hB.size (Nat.le_refl _))).mono ?_
    rintro e u1 ⟨t_s, h_s, rfl, hb, o_s, _⟩
    replace hB := below_app hB hb hB.size
    clear hb
    have n_s := h_s.pn
    have m_s := h_s.sn
    have hb := below_new2'' u1 (.cells #[.slice t_s.pa t_s.pn t_s.pcap, .slice t_s.sa t_s.sn t_s.scap, .int .i64 t_s.ac, .int .i64 t_s.cl] 56)
    have b_s := boxR_new u1 56 #[.slice t_s.pa t_s.pn t_s.pcap, .slice t_s.sa t_s.sn t_s.scap, .int .i64 t_s.ac, .int .i64 t_s.cl]
    generalize hVs : u1.alloc (.cells #[.slice t_s.pa t_s.pn t_s.pcap, .slice t_s.sa t_s.sn t_s.scap, .int .i64 t_s.ac, .int .i64 t_s.cl] 56) = u2 at hb b_s
    replace o_s := o_s.grew hb
    replace hB := below_app hB hb hB.size
    clear hb
    go_wp2_with fail
    refine (drawSameState_any _ _ _ _ ((hc.below hB).mono hB.size (Nat.le_refl _))).mono ?_
    rintro e u3 ⟨t_a, t_b, h_a, h_b, rfl, hb, o_a, o_b⟩
    replace o_s := o_s.grew hb
    replace b_s := b_s.grew hb
    replace hB := below_app hB hb hB.size
    clear hb
    have n_a := h_a.pn
    have m_a := h_a.sn
    have n_b := h_b.pn
    have m_b := h_b.sn
    clear hVs
    have x4 := (boxR_new u3 56 #[.slice none 0 0, .slice none 0 0, .int .i64 0, .int .i64 0]).alloc (.cells #[.slice none 0 0, .slice none 0 0, .int .i64 0, .int .i64 0] 56)
    have x5 : BoxR ((u3.alloc (.cells #[.slice none 0 0, .slice none 0 0, .int .i64 0, .int .i64 0] 56)).alloc (.cells #[.slice none 0 0, .slice none 0 0, .int .i64 0, .int .i64 0] 56)) (u3.heap.size + 1) 56 #[.slice none 0 0, .slice none 0 0, .int .i64 0, .int .i64 0] := heap_alloc2_new _ _ _
    have hbA := ((Below.refl _ u3).alloc (Nat.le_refl _) (.cells #[.slice none 0 0, .slice none 0 0, .int .i64 0, .int .i64 0] 56)).alloc (by simp) (.cells #[.slice none 0 0, .slice none 0 0, .int .i64 0, .int .i64 0] 56)
    generalize hWA : (u3.alloc (.cells #[.slice none 0 0, .slice none 0 0, .int .i64 0, .int .i64 0] 56)).alloc (.cells #[.slice none 0 0, .slice none 0 0, .int .i64 0, .int .i64 0] 56) = WA at x4 x5 hbA
    have y4 : BoxR (WA.setRow u3.heap.size #[.slice t_a.pa t_a.pn t_a.pcap, .slice t_a.sa t_a.sn t_a.scap, .int .i64 t_a.ac, .int .i64 t_a.cl]) u3.heap.size 56 #[.slice t_a.pa t_a.pn t_a.pcap, .slice t_a.sa t_a.sn t_a.scap, .int .i64 t_a.ac, .int .i64 t_a.cl] := setRow_heap _ _ _ _ _ _ x4
    have y5 : BoxR (WA.setRow u3.heap.size #[.slice t_a.pa t_a.pn t_a.pcap, .slice t_a.sa t_a.sn t_a.scap, .int .i64 t_a.ac, .int .i64 t_a.cl]) (u3.heap.size + 1) 56 #[.slice none 0 0, .slice none 0 0, .int .i64 0, .int .i64 0] := (heap_setRow_ne' WA _ _ _ (by omega)).trans x5
    have b_a : BoxR ((WA.setRow u3.heap.size #[.slice t_a.pa t_a.pn t_a.pcap, .slice t_a.sa t_a.sn t_a.scap, .int .i64 t_a.ac, .int .i64 t_a.cl]).setRow (u3.heap.size + 1) #[.slice t_b.pa t_b.pn t_b.pcap, .slice t_b.sa t_b.sn t_b.scap, .int .i64 t_b.ac, .int .i64 t_b.cl]) u3.heap.size 56 #[.slice t_a.pa t_a.pn t_a.pcap, .slice t_a.sa t_a.sn t_a.scap, .int .i64 t_a.ac, .int .i64 t_a.cl] := (heap_setRow_ne' _ _ _ _ (by omega)).trans y4
    have b_b : BoxR ((WA.setRow u3.heap.size #[.slice t_a.pa t_a.pn t_a.pcap, .slice t_a.sa t_a.sn t_a.scap, .int .i64 t_a.ac, .int .i64 t_a.cl]).setRow (u3.heap.size + 1) #[.slice t_b.pa t_b.pn t_b.pcap, .slice t_b.sa t_b.sn t_b.scap, .int .i64 t_b.ac, .int .i64 t_b.cl]) (u3.heap.size + 1) 56 #[.slice t_b.pa t_b.pn t_b.pcap, .slice t_b.sa t_b.sn t_b.scap, .int .i64 t_b.ac, .int .i64 t_b.cl] := setRow_heap _ _ _ _ _ _ y5
    have hb := below_setRow (below_setRow hbA (Nat.le_refl u3.heap.size) #[.slice t_a.pa t_a.pn t_a.pcap, .slice t_a.sa t_a.sn t_a.scap, .int .i64 t_a.ac, .int .i64 t_a.cl]) (by omega : u3.heap.size ≤ u3.heap.size + 1) #[.slice t_b.pa t_b.pn t_b.pcap, .slice t_b.sa t_b.sn t_b.scap, .int .i64 t_b.ac, .int .i64 t_b.cl]
    generalize hU0 : (WA.setRow u3.heap.size #[.slice t_a.pa t_a.pn t_a.pcap, .slice t_a.sa t_a.sn t_a.scap, .int .i64 t_a.ac, .int .i64 t_a.cl]).setRow (u3.heap.size + 1) #[.slice t_b.pa t_b.pn t_b.pcap, .slice t_b.sa t_b.sn t_b.scap, .int .i64 t_b.ac, .int .i64 t_b.cl] = U0 at b_a b_b hb
    replace o_s := o_s.grew hb
    replace o_a := o_a.grew hb
    replace o_b := o_b.grew hb
    replace b_s := b_s.grew hb
    replace hB := below_app hB hb hB.size
    clear hb
    go_wp2_with first | (refine wpList_store_row rfl 56 (.tmp 4) _ rfl u3.heap.size #[.slice t_a.pa t_a.pn t_a.pcap, .slice t_a.sa t_a.sn t_a.scap, .int .i64 t_a.ac, .int .i64 t_a.cl] (by rfl) (by rfl) _ _ x4 (by kernel_rfl) (by rfl) (by simp [Value.oneCell']) ?_) | (refine wpList_store_row rfl 56 (.tmp 5) _ rfl (u3.heap.size + 1) #[.slice t_b.pa t_b.pn t_b.pcap, .slice t_b.sa t_b.sn t_b.scap, .int .i64 t_b.ac, .int .i64 t_b.cl] (by rfl) (by rfl) _ _ y5 (by kernel_rfl) (by rfl) (by simp [Value.oneCell']) ?_; rw [hU0])
    refine (drawStateNew_any _ _ _ _ ((hc.below hB).mono hB.size (Nat.le_refl _))).mono ?_
    rintro e u4 ⟨n, hn, rfl, hb⟩
    clear x4 x5 y4 y5 hU0 hWA hbA
    replace o_s := o_s.grew hb
    replace o_a := o_a.grew hb
    replace o_b := o_b.grew hb
    replace b_s := b_s.grew hb
    replace b_a := b_a.grew hb
    replace b_b := b_b.grew hb
    replace hB := below_app hB hb hB.size
    clear hb
    go_wp2_with fail
    refine (implStateNew_al n _).mono ?_
    rintro e u5 ⟨t_x, rfl, hb, o_x, e_x⟩
    replace o_s := o_s.grew hb
    replace o_a := o_a.grew hb
    replace o_b := o_b.grew hb
    replace b_s := b_s.grew hb
    replace b_a := b_a.grew hb
    replace b_b := b_b.grew hb
    replace hB := below_app hB hb hB.size
    clear hb
    have p_x : t_x.pn ≤ 0 := by rw [e_x.pn]; exact Nat.le_refl 0
    have q_x : t_x.sn ≤ 3 := by rw [e_x.sn]; exact nwN_le n
    have hb := below_new2'' u5 (.cells #[.slice t_x.pa t_x.pn t_x.pcap, .slice t_x.sa t_x.sn t_x.scap, .int .i64 t_x.ac, .int .i64 t_x.cl] 56)
    have b_x := boxR_new u5 56 #[.slice t_x.pa t_x.pn t_x.pcap, .slice t_x.sa t_x.sn t_x.scap, .int .i64 t_x.ac, .int .i64 t_x.cl]
    generalize hVx : u5.alloc (.cells #[.slice t_x.pa t_x.pn t_x.pcap, .slice t_x.sa t_x.sn t_x.scap, .int .i64 t_x.ac, .int .i64 t_x.cl] 56) = u6 at hb b_x
    replace o_s := o_s.grew hb
    replace o_a := o_a.grew hb
    replace o_b := o_b.grew hb
    replace o_x := o_x.grew hb
    replace b_s := b_s.grew hb
    replace b_a := b_a.grew hb
    replace b_b := b_b.grew hb
    replace hB := below_app hB hb hB.size
    clear hb
    go_wp2_with fail
    refine (drawOnField_any _ _ _ _ ((hc.below hB).mono hB.size (Nat.le_refl _))).mono ?_
    rintro e u7 ⟨t_o, side, h_o, hsd, rfl, hb, o_o, _⟩
    replace o_s := o_s.grew hb
    replace o_a := o_a.grew hb
    replace o_b := o_b.grew hb
    replace o_x := o_x.grew hb
    replace b_s := b_s.grew hb
    replace b_a := b_a.grew hb
    replace b_b := b_b.grew hb
    replace b_x := b_x.grew hb
    replace hB := below_app hB hb hB.size
    clear hb
    have n_o := h_o.pn
    have m_o := h_o.sn
    clear hVx
    have hb := below_new2'' u7 (.cells #[.slice t_o.pa t_o.pn t_o.pcap, .slice t_o.sa t_o.sn t_o.scap, .int .i64 t_o.ac, .int .i64 t_o.cl] 56)
    have b_o := boxR_new u7 56 #[.slice t_o.pa t_o.pn t_o.pcap, .slice t_o.sa t_o.sn t_o.scap, .int .i64 t_o.ac, .int .i64 t_o.cl]
    generalize hVo : u7.alloc (.cells #[.slice t_o.pa t_o.pn t_o.pcap, .slice t_o.sa t_o.sn t_o.scap, .int .i64 t_o.ac, .int .i64 t_o.cl] 56) = u8 at hb b_o
    replace o_s := o_s.grew hb
    replace o_a := o_a.grew hb
    replace o_b := o_b.grew hb
    replace o_x := o_x.grew hb
    replace o_o := o_o.grew hb
    replace b_s := b_s.grew hb
    replace b_a := b_a.grew hb
    replace b_b := b_b.grew hb
    replace b_x := b_x.grew hb
    replace hB := below_app hB hb hB.size
    clear hb
    have c_o_0 : u8.cell? ⟨u7.heap.size, 0, none⟩ = some (.slice t_o.pa t_o.pn t_o.pcap) := b_o.cell 0
    have c_o_1 : u8.cell? ⟨u7.heap.size, 1, none⟩ = some (.slice t_o.sa t_o.sn t_o.scap) := b_o.cell 1
    have c_o_2 : u8.cell? ⟨u7.heap.size, 2, none⟩ = some (.int .i64 t_o.ac) := b_o.cell 2
    have c_o_3 : u8.cell? ⟨u7.heap.size, 3, none⟩ = some (.int .i64 t_o.cl) := b_o.cell 3
    go_wp2_with fail
    refine (implOnField_any t_o side _ (h_o.ok o_o) (by omega)).mono ?_
    rintro e u9 ⟨q_l, c_l, rfl, hb, o_l⟩
    clear c_o_0 c_o_1 c_o_2 c_o_3
    replace o_s := o_s.grew hb
    replace o_a := o_a.grew hb
    replace o_b := o_b.grew hb
    replace o_x := o_x.grew hb
    replace o_o := o_o.grew hb
    replace b_s := b_s.grew hb
    replace b_a := b_a.grew hb
    replace b_b := b_b.grew hb
    replace b_x := b_x.grew hb
    replace b_o := b_o.grew hb
    replace hB := below_app hB hb hB.size
    clear hb
    clear hVo
    have hlo := of_len t_o.pn t_o.ps side
    have hlo1 := of_len t_o.pn t_o.ps (-1)
    have HWN : Hid (wn _ _ _ _ = true) := of_in t_o.pn t_o.ps side
    have SU : u9.cell? ⟨u1.heap.size, 0, none⟩ = some (.slice t_s.pa t_s.pn t_s.pcap) ∧ u9.cell? ⟨u1.heap.size, 1, none⟩ = some (.slice t_s.sa t_s.sn t_s.scap) ∧ u9.cell? ⟨u1.heap.size, 2, none⟩ = some (.int .i64 t_s.ac) ∧ u9.cell? ⟨u1.heap.size, 3, none⟩ = some (.int .i64 t_s.cl) ∧ u9.cell? ⟨u3.heap.size, 0, none⟩ = some (.slice t_a.pa t_a.pn t_a.pcap) ∧ u9.cell? ⟨u3.heap.size, 1, none⟩ = some (.slice t_a.sa t_a.sn t_a.scap) ∧ u9.cell? ⟨u3.heap.size, 2, none⟩ = some (.int .i64 t_a.ac) ∧ u9.cell? ⟨u3.heap.size, 3, none⟩ = some (.int .i64 t_a.cl) ∧ u9.cell? ⟨u3.heap.size + 1, 0, none⟩ = some (.slice t_b.pa t_b.pn t_b.pcap) ∧ u9.cell? ⟨u3.heap.size + 1, 1, none⟩ = some (.slice t_b.sa t_b.sn t_b.scap) ∧ u9.cell? ⟨u3.heap.size + 1, 2, none⟩ = some (.int .i64 t_b.ac) ∧ u9.cell? ⟨u3.heap.size + 1, 3, none⟩ = some (.int .i64 t_b.cl) ∧ u9.cell? ⟨u7.heap.size, 0, none⟩ = some (.slice t_o.pa t_o.pn t_o.pcap) ∧ u9.cell? ⟨u7.heap.size, 1, none⟩ = some (.slice t_o.sa t_o.sn t_o.scap) ∧ u9.cell? ⟨u7.heap.size, 2, none⟩ = some (.int .i64 t_o.ac) ∧ u9.cell? ⟨u7.heap.size, 3, none⟩ = some (.int .i64 t_o.cl) := ⟨b_s.cell 0, b_s.cell 1, b_s.cell 2, b_s.cell 3, b_a.cell 0, b_a.cell 1, b_a.cell 2, b_a.cell 3, b_b.cell 0, b_b.cell 1, b_b.cell 2, b_b.cell 3, b_o.cell 0, b_o.cell 1, b_o.cell 2, b_o.cell 3⟩
    have SK : Hid (∀ u : World, Below u9.heap.size u9 u → u.cell? ⟨u1.heap.size, 0, none⟩ = some (.slice t_s.pa t_s.pn t_s.pcap) ∧ u.cell? ⟨u1.heap.size, 1, none⟩ = some (.slice t_s.sa t_s.sn t_s.scap) ∧ u.cell? ⟨u1.heap.size, 2, none⟩ = some (.int .i64 t_s.ac) ∧ u.cell? ⟨u1.heap.size, 3, none⟩ = some (.int .i64 t_s.cl) ∧ u.cell? ⟨u3.heap.size, 0, none⟩ = some (.slice t_a.pa t_a.pn t_a.pcap) ∧ u.cell? ⟨u3.heap.size, 1, none⟩ = some (.slice t_a.sa t_a.sn t_a.scap) ∧ u.cell? ⟨u3.heap.size, 2, none⟩ = some (.int .i64 t_a.ac) ∧ u.cell? ⟨u3.heap.size, 3, none⟩ = some (.int .i64 t_a.cl) ∧ u.cell? ⟨u3.heap.size + 1, 0, none⟩ = some (.slice t_b.pa t_b.pn t_b.pcap) ∧ u.cell? ⟨u3.heap.size + 1, 1, none⟩ = some (.slice t_b.sa t_b.sn t_b.scap) ∧ u.cell? ⟨u3.heap.size + 1, 2, none⟩ = some (.int .i64 t_b.ac) ∧ u.cell? ⟨u3.heap.size + 1, 3, none⟩ = some (.int .i64 t_b.cl) ∧ u.cell? ⟨u7.heap.size, 0, none⟩ = some (.slice t_o.pa t_o.pn t_o.pcap) ∧ u.cell? ⟨u7.heap.size, 1, none⟩ = some (.slice t_o.sa t_o.sn t_o.scap) ∧ u.cell? ⟨u7.heap.size, 2, none⟩ = some (.int .i64 t_o.ac) ∧ u.cell? ⟨u7.heap.size, 3, none⟩ = some (.int .i64 t_o.cl)) := fun u hu => by
      obtain ⟨f0, f1, f2, f3, f4, f5, f6, f7, f8, f9, f10, f11, f12, f13, f14, f15⟩ := SU
      exact ⟨(hu.cell (World.block_lt_of_cell? _ _ f0)).trans f0, (hu.cell (World.block_lt_of_cell? _ _ f1)).trans f1, (hu.cell (World.block_lt_of_cell? _ _ f2)).trans f2, (hu.cell (World.block_lt_of_cell? _ _ f3)).trans f3, (hu.cell (World.block_lt_of_cell? _ _ f4)).trans f4, (hu.cell (World.block_lt_of_cell? _ _ f5)).trans f5, (hu.cell (World.block_lt_of_cell? _ _ f6)).trans f6, (hu.cell (World.block_lt_of_cell? _ _ f7)).trans f7, (hu.cell (World.block_lt_of_cell? _ _ f8)).trans f8, (hu.cell (World.block_lt_of_cell? _ _ f9)).trans f9, (hu.cell (World.block_lt_of_cell? _ _ f10)).trans f10, (hu.cell (World.block_lt_of_cell? _ _ f11)).trans f11, (hu.cell (World.block_lt_of_cell? _ _ f12)).trans f12, (hu.cell (World.block_lt_of_cell? _ _ f13)).trans f13, (hu.cell (World.block_lt_of_cell? _ _ f14)).trans f14, (hu.cell (World.block_lt_of_cell? _ _ f15)).trans f15⟩
    clear SU
    have hq0 : Below u9.heap.size u9 u9.drew := (Below.refl _ u9).drew
    have oS : Hid (∀ u : World, Below u9.heap.size u9 u → t_s.ok u ∧ t_a.ok u ∧ t_b.ok u ∧ t_o.ok u ∧ Own .i64 u _ q_l _ _ _) := fun u hu => ⟨h_s.ok (o_s.grew hu), h_a.ok (o_a.grew hu), h_b.ok (o_b.grew hu), h_o.ok (o_o.grew hu), o_l.grew hu⟩
    have hss := smS_self t_s
    generalize hk1 : okS t_s = kS
    generalize hk2 : smS t_a t_b = kB
    have okI : ∀ u : World, t_s.ok u → Calls Try.prog 50 #[(.agg #[.slice t_s.pa t_s.pn t_s.pcap, .slice t_s.sa t_s.sn t_s.scap, .int .i64 t_s.ac, .int .i64 t_s.cl])] u fun e w' => e = .returned (.bool kS) ∧ Below u.heap.size u w' := fun u h => by rw [← hk1]; exact implStateOk_any t_s u h (by omega) (by omega)
    have okT' : ∀ u : World, t_s.ok u → Calls Try.prog 51 #[(.agg #[.slice t_s.pa t_s.pn t_s.pcap, .slice t_s.sa t_s.sn t_s.scap, .int .i64 t_s.ac, .int .i64 t_s.cl])] u fun e w' => e = .returned (.bool kS) ∧ Below u.heap.size u w' := fun u h => by rw [← hk1]; exact specStateOk_any t_s u h (by omega) (by omega)
    have smJ : ∀ u : World, t_s.ok u → Calls Try.prog 52 #[(.agg #[.slice t_s.pa t_s.pn t_s.pcap, .slice t_s.sa t_s.sn t_s.scap, .int .i64 t_s.ac, .int .i64 t_s.cl]), (.agg #[.slice t_s.pa t_s.pn t_s.pcap, .slice t_s.sa t_s.sn t_s.scap, .int .i64 t_s.ac, .int .i64 t_s.cl])] u fun e w' => e = .returned (.bool true) ∧ Below u.heap.size u w' := fun u h => by rw [← hss]; exact implSameState_any t_s t_s u h h (by omega) (by omega) (by omega) (by omega)
    have smI : ∀ u : World, t_a.ok u → t_b.ok u → Calls Try.prog 52 #[(.agg #[.slice t_a.pa t_a.pn t_a.pcap, .slice t_a.sa t_a.sn t_a.scap, .int .i64 t_a.ac, .int .i64 t_a.cl]), (.agg #[.slice t_b.pa t_b.pn t_b.pcap, .slice t_b.sa t_b.sn t_b.scap, .int .i64 t_b.ac, .int .i64 t_b.cl])] u fun e w' => e = .returned (.bool kB) ∧ Below u.heap.size u w' := fun u h h' => by rw [← hk2]; exact implSameState_any t_a t_b u h h' (by omega) (by omega) (by omega) (by omega)
    have smT : ∀ u : World, t_a.ok u → t_b.ok u → Calls Try.prog 53 #[(.agg #[.slice t_a.pa t_a.pn t_a.pcap, .slice t_a.sa t_a.sn t_a.scap, .int .i64 t_a.ac, .int .i64 t_a.cl]), (.agg #[.slice t_b.pa t_b.pn t_b.pcap, .slice t_b.sa t_b.sn t_b.scap, .int .i64 t_b.ac, .int .i64 t_b.cl])] u fun e w' => e = .returned (.bool kB) ∧ Below u.heap.size u w' := fun u h h' => by rw [← hk2]; exact specSameState_any t_a t_b u h h' (by omega) (by omega) (by omega) (by omega)
    have HA : Hid (∀ u : World, t_s.ok u → True) := fun _ _ => trivial
    clear HA hk1 hk2 hss
    go_wp2_with fail
    go_region_held_law (fun u : World => u.cell? ⟨u1.heap.size, 0, none⟩ = some (.slice t_s.pa t_s.pn t_s.pcap) ∧ u.cell? ⟨u1.heap.size, 1, none⟩ = some (.slice t_s.sa t_s.sn t_s.scap) ∧ u.cell? ⟨u1.heap.size, 2, none⟩ = some (.int .i64 t_s.ac) ∧ u.cell? ⟨u1.heap.size, 3, none⟩ = some (.int .i64 t_s.cl) ∧ u.cell? ⟨u3.heap.size, 0, none⟩ = some (.slice t_a.pa t_a.pn t_a.pcap) ∧ u.cell? ⟨u3.heap.size, 1, none⟩ = some (.slice t_a.sa t_a.sn t_a.scap) ∧ u.cell? ⟨u3.heap.size, 2, none⟩ = some (.int .i64 t_a.ac) ∧ u.cell? ⟨u3.heap.size, 3, none⟩ = some (.int .i64 t_a.cl) ∧ u.cell? ⟨u3.heap.size + 1, 0, none⟩ = some (.slice t_b.pa t_b.pn t_b.pcap) ∧ u.cell? ⟨u3.heap.size + 1, 1, none⟩ = some (.slice t_b.sa t_b.sn t_b.scap) ∧ u.cell? ⟨u3.heap.size + 1, 2, none⟩ = some (.int .i64 t_b.ac) ∧ u.cell? ⟨u3.heap.size + 1, 3, none⟩ = some (.int .i64 t_b.cl) ∧ u.cell? ⟨u7.heap.size, 0, none⟩ = some (.slice t_o.pa t_o.pn t_o.pcap) ∧ u.cell? ⟨u7.heap.size, 1, none⟩ = some (.slice t_o.sa t_o.sn t_o.scap) ∧ u.cell? ⟨u7.heap.size, 2, none⟩ = some (.int .i64 t_o.ac) ∧ u.cell? ⟨u7.heap.size, 3, none⟩ = some (.int .i64 t_o.cl)) (first | assumption | exact SK.out _ hq7 | exact SK.out _ hq6 | exact SK.out _ hq5 | exact SK.out _ hq4 | exact SK.out _ hq3 | exact SK.out _ hq2 | exact SK.out _ hq1 | exact SK.out _ hq0) (first | (go_at_call 50; refine (okI _ (oS.out _ hq0).1).mono ?_; rintro e v1 ⟨rfl, hb1⟩; have hq1 := below_app hq0 hb1 hq0.size) | (go_at_call 51; refine (okT' _ (oS.out _ hq1).1).mono ?_; rintro e v2 ⟨rfl, hb2⟩; have hq2 := below_app hq1 hb2 hq1.size) | (go_at_call 52; refine (smJ _ (oS.out _ hq4).1).mono ?_; rintro e v5 ⟨rfl, hb5⟩; have hq5 := below_app hq4 hb5 hq4.size) | (go_at_call 52; refine (smI _ (oS.out _ hq2).2.1 (oS.out _ hq2).2.2.1).mono ?_; rintro e v3 ⟨rfl, hb3⟩; have hq3 := below_app hq2 hb3 hq2.size) | (go_at_call 53; refine (smT _ (oS.out _ hq3).2.1 (oS.out _ hq3).2.2.1).mono ?_; rintro e v4 ⟨rfl, hb4⟩; have hq4 := below_app hq3 hb4 hq3.size) | (go_at_call 54; refine (specOnField_any t_o side _ (oS.out _ hq5).2.2.2.1 (by omega)).mono ?_; rintro e v6 ⟨q6, c6, rfl, hb6, o6⟩; have hq6 := below_app hq5 hb6 hq5.size) | (go_at_call 15; refine (sameInts_same _ _ q_l q6 _ _ _ _ _ (by omega) (oS.out _ hq6).2.2.2.2.rd o6.rd).mono ?_; rintro e v7 ⟨rfl, hb7⟩; have hq7 := below_app hq6 hb7 hq6.size))
    all_goals
      have hb := hq7
      replace o_s := o_s.grew hb
      replace o_a := o_a.grew hb
      replace o_b := o_b.grew hb
      replace o_x := o_x.grew hb
      replace o_o := o_o.grew hb
      replace o_l := o_l.grew hb
      replace b_s := b_s.grew hb
      replace b_a := b_a.grew hb
      replace b_b := b_b.grew hb
      replace b_x := b_x.grew hb
      replace b_o := b_o.grew hb
      replace hB := below_app hB hb hB.size
      clear hb
      clear SK oS hq0 hb1 hb2 hb3 hb4 hb5 hb6 hb7 hq1 hq2 hq3 hq4 hq5 hq6 o6 okI okT' smI smT smJ
      clear o_s
      clear o_a
      clear o_b
      clear b_s
      clear b_a
      clear b_b
      have c_x_0 : v7.cell? ⟨u5.heap.size, 0, none⟩ = some (.slice t_x.pa t_x.pn t_x.pcap) := b_x.cell 0
      have c_x_1 : v7.cell? ⟨u5.heap.size, 1, none⟩ = some (.slice t_x.sa t_x.sn t_x.scap) := b_x.cell 1
      have c_x_2 : v7.cell? ⟨u5.heap.size, 2, none⟩ = some (.int .i64 t_x.ac) := b_x.cell 2
      have c_x_3 : v7.cell? ⟨u5.heap.size, 3, none⟩ = some (.int .i64 t_x.cl) := b_x.cell 3
      go_wp2_with fail
      refine (implStateOk_nw e_x (nw_wf e_x o_x)).mono ?_
      rintro e u10 ⟨rfl, hb⟩
      clear c_x_0 c_x_1 c_x_2 c_x_3
      replace o_x := o_x.grew hb
      replace o_o := o_o.grew hb
      replace o_l := o_l.grew hb
      replace b_x := b_x.grew hb
      replace b_o := b_o.grew hb
      replace hB := below_app hB hb hB.size
      clear hb
      obtain ⟨off, hsa, hcell, hs2, hs3⟩ := nw_side e_x o_x
      have d_x : u10.cell? ⟨u5.heap.size, 1, none⟩ = some (.slice (some ⟨t_x.sb, off, none⟩) t_x.sn t_x.scap) := by have := b_x.cell 1; rw [hsa] at this; exact this
      have y1 : (2 : Int) ≤ (t_x.sn : Int) := by omega
      have y2 : (0 : Int) < (t_x.sn : Int) := by omega
      have y3 : ¬ ((t_x.sn : Int) ≤ 0) := by omega
      clear hsa hs2
      by_cases hn3 : n = 3
      · subst hn3
        have z3 : (t_x.sn : Int) = 3 := by have := hs3 rfl; omega
        clear hs3
        have c_o_0 : u10.cell? ⟨u7.heap.size, 0, none⟩ = some (.slice t_o.pa t_o.pn t_o.pcap) := b_o.cell 0
        have c_o_1 : u10.cell? ⟨u7.heap.size, 1, none⟩ = some (.slice t_o.sa t_o.sn t_o.scap) := b_o.cell 1
        have c_o_2 : u10.cell? ⟨u7.heap.size, 2, none⟩ = some (.int .i64 t_o.ac) := b_o.cell 2
        have c_o_3 : u10.cell? ⟨u7.heap.size, 3, none⟩ = some (.int .i64 t_o.cl) := b_o.cell 3
        go_wp2_with fail
        refine (implOnField_any t_o (-1) _ (h_o.ok o_o) (by omega)).mono ?_
        rintro e u11 ⟨q_m, c_m, rfl, hb, o_m⟩
        clear c_o_0 c_o_1 c_o_2 c_o_3
        clear d_x hcell
        replace o_x := o_x.grew hb
        replace o_o := o_o.grew hb
        replace o_l := o_l.grew hb
        replace b_x := b_x.grew hb
        replace b_o := b_o.grew hb
        replace hB := below_app hB hb hB.size
        clear hb
        go_wp2_with fail
        refine (implWithin_as (by omega) (by omega) o_l.rd o_m.rd HWN.out).mono ?_
        rintro e u12 ⟨rfl, hb⟩
        replace o_x := o_x.grew hb
        replace o_o := o_o.grew hb
        replace o_l := o_l.grew hb
        replace o_m := o_m.grew hb
        replace b_x := b_x.grew hb
        replace b_o := b_o.grew hb
        replace hB := below_app hB hb hB.size
        clear hb
        go_wp2_with fail
        refine (drawState_any _ _ _ _ ((hc.below hB).mono hB.size (Nat.le_refl _))).mono ?_
        rintro e u13 ⟨t_d, h_d, rfl, hb, o_d, _⟩
        replace o_x := o_x.grew hb
        replace o_o := o_o.grew hb
        replace o_l := o_l.grew hb
        replace o_m := o_m.grew hb
        replace b_x := b_x.grew hb
        replace b_o := b_o.grew hb
        replace hB := below_app hB hb hB.size
        clear hb
        have n_d := h_d.an.pn
        have m_d := h_d.an.sn
        go_wp2_with fail
        refine (implStateOk_dr h_d.ok (h_d.an.ok o_d) (by omega) (by omega)).mono ?_
        rintro e u14 ⟨rfl, hb⟩
        replace o_x := o_x.grew hb
        replace o_o := o_o.grew hb
        replace o_l := o_l.grew hb
        replace o_m := o_m.grew hb
        replace o_d := o_d.grew hb
        replace b_x := b_x.grew hb
        replace b_o := b_o.grew hb
        replace hB := below_app hB hb hB.size
        clear hb
        go_wp2
        go_ret
        exact ⟨rfl, hB⟩
      · have z3 : (n != 3) = true := by simpa using hn3
        have z4 : (n == 3) = false := by simpa using hn3
        clear hs3
        have c_o_0 : u10.cell? ⟨u7.heap.size, 0, none⟩ = some (.slice t_o.pa t_o.pn t_o.pcap) := b_o.cell 0
        have c_o_1 : u10.cell? ⟨u7.heap.size, 1, none⟩ = some (.slice t_o.sa t_o.sn t_o.scap) := b_o.cell 1
        have c_o_2 : u10.cell? ⟨u7.heap.size, 2, none⟩ = some (.int .i64 t_o.ac) := b_o.cell 2
        have c_o_3 : u10.cell? ⟨u7.heap.size, 3, none⟩ = some (.int .i64 t_o.cl) := b_o.cell 3
        go_wp2_with fail
        refine (implOnField_any t_o (-1) _ (h_o.ok o_o) (by omega)).mono ?_
        rintro e u11 ⟨q_m, c_m, rfl, hb, o_m⟩
        clear c_o_0 c_o_1 c_o_2 c_o_3
        clear d_x hcell
        replace o_x := o_x.grew hb
        replace o_o := o_o.grew hb
        replace o_l := o_l.grew hb
        replace b_x := b_x.grew hb
        replace b_o := b_o.grew hb
        replace hB := below_app hB hb hB.size
        clear hb
        go_wp2_with fail
        refine (implWithin_as (by omega) (by omega) o_l.rd o_m.rd HWN.out).mono ?_
        rintro e u12 ⟨rfl, hb⟩
        replace o_x := o_x.grew hb
        replace o_o := o_o.grew hb
        replace o_l := o_l.grew hb
        replace o_m := o_m.grew hb
        replace b_x := b_x.grew hb
        replace b_o := b_o.grew hb
        replace hB := below_app hB hb hB.size
        clear hb
        go_wp2_with fail
        refine (drawState_any _ _ _ _ ((hc.below hB).mono hB.size (Nat.le_refl _))).mono ?_
        rintro e u13 ⟨t_d, h_d, rfl, hb, o_d, _⟩
        replace o_x := o_x.grew hb
        replace o_o := o_o.grew hb
        replace o_l := o_l.grew hb
        replace o_m := o_m.grew hb
        replace b_x := b_x.grew hb
        replace b_o := b_o.grew hb
        replace hB := below_app hB hb hB.size
        clear hb
        have n_d := h_d.an.pn
        have m_d := h_d.an.sn
        go_wp2_with fail
        refine (implStateOk_dr h_d.ok (h_d.an.ok o_d) (by omega) (by omega)).mono ?_
        rintro e u14 ⟨rfl, hb⟩
        replace o_x := o_x.grew hb
        replace o_o := o_o.grew hb
        replace o_l := o_l.grew hb
        replace o_m := o_m.grew hb
        replace o_d := o_d.grew hb
        replace b_x := b_x.grew hb
        replace b_o := b_o.grew hb
        replace hB := below_app hB hb hB.size
        clear hb
        go_wp2
        go_ret
        exact ⟨rfl, hB⟩

set_option maxRecDepth 100000 in
theorem lifted (os : Os) (started : os.Started) (H : Type) (enc : TypeId × Value → H) :
    ReturnsInHanded {} Try.checked os 6 .any (Rows.fnStatesSpec.pre6 enc Try.prog Try.f6 Rows.fnStatesRow.domain false) (Rows.fnStatesSpec.post enc Try.prog Try.f6 false true false false) := by
  refine returnsInHanded_of_change (C := Try.checked) own started (by kernel_rfl) Try.func6
    (ChangeSpec.witness6 (enc := enc) (C := Try.checked) false ⟨#[], #[.slice none 0 0], []⟩ 8 (by kernel_rfl) (by kernel_rfl) (by kernel_rfl) (by kernel_rfl)) ?_
  intro W base args ds gs before hval0 hW hcnd _
  have hval : ∀ (j : Nat) t v, Try.f6.params[j]? = some t → args[j]? = some v → Value.okWide Try.prog W .any base t v := hval0
  have hW' := hW
  obtain ⟨p, q, hA0, hV, rfl, hfz, hnd⟩ := hW
  have hA : DataW.TrodAll enc Try.prog W 0 (fun _ => true) true Try.f6.params.toList args.toList ds p := hA0
  rw [Try.params6] at hA hval
  obtain ⟨v0, vs0, d0, ds0, p0, q0, hargs, rfl, rfl, h0, r0⟩ := trodAll_cons hA
  obtain ⟨rfl, rfl, rfl⟩ := trodAll_nil r0
  obtain rfl : args = #[v0] := by cases args; simp_all
  obtain ⟨rfl, rfl⟩ := trodVars_none hV
  obtain ⟨a0, len0, cap0, rfl⟩ := okWide_slice Try.underlying22 (hval 0 22 v0 rfl rfl)
  have k0 := h0
  have lt0 : ∀ x ∈ p0, x.block < W.heap.size := by obtain ⟨m, hm⟩ := k0; exact DataW.trod_lt m _ _ _ hm
  obtain ⟨z0, w0⟩ : ∃ zs, IsRow .u8 W a0 len0 cap0 zs := by
    obtain ⟨fuel, hf⟩ := h0
    rcases open_ints Try.underlying22 Try.underlying5 (by kernel_rfl) hf with ⟨hcs, _⟩ | ⟨x, l, c, zs, hcs, _, hl, hm, hz, _, hcell, hwz⟩
    · simp [Value.cells] at hcs
      obtain ⟨rfl, rfl, rfl⟩ := hcs
      exact ⟨[], .inl ⟨rfl, rfl, rfl, rfl⟩⟩
    · simp [Value.cells] at hcs
      obtain ⟨rfl, rfl, rfl⟩ := hcs
      exact ⟨zs, .inr ⟨_, rfl, hl, hm, by simpa using hz, hcell, hwz⟩⟩
  clear hA0 hval0
  refine (walk a0 len0 cap0 z0 W w0).mono fun e W' ⟨he, bel⟩ => ?_
  subst he
  exact ⟨_, rfl, _, _, _, [], _, [], hW', trodAll_mk1 (shut_bool Try.underlying4 _), (trodAll_cons_mk (Below.trod laidOut (by kernel_rfl) (of_decide_eq_true (by kernel_rfl)) k0 bel lt0) trodAll_mk0), rfl, bel.frame _, fun h => by cases h⟩

theorem over : Rows.fnStatesRow.holds Try.pinned (OpenSpec.ofChange Rows.fnStatesSpec) :=
  OpenClaim.holds_of_wide 6 Try.f6 rfl rfl rfl rfl rfl rfl rfl ⟨rfl, rfl, rfl, rfl, rfl⟩ rfl rfl rfl rfl rfl (by kernel_rfl) Try.func6 (by kernel_rfl)
    (of_decide_eq_true (by kernel_rfl)) (by unfold Func.isWrapper; first | (rw [if_pos (by decide +kernel)]; kernel_rfl) | (rw [if_neg (by decide +kernel)]; exact ⟨rfl, rfl⟩))
    (fun os started H enc _ => lifted os started H enc)

theorem proved : Rows.FnStatesSaid := over
#print axioms proved
end Go.Proofs.Ytnlnledijpcjpab.fnStates
