/-
  What is proved: at every code (every slice of bytes, of whatever length), the law FnSetPieces answers true: a drawn piece that SetPiece set in a drawn state is there, in its place, and where one of its number was, set back, all is as it was; no condition.
-/
import Derived.Test.YtnlnledijpcjpabRows
import Derived.Test.YtnlnledijpcjpabCur
import Derived.Test.YtnlnledijpcjpabPiece
import Derived.Test.YtnlnledijpcjpabRow
import Derived.Test.YtnlnledijpcjpabPiece2
import Derived.Test.YtnlnledijpcjpabRowLaw
import Derived.Test.YtnlnledijpcjpabStaA
import Derived.Test.YtnlnledijpcjpabRegs
import Derived.Test.YtnlnledijpcjpabNum
import Derived.Test.YtnlnledijpcjpabPiece3
import Derived.Test.YtnlnledijpcjpabState4
import Derived.Test.YtnlnledijpcjpabState5
import Derived.Test.YtnlnledijpcjpabStMark
import Derived.Test.YtnlnledijpcjpabPieceOk
import Derived.Test.YtnlnledijpcjpabState6
import Derived.Test.YtnlnledijpcjpabStHeld
import Derived.Test.YtnlnledijpcjpabStEq
import Derived.Test.YtnlnledijpcjpabStSame
import Derived.Test.YtnlnledijpcjpabStLaw
import Derived.Test.YtnlnledijpcjpabBytesA
import Derived.Test.YtnlnledijpcjpabStNew
import Derived.Test.YtnlnledijpcjpabState8
import Derived.Test.YtnlnledijpcjpabStCopy
import Derived.Test.YtnlnledijpcjpabStAt
import Derived.Test.YtnlnledijpcjpabStSetT
import Derived.Test.YtnlnledijpcjpabStCat
import Derived.Test.YtnlnledijpcjpabStField
import Derived.Test.YtnlnledijpcjpabStSetI
import Derived.Test.YtnlnledijpcjpabPiece4
import Derived.Test.YtnlnledijpcjpabPiece5
import Derived.Test.YtnlnledijpcjpabStRow
import Derived.Test.YtnlnledijpcjpabCurs
import Derived.Test.YtnlnledijpcjpabDrawB
import Derived.Test.YtnlnledijpcjpabDrawP
import Derived.Test.YtnlnledijpcjpabDrawT1
import Derived.Test.YtnlnledijpcjpabDrawT2
import Derived.Test.YtnlnledijpcjpabDrawT3
import Derived.Test.YtnlnledijpcjpabDrawL
import Derived.Test.YtnlnledijpcjpabDrawBend
import Derived.Test.YtnlnledijpcjpabState7
import Derived.Test.YtnlnledijpcjpabStPut
import Derived.Test.YtnlnledijpcjpabDrawTD
import Derived.Test.YtnlnledijpcjpabDrawT6
import Derived.Test.YtnlnledijpcjpabStSameI
import Derived.Test.YtnlnledijpcjpabStLawT
import Derived.WalkKit
import Derived.BigGuardPart
import Derived.ProofKit
import Derived.OpenShut
import Derived.ShutString
import Derived.ChangeOld
import Derived.Below
namespace Go.Proofs.Ytnlnledijpcjpab.fnSetPieces
open Go.ChangeShapes Go.WideShapes Go.ChangeAt Go.RowKit
open Go.ChangeMaps (open_string shut_string)
set_option linter.unusedVariables false

theorem own : ownKnob Try.prog.godebug = none := by kernel_rfl
theorem laidOut : laidOutB Try.prog = true := by kernel_rfl

/-- WHAT THE WALK IS TOLD OF A SLICE OF INTEGERS THAT CAME IN: it is nil; or it leads to a row of 'cap' cells, the numbers 'zs' (the first 'len' are its elements, the rest its spare room), each fitting its kind. -/
def IsRow (k : IntKind) (w : World) (a : Option Addr) (len cap : Nat) (zs : List Int) : Prop :=
  (a = none ∧ len = 0 ∧ cap = 0 ∧ zs = []) ∨
  ∃ x, a = some x ∧ len ≤ cap ∧ cap ≤ maxLen ∧ zs.length = cap ∧ (∀ i, i < zs.length → w.cell? (x.add i) = some (.int k (zs.getD i 0))) ∧ ∀ n ∈ zs, (Lit.int k n).wf = true

theorem spN_le' (s : Stt) (p : Pc) : spN s p ≤ s.pn + 1 := by unfold spN; split <;> omega
set_option maxRecDepth 100000 in
set_option maxHeartbeats 1500000 in
theorem walk (a0 : Option Addr) (len0 cap0 : Nat) (z0 : List Int) (w : World) (w0 : IsRow .u8 w a0 len0 cap0 z0) :
    Calls Try.prog 8 #[.slice a0 len0 cap0] w fun e w' => e = .returned (.bool true) ∧ Below w.heap.size w w' := by
  have hc : Code w a0 len0 w.heap.size := code_of_row w0
  clear w0
  by_cases hbig : (1048576 : Int) < (len0 : Int)
  · go_enter Try.func8, Try.ntmps8
    go_wp2_with (go_at_call 9; refine (big_any _ _ _ _).mono ?_; rintro e w' ⟨rfl, rfl⟩)
    go_ret
    exact ⟨rfl, Below.refl _ _⟩
  · go_enter Try.func8, Try.ntmps8
    try simp only [List.append_eq, List.cons_append, List.nil_append]
    go_wp2_with fail
    refine (big_any _ _ _ _).mono ?_
    rintro e w' ⟨rfl, rfl⟩
    have hB := Below.refl w'.heap.size w'
    have m_ : Try.prog.follows Departure.mixedOrders = true := by kernel_rfl
    go_wp2_with fail
    refine (drawSetPiece_any _ _ _ _ ((hc.below hB).mono hB.size (Nat.le_refl _))).mono ?_
    rintro e u1 ⟨t_s, p, h_s, wfp, rfl, hb, o_s, f_s⟩
    replace hB := below_app hB hb hB.size
    clear hb
    have n_s := h_s.pn
    have m_s := h_s.sn
    have w_s := h_s.wfs
    have F_s : Full t_s := ⟨f_s.1, f_s.2⟩
    have x3 := (boxR_new u1 56 #[.slice none 0 0, .slice none 0 0, .int .i64 0, .int .i64 0]).alloc (.cells #[.int .i64 0, .int .i64 0, .int .i64 0, .int .i64 0, .int .i64 0, .int .i64 0, .int .i64 0, .int .i64 0, .int .i64 0, .int .i64 0, .int .i64 0, .bool false, .bool false] 31)
    have x4 : BoxR ((u1.alloc (.cells #[.slice none 0 0, .slice none 0 0, .int .i64 0, .int .i64 0] 56)).alloc (.cells #[.int .i64 0, .int .i64 0, .int .i64 0, .int .i64 0, .int .i64 0, .int .i64 0, .int .i64 0, .int .i64 0, .int .i64 0, .int .i64 0, .int .i64 0, .bool false, .bool false] 31)) (u1.heap.size + 1) 31 #[.int .i64 0, .int .i64 0, .int .i64 0, .int .i64 0, .int .i64 0, .int .i64 0, .int .i64 0, .int .i64 0, .int .i64 0, .int .i64 0, .int .i64 0, .bool false, .bool false] := heap_alloc2_new _ _ _
    have hbA := ((Below.refl _ u1).alloc (Nat.le_refl _) (.cells #[.slice none 0 0, .slice none 0 0, .int .i64 0, .int .i64 0] 56)).alloc (by simp) (.cells #[.int .i64 0, .int .i64 0, .int .i64 0, .int .i64 0, .int .i64 0, .int .i64 0, .int .i64 0, .int .i64 0, .int .i64 0, .int .i64 0, .int .i64 0, .bool false, .bool false] 31)
    generalize hWA : (u1.alloc (.cells #[.slice none 0 0, .slice none 0 0, .int .i64 0, .int .i64 0] 56)).alloc (.cells #[.int .i64 0, .int .i64 0, .int .i64 0, .int .i64 0, .int .i64 0, .int .i64 0, .int .i64 0, .int .i64 0, .int .i64 0, .int .i64 0, .int .i64 0, .bool false, .bool false] 31) = WA at x3 x4 hbA
    have y3 : BoxR (WA.setRow u1.heap.size #[.slice t_s.pa t_s.pn t_s.pcap, .slice t_s.sa t_s.sn t_s.scap, .int .i64 t_s.ac, .int .i64 t_s.cl]) u1.heap.size 56 #[.slice t_s.pa t_s.pn t_s.pcap, .slice t_s.sa t_s.sn t_s.scap, .int .i64 t_s.ac, .int .i64 t_s.cl] := setRow_heap _ _ _ _ _ _ x3
    have y4 : BoxR (WA.setRow u1.heap.size #[.slice t_s.pa t_s.pn t_s.pcap, .slice t_s.sa t_s.sn t_s.scap, .int .i64 t_s.ac, .int .i64 t_s.cl]) (u1.heap.size + 1) 31 #[.int .i64 0, .int .i64 0, .int .i64 0, .int .i64 0, .int .i64 0, .int .i64 0, .int .i64 0, .int .i64 0, .int .i64 0, .int .i64 0, .int .i64 0, .bool false, .bool false] := (heap_setRow_ne' WA _ _ _ (by omega)).trans x4
    have b_s : BoxR ((WA.setRow u1.heap.size #[.slice t_s.pa t_s.pn t_s.pcap, .slice t_s.sa t_s.sn t_s.scap, .int .i64 t_s.ac, .int .i64 t_s.cl]).setRow (u1.heap.size + 1) #[.int .i64 p.id, .int .i64 p.ow, .int .i64 p.si, .int .i64 p.zo, .int .i64 p.st, .int .i64 p.po, .int .i64 p.to, .int .i64 p.tr, .int .i64 p.pl, .int .i64 p.mi, .int .i64 p.ma, .bool p.de, .bool p.be]) u1.heap.size 56 #[.slice t_s.pa t_s.pn t_s.pcap, .slice t_s.sa t_s.sn t_s.scap, .int .i64 t_s.ac, .int .i64 t_s.cl] := (heap_setRow_ne' _ _ _ _ (by omega)).trans y3
    have b_p : BoxR ((WA.setRow u1.heap.size #[.slice t_s.pa t_s.pn t_s.pcap, .slice t_s.sa t_s.sn t_s.scap, .int .i64 t_s.ac, .int .i64 t_s.cl]).setRow (u1.heap.size + 1) #[.int .i64 p.id, .int .i64 p.ow, .int .i64 p.si, .int .i64 p.zo, .int .i64 p.st, .int .i64 p.po, .int .i64 p.to, .int .i64 p.tr, .int .i64 p.pl, .int .i64 p.mi, .int .i64 p.ma, .bool p.de, .bool p.be]) (u1.heap.size + 1) 31 #[.int .i64 p.id, .int .i64 p.ow, .int .i64 p.si, .int .i64 p.zo, .int .i64 p.st, .int .i64 p.po, .int .i64 p.to, .int .i64 p.tr, .int .i64 p.pl, .int .i64 p.mi, .int .i64 p.ma, .bool p.de, .bool p.be] := setRow_heap _ _ _ _ _ _ y4
    have hb := below_setRow (below_setRow hbA (Nat.le_refl u1.heap.size) #[.slice t_s.pa t_s.pn t_s.pcap, .slice t_s.sa t_s.sn t_s.scap, .int .i64 t_s.ac, .int .i64 t_s.cl]) (by omega : u1.heap.size ≤ u1.heap.size + 1) #[.int .i64 p.id, .int .i64 p.ow, .int .i64 p.si, .int .i64 p.zo, .int .i64 p.st, .int .i64 p.po, .int .i64 p.to, .int .i64 p.tr, .int .i64 p.pl, .int .i64 p.mi, .int .i64 p.ma, .bool p.de, .bool p.be]
    generalize hU0 : (WA.setRow u1.heap.size #[.slice t_s.pa t_s.pn t_s.pcap, .slice t_s.sa t_s.sn t_s.scap, .int .i64 t_s.ac, .int .i64 t_s.cl]).setRow (u1.heap.size + 1) #[.int .i64 p.id, .int .i64 p.ow, .int .i64 p.si, .int .i64 p.zo, .int .i64 p.st, .int .i64 p.po, .int .i64 p.to, .int .i64 p.tr, .int .i64 p.pl, .int .i64 p.mi, .int .i64 p.ma, .bool p.de, .bool p.be] = U0 at b_s b_p hb
    replace o_s := o_s.grew hb
    replace hB := below_app hB hb hB.size
    clear hb
    have c_p_0 : U0.cell? ⟨u1.heap.size + 1, 0, none⟩ = some (.int .i64 p.id) := b_p.cell 0
    have c_p_1 : U0.cell? ⟨u1.heap.size + 1, 1, none⟩ = some (.int .i64 p.ow) := b_p.cell 1
    have c_p_2 : U0.cell? ⟨u1.heap.size + 1, 2, none⟩ = some (.int .i64 p.si) := b_p.cell 2
    have c_p_3 : U0.cell? ⟨u1.heap.size + 1, 3, none⟩ = some (.int .i64 p.zo) := b_p.cell 3
    have c_p_4 : U0.cell? ⟨u1.heap.size + 1, 4, none⟩ = some (.int .i64 p.st) := b_p.cell 4
    have c_p_5 : U0.cell? ⟨u1.heap.size + 1, 5, none⟩ = some (.int .i64 p.po) := b_p.cell 5
    have c_p_6 : U0.cell? ⟨u1.heap.size + 1, 6, none⟩ = some (.int .i64 p.to) := b_p.cell 6
    have c_p_7 : U0.cell? ⟨u1.heap.size + 1, 7, none⟩ = some (.int .i64 p.tr) := b_p.cell 7
    have c_p_8 : U0.cell? ⟨u1.heap.size + 1, 8, none⟩ = some (.int .i64 p.pl) := b_p.cell 8
    have c_p_9 : U0.cell? ⟨u1.heap.size + 1, 9, none⟩ = some (.int .i64 p.mi) := b_p.cell 9
    have c_p_10 : U0.cell? ⟨u1.heap.size + 1, 10, none⟩ = some (.int .i64 p.ma) := b_p.cell 10
    have c_p_11 : U0.cell? ⟨u1.heap.size + 1, 11, none⟩ = some (.bool p.de) := b_p.cell 11
    have c_p_12 : U0.cell? ⟨u1.heap.size + 1, 12, none⟩ = some (.bool p.be) := b_p.cell 12
    have c_s_0 : U0.cell? ⟨u1.heap.size, 0, none⟩ = some (.slice t_s.pa t_s.pn t_s.pcap) := b_s.cell 0
    have c_s_1 : U0.cell? ⟨u1.heap.size, 1, none⟩ = some (.slice t_s.sa t_s.sn t_s.scap) := b_s.cell 1
    have c_s_2 : U0.cell? ⟨u1.heap.size, 2, none⟩ = some (.int .i64 t_s.ac) := b_s.cell 2
    have c_s_3 : U0.cell? ⟨u1.heap.size, 3, none⟩ = some (.int .i64 t_s.cl) := b_s.cell 3
    go_wp2_with first | (refine wpList_store_row rfl 56 (.tmp 3) _ rfl u1.heap.size #[.slice t_s.pa t_s.pn t_s.pcap, .slice t_s.sa t_s.sn t_s.scap, .int .i64 t_s.ac, .int .i64 t_s.cl] (by rfl) (by rfl) _ _ x3 (by kernel_rfl) (by rfl) (by simp [Value.oneCell']) ?_) | (refine wpList_store_row rfl 31 (.tmp 4) _ rfl (u1.heap.size + 1) #[.int .i64 p.id, .int .i64 p.ow, .int .i64 p.si, .int .i64 p.zo, .int .i64 p.st, .int .i64 p.po, .int .i64 p.to, .int .i64 p.tr, .int .i64 p.pl, .int .i64 p.mi, .int .i64 p.ma, .bool p.de, .bool p.be] (by rfl) (by rfl) _ _ y4 (by kernel_rfl) (by rfl) (by simp [Value.oneCell']) ?_; rw [hU0])
    refine (implSetPiece_any t_s p _ (w_s.ok o_s) F_s (by omega) (by omega)).mono ?_
    rintro e u2 ⟨t_x, rfl, hb, o_x, e_x, F_x⟩
    clear c_p_0 c_p_1 c_p_2 c_p_3 c_p_4 c_p_5 c_p_6 c_p_7 c_p_8 c_p_9 c_p_10 c_p_11 c_p_12 c_s_0 c_s_1 c_s_2 c_s_3 x3 x4 y3 y4 hU0 hWA hbA
    replace o_s := o_s.grew hb
    replace b_s := b_s.grew hb
    replace b_p := b_p.grew hb
    replace hB := below_app hB hb hB.size
    clear hb
    have hb := below_new2'' u2 (.cells #[.slice t_x.pa t_x.pn t_x.pcap, .slice t_x.sa t_x.sn t_x.scap, .int .i64 t_x.ac, .int .i64 t_x.cl] 56)
    have b_x := boxR_new u2 56 #[.slice t_x.pa t_x.pn t_x.pcap, .slice t_x.sa t_x.sn t_x.scap, .int .i64 t_x.ac, .int .i64 t_x.cl]
    generalize hVx : u2.alloc (.cells #[.slice t_x.pa t_x.pn t_x.pcap, .slice t_x.sa t_x.sn t_x.scap, .int .i64 t_x.ac, .int .i64 t_x.cl] 56) = u3 at hb b_x
    replace o_s := o_s.grew hb
    replace o_x := o_x.grew hb
    replace b_s := b_s.grew hb
    replace b_p := b_p.grew hb
    replace hB := below_app hB hb hB.size
    clear hb
    have w_x : wfS t_x := (w_s.set wfp).like e_x
    obtain ⟨k, hK1, hK2, hK3, hK4⟩ := set_at t_s p
    have spl := spN_le' t_s p
    have n_x : t_x.pn ≤ 12 := by rw [e_x.pn]; show spN t_s p ≤ 12; omega
    have m_x : t_x.sn ≤ 3 := by rw [e_x.sn]; show t_s.sn ≤ 3; omega
    have HKx : Hid (paI t_x.pn t_x.ps p.id = (k : Int)) := by show paI t_x.pn t_x.ps p.id = _; rw [e_x.pn, e_x.ps]; exact hK1
    have HKl : k < t_x.pn := by rw [e_x.pn]; exact hK2
    have HKp : Hid (t_x.ps k = p) := by show t_x.ps k = p; rw [e_x.ps]; exact hK3
    have hlen : Hid (paI t_s.pn t_s.ps p.id = -1 ∧ t_x.pn = t_s.pn + 1 ∨ paI t_s.pn t_s.ps p.id = (k : Int) ∧ t_x.pn = t_s.pn) := by show _ ∨ _; rw [e_x.pn]; exact hK4
    clear hK1 hK2 hK3 hK4
    have c_p_0 : u3.cell? ⟨u1.heap.size + 1, 0, none⟩ = some (.int .i64 p.id) := b_p.cell 0
    have c_p_1 : u3.cell? ⟨u1.heap.size + 1, 1, none⟩ = some (.int .i64 p.ow) := b_p.cell 1
    have c_p_2 : u3.cell? ⟨u1.heap.size + 1, 2, none⟩ = some (.int .i64 p.si) := b_p.cell 2
    have c_p_3 : u3.cell? ⟨u1.heap.size + 1, 3, none⟩ = some (.int .i64 p.zo) := b_p.cell 3
    have c_p_4 : u3.cell? ⟨u1.heap.size + 1, 4, none⟩ = some (.int .i64 p.st) := b_p.cell 4
    have c_p_5 : u3.cell? ⟨u1.heap.size + 1, 5, none⟩ = some (.int .i64 p.po) := b_p.cell 5
    have c_p_6 : u3.cell? ⟨u1.heap.size + 1, 6, none⟩ = some (.int .i64 p.to) := b_p.cell 6
    have c_p_7 : u3.cell? ⟨u1.heap.size + 1, 7, none⟩ = some (.int .i64 p.tr) := b_p.cell 7
    have c_p_8 : u3.cell? ⟨u1.heap.size + 1, 8, none⟩ = some (.int .i64 p.pl) := b_p.cell 8
    have c_p_9 : u3.cell? ⟨u1.heap.size + 1, 9, none⟩ = some (.int .i64 p.mi) := b_p.cell 9
    have c_p_10 : u3.cell? ⟨u1.heap.size + 1, 10, none⟩ = some (.int .i64 p.ma) := b_p.cell 10
    have c_p_11 : u3.cell? ⟨u1.heap.size + 1, 11, none⟩ = some (.bool p.de) := b_p.cell 11
    have c_p_12 : u3.cell? ⟨u1.heap.size + 1, 12, none⟩ = some (.bool p.be) := b_p.cell 12
    have c_x_0 : u3.cell? ⟨u2.heap.size, 0, none⟩ = some (.slice t_x.pa t_x.pn t_x.pcap) := b_x.cell 0
    have c_x_1 : u3.cell? ⟨u2.heap.size, 1, none⟩ = some (.slice t_x.sa t_x.sn t_x.scap) := b_x.cell 1
    have c_x_2 : u3.cell? ⟨u2.heap.size, 2, none⟩ = some (.int .i64 t_x.ac) := b_x.cell 2
    have c_x_3 : u3.cell? ⟨u2.heap.size, 3, none⟩ = some (.int .i64 t_x.cl) := b_x.cell 3
    go_wp2_with fail
    refine (implPieceAt_any t_x p.id _ (w_x.ok o_x) (by omega)).mono ?_
    rintro e u4 ⟨rfl, hb⟩
    rw [HKx.out]
    clear c_p_0 c_p_1 c_p_2 c_p_3 c_p_4 c_p_5 c_p_6 c_p_7 c_p_8 c_p_9 c_p_10 c_p_11 c_p_12 c_x_0 c_x_1 c_x_2 c_x_3 hVx
    replace o_s := o_s.grew hb
    replace o_x := o_x.grew hb
    replace b_s := b_s.grew hb
    replace b_p := b_p.grew hb
    replace b_x := b_x.grew hb
    replace hB := below_app hB hb hB.size
    clear hb
    have c_p_0 : u4.cell? ⟨u1.heap.size + 1, 0, none⟩ = some (.int .i64 p.id) := b_p.cell 0
    have c_p_1 : u4.cell? ⟨u1.heap.size + 1, 1, none⟩ = some (.int .i64 p.ow) := b_p.cell 1
    have c_p_2 : u4.cell? ⟨u1.heap.size + 1, 2, none⟩ = some (.int .i64 p.si) := b_p.cell 2
    have c_p_3 : u4.cell? ⟨u1.heap.size + 1, 3, none⟩ = some (.int .i64 p.zo) := b_p.cell 3
    have c_p_4 : u4.cell? ⟨u1.heap.size + 1, 4, none⟩ = some (.int .i64 p.st) := b_p.cell 4
    have c_p_5 : u4.cell? ⟨u1.heap.size + 1, 5, none⟩ = some (.int .i64 p.po) := b_p.cell 5
    have c_p_6 : u4.cell? ⟨u1.heap.size + 1, 6, none⟩ = some (.int .i64 p.to) := b_p.cell 6
    have c_p_7 : u4.cell? ⟨u1.heap.size + 1, 7, none⟩ = some (.int .i64 p.tr) := b_p.cell 7
    have c_p_8 : u4.cell? ⟨u1.heap.size + 1, 8, none⟩ = some (.int .i64 p.pl) := b_p.cell 8
    have c_p_9 : u4.cell? ⟨u1.heap.size + 1, 9, none⟩ = some (.int .i64 p.mi) := b_p.cell 9
    have c_p_10 : u4.cell? ⟨u1.heap.size + 1, 10, none⟩ = some (.int .i64 p.ma) := b_p.cell 10
    have c_p_11 : u4.cell? ⟨u1.heap.size + 1, 11, none⟩ = some (.bool p.de) := b_p.cell 11
    have c_p_12 : u4.cell? ⟨u1.heap.size + 1, 12, none⟩ = some (.bool p.be) := b_p.cell 12
    have c_s_0 : u4.cell? ⟨u1.heap.size, 0, none⟩ = some (.slice t_s.pa t_s.pn t_s.pcap) := b_s.cell 0
    have c_s_1 : u4.cell? ⟨u1.heap.size, 1, none⟩ = some (.slice t_s.sa t_s.sn t_s.scap) := b_s.cell 1
    have c_s_2 : u4.cell? ⟨u1.heap.size, 2, none⟩ = some (.int .i64 t_s.ac) := b_s.cell 2
    have c_s_3 : u4.cell? ⟨u1.heap.size, 3, none⟩ = some (.int .i64 t_s.cl) := b_s.cell 3
    go_wp2_with fail
    refine (implPieceAt_any t_s p.id _ (w_s.ok o_s) (by omega)).mono ?_
    rintro e u5 ⟨rfl, hb⟩
    clear c_p_0 c_p_1 c_p_2 c_p_3 c_p_4 c_p_5 c_p_6 c_p_7 c_p_8 c_p_9 c_p_10 c_p_11 c_p_12 c_s_0 c_s_1 c_s_2 c_s_3
    replace o_s := o_s.grew hb
    replace o_x := o_x.grew hb
    replace b_s := b_s.grew hb
    replace b_p := b_p.grew hb
    replace b_x := b_x.grew hb
    replace hB := below_app hB hb hB.size
    clear hb
    go_wp2_with fail
    refine (drawPieceAt_any _ _ _ _ ((hc.below hB).mono hB.size (Nat.le_refl _))).mono ?_
    rintro e u6 ⟨t_t, id, h_t, hid, rfl, hb, o_t, _⟩
    replace o_s := o_s.grew hb
    replace o_x := o_x.grew hb
    replace b_s := b_s.grew hb
    replace b_p := b_p.grew hb
    replace b_x := b_x.grew hb
    replace hB := below_app hB hb hB.size
    clear hb
    have n_t := h_t.pn
    have m_t := h_t.sn
    have w_t := h_t.wfs
    have hb := below_new2'' u6 (.cells #[.slice t_t.pa t_t.pn t_t.pcap, .slice t_t.sa t_t.sn t_t.scap, .int .i64 t_t.ac, .int .i64 t_t.cl] 56)
    have b_t := boxR_new u6 56 #[.slice t_t.pa t_t.pn t_t.pcap, .slice t_t.sa t_t.sn t_t.scap, .int .i64 t_t.ac, .int .i64 t_t.cl]
    generalize hVt : u6.alloc (.cells #[.slice t_t.pa t_t.pn t_t.pcap, .slice t_t.sa t_t.sn t_t.scap, .int .i64 t_t.ac, .int .i64 t_t.cl] 56) = u7 at hb b_t
    replace o_s := o_s.grew hb
    replace o_x := o_x.grew hb
    replace o_t := o_t.grew hb
    replace b_s := b_s.grew hb
    replace b_p := b_p.grew hb
    replace b_x := b_x.grew hb
    replace hB := below_app hB hb hB.size
    clear hb
    generalize hI : paI t_s.pn t_s.ps p.id = iv at hlen ⊢
    have hxa : t_x.pa = some ⟨t_x.pb, 0, none⟩ := F_x.1
    have rX := o_x.p.rd
    have A13 : At13 u7 t_x.pb (k * 13) p := by
      rcases rX with h0 | ⟨o1, he, hr⟩
      · omega
      · rw [hxa] at he
        simp only [Option.some.injEq, Addr.mk.injEq, and_true, true_and] at he
        subst he
        have := At13_of (hr k HKl)
        rwa [Nat.zero_add, HKp.out] at this
    have d_x : u7.cell? ⟨u2.heap.size, 0, none⟩ = some (.slice (some ⟨t_x.pb, 0, none⟩) t_x.pn t_x.pcap) := by have := b_x.cell 0; rw [hxa] at this; exact this
    obtain ⟨r0, r1, r2, r3, r4, r5, r6, r7, r8, r9, r10, r11, r12⟩ := A13
    have SU : u7.cell? ⟨u2.heap.size, 0, none⟩ = some (.slice (some ⟨t_x.pb, 0, none⟩) t_x.pn t_x.pcap) ∧ u7.cell? ⟨u2.heap.size, 1, none⟩ = some (.slice t_x.sa t_x.sn t_x.scap) ∧ u7.cell? ⟨u2.heap.size, 2, none⟩ = some (.int .i64 t_x.ac) ∧ u7.cell? ⟨u2.heap.size, 3, none⟩ = some (.int .i64 t_x.cl) ∧ u7.cell? ⟨u1.heap.size, 0, none⟩ = some (.slice t_s.pa t_s.pn t_s.pcap) ∧ u7.cell? ⟨u1.heap.size, 1, none⟩ = some (.slice t_s.sa t_s.sn t_s.scap) ∧ u7.cell? ⟨u1.heap.size, 2, none⟩ = some (.int .i64 t_s.ac) ∧ u7.cell? ⟨u1.heap.size, 3, none⟩ = some (.int .i64 t_s.cl) ∧ u7.cell? ⟨u1.heap.size + 1, 0, none⟩ = some (.int .i64 p.id) ∧ u7.cell? ⟨u1.heap.size + 1, 1, none⟩ = some (.int .i64 p.ow) ∧ u7.cell? ⟨u1.heap.size + 1, 2, none⟩ = some (.int .i64 p.si) ∧ u7.cell? ⟨u1.heap.size + 1, 3, none⟩ = some (.int .i64 p.zo) ∧ u7.cell? ⟨u1.heap.size + 1, 4, none⟩ = some (.int .i64 p.st) ∧ u7.cell? ⟨u1.heap.size + 1, 5, none⟩ = some (.int .i64 p.po) ∧ u7.cell? ⟨u1.heap.size + 1, 6, none⟩ = some (.int .i64 p.to) ∧ u7.cell? ⟨u1.heap.size + 1, 7, none⟩ = some (.int .i64 p.tr) ∧ u7.cell? ⟨u1.heap.size + 1, 8, none⟩ = some (.int .i64 p.pl) ∧ u7.cell? ⟨u1.heap.size + 1, 9, none⟩ = some (.int .i64 p.mi) ∧ u7.cell? ⟨u1.heap.size + 1, 10, none⟩ = some (.int .i64 p.ma) ∧ u7.cell? ⟨u1.heap.size + 1, 11, none⟩ = some (.bool p.de) ∧ u7.cell? ⟨u1.heap.size + 1, 12, none⟩ = some (.bool p.be) ∧ u7.cell? ⟨u6.heap.size, 0, none⟩ = some (.slice t_t.pa t_t.pn t_t.pcap) ∧ u7.cell? ⟨u6.heap.size, 1, none⟩ = some (.slice t_t.sa t_t.sn t_t.scap) ∧ u7.cell? ⟨u6.heap.size, 2, none⟩ = some (.int .i64 t_t.ac) ∧ u7.cell? ⟨u6.heap.size, 3, none⟩ = some (.int .i64 t_t.cl) ∧ u7.cell? ⟨t_x.pb, k * 13, none⟩ = some (.int .i64 p.id) ∧ u7.cell? ⟨t_x.pb, k * 13 + 1, none⟩ = some (.int .i64 p.ow) ∧ u7.cell? ⟨t_x.pb, k * 13 + 2, none⟩ = some (.int .i64 p.si) ∧ u7.cell? ⟨t_x.pb, k * 13 + 3, none⟩ = some (.int .i64 p.zo) ∧ u7.cell? ⟨t_x.pb, k * 13 + 4, none⟩ = some (.int .i64 p.st) ∧ u7.cell? ⟨t_x.pb, k * 13 + 5, none⟩ = some (.int .i64 p.po) ∧ u7.cell? ⟨t_x.pb, k * 13 + 6, none⟩ = some (.int .i64 p.to) ∧ u7.cell? ⟨t_x.pb, k * 13 + 7, none⟩ = some (.int .i64 p.tr) ∧ u7.cell? ⟨t_x.pb, k * 13 + 8, none⟩ = some (.int .i64 p.pl) ∧ u7.cell? ⟨t_x.pb, k * 13 + 9, none⟩ = some (.int .i64 p.mi) ∧ u7.cell? ⟨t_x.pb, k * 13 + 10, none⟩ = some (.int .i64 p.ma) ∧ u7.cell? ⟨t_x.pb, k * 13 + 11, none⟩ = some (.bool p.de) ∧ u7.cell? ⟨t_x.pb, k * 13 + 12, none⟩ = some (.bool p.be) := ⟨d_x, b_x.cell 1, b_x.cell 2, b_x.cell 3, b_s.cell 0, b_s.cell 1, b_s.cell 2, b_s.cell 3, b_p.cell 0, b_p.cell 1, b_p.cell 2, b_p.cell 3, b_p.cell 4, b_p.cell 5, b_p.cell 6, b_p.cell 7, b_p.cell 8, b_p.cell 9, b_p.cell 10, b_p.cell 11, b_p.cell 12, b_t.cell 0, b_t.cell 1, b_t.cell 2, b_t.cell 3, r0, r1, r2, r3, r4, r5, r6, r7, r8, r9, r10, r11, r12⟩
    have SK : Hid (∀ u : World, Below u7.heap.size u7 u → u.cell? ⟨u2.heap.size, 0, none⟩ = some (.slice (some ⟨t_x.pb, 0, none⟩) t_x.pn t_x.pcap) ∧ u.cell? ⟨u2.heap.size, 1, none⟩ = some (.slice t_x.sa t_x.sn t_x.scap) ∧ u.cell? ⟨u2.heap.size, 2, none⟩ = some (.int .i64 t_x.ac) ∧ u.cell? ⟨u2.heap.size, 3, none⟩ = some (.int .i64 t_x.cl) ∧ u.cell? ⟨u1.heap.size, 0, none⟩ = some (.slice t_s.pa t_s.pn t_s.pcap) ∧ u.cell? ⟨u1.heap.size, 1, none⟩ = some (.slice t_s.sa t_s.sn t_s.scap) ∧ u.cell? ⟨u1.heap.size, 2, none⟩ = some (.int .i64 t_s.ac) ∧ u.cell? ⟨u1.heap.size, 3, none⟩ = some (.int .i64 t_s.cl) ∧ u.cell? ⟨u1.heap.size + 1, 0, none⟩ = some (.int .i64 p.id) ∧ u.cell? ⟨u1.heap.size + 1, 1, none⟩ = some (.int .i64 p.ow) ∧ u.cell? ⟨u1.heap.size + 1, 2, none⟩ = some (.int .i64 p.si) ∧ u.cell? ⟨u1.heap.size + 1, 3, none⟩ = some (.int .i64 p.zo) ∧ u.cell? ⟨u1.heap.size + 1, 4, none⟩ = some (.int .i64 p.st) ∧ u.cell? ⟨u1.heap.size + 1, 5, none⟩ = some (.int .i64 p.po) ∧ u.cell? ⟨u1.heap.size + 1, 6, none⟩ = some (.int .i64 p.to) ∧ u.cell? ⟨u1.heap.size + 1, 7, none⟩ = some (.int .i64 p.tr) ∧ u.cell? ⟨u1.heap.size + 1, 8, none⟩ = some (.int .i64 p.pl) ∧ u.cell? ⟨u1.heap.size + 1, 9, none⟩ = some (.int .i64 p.mi) ∧ u.cell? ⟨u1.heap.size + 1, 10, none⟩ = some (.int .i64 p.ma) ∧ u.cell? ⟨u1.heap.size + 1, 11, none⟩ = some (.bool p.de) ∧ u.cell? ⟨u1.heap.size + 1, 12, none⟩ = some (.bool p.be) ∧ u.cell? ⟨u6.heap.size, 0, none⟩ = some (.slice t_t.pa t_t.pn t_t.pcap) ∧ u.cell? ⟨u6.heap.size, 1, none⟩ = some (.slice t_t.sa t_t.sn t_t.scap) ∧ u.cell? ⟨u6.heap.size, 2, none⟩ = some (.int .i64 t_t.ac) ∧ u.cell? ⟨u6.heap.size, 3, none⟩ = some (.int .i64 t_t.cl) ∧ u.cell? ⟨t_x.pb, k * 13, none⟩ = some (.int .i64 p.id) ∧ u.cell? ⟨t_x.pb, k * 13 + 1, none⟩ = some (.int .i64 p.ow) ∧ u.cell? ⟨t_x.pb, k * 13 + 2, none⟩ = some (.int .i64 p.si) ∧ u.cell? ⟨t_x.pb, k * 13 + 3, none⟩ = some (.int .i64 p.zo) ∧ u.cell? ⟨t_x.pb, k * 13 + 4, none⟩ = some (.int .i64 p.st) ∧ u.cell? ⟨t_x.pb, k * 13 + 5, none⟩ = some (.int .i64 p.po) ∧ u.cell? ⟨t_x.pb, k * 13 + 6, none⟩ = some (.int .i64 p.to) ∧ u.cell? ⟨t_x.pb, k * 13 + 7, none⟩ = some (.int .i64 p.tr) ∧ u.cell? ⟨t_x.pb, k * 13 + 8, none⟩ = some (.int .i64 p.pl) ∧ u.cell? ⟨t_x.pb, k * 13 + 9, none⟩ = some (.int .i64 p.mi) ∧ u.cell? ⟨t_x.pb, k * 13 + 10, none⟩ = some (.int .i64 p.ma) ∧ u.cell? ⟨t_x.pb, k * 13 + 11, none⟩ = some (.bool p.de) ∧ u.cell? ⟨t_x.pb, k * 13 + 12, none⟩ = some (.bool p.be)) := fun u hu => by
      obtain ⟨f0, f1, f2, f3, f4, f5, f6, f7, f8, f9, f10, f11, f12, f13, f14, f15, f16, f17, f18, f19, f20, f21, f22, f23, f24, f25, f26, f27, f28, f29, f30, f31, f32, f33, f34, f35, f36, f37⟩ := SU
      exact ⟨(hu.cell (World.block_lt_of_cell? _ _ f0)).trans f0, (hu.cell (World.block_lt_of_cell? _ _ f1)).trans f1, (hu.cell (World.block_lt_of_cell? _ _ f2)).trans f2, (hu.cell (World.block_lt_of_cell? _ _ f3)).trans f3, (hu.cell (World.block_lt_of_cell? _ _ f4)).trans f4, (hu.cell (World.block_lt_of_cell? _ _ f5)).trans f5, (hu.cell (World.block_lt_of_cell? _ _ f6)).trans f6, (hu.cell (World.block_lt_of_cell? _ _ f7)).trans f7, (hu.cell (World.block_lt_of_cell? _ _ f8)).trans f8, (hu.cell (World.block_lt_of_cell? _ _ f9)).trans f9, (hu.cell (World.block_lt_of_cell? _ _ f10)).trans f10, (hu.cell (World.block_lt_of_cell? _ _ f11)).trans f11, (hu.cell (World.block_lt_of_cell? _ _ f12)).trans f12, (hu.cell (World.block_lt_of_cell? _ _ f13)).trans f13, (hu.cell (World.block_lt_of_cell? _ _ f14)).trans f14, (hu.cell (World.block_lt_of_cell? _ _ f15)).trans f15, (hu.cell (World.block_lt_of_cell? _ _ f16)).trans f16, (hu.cell (World.block_lt_of_cell? _ _ f17)).trans f17, (hu.cell (World.block_lt_of_cell? _ _ f18)).trans f18, (hu.cell (World.block_lt_of_cell? _ _ f19)).trans f19, (hu.cell (World.block_lt_of_cell? _ _ f20)).trans f20, (hu.cell (World.block_lt_of_cell? _ _ f21)).trans f21, (hu.cell (World.block_lt_of_cell? _ _ f22)).trans f22, (hu.cell (World.block_lt_of_cell? _ _ f23)).trans f23, (hu.cell (World.block_lt_of_cell? _ _ f24)).trans f24, (hu.cell (World.block_lt_of_cell? _ _ f25)).trans f25, (hu.cell (World.block_lt_of_cell? _ _ f26)).trans f26, (hu.cell (World.block_lt_of_cell? _ _ f27)).trans f27, (hu.cell (World.block_lt_of_cell? _ _ f28)).trans f28, (hu.cell (World.block_lt_of_cell? _ _ f29)).trans f29, (hu.cell (World.block_lt_of_cell? _ _ f30)).trans f30, (hu.cell (World.block_lt_of_cell? _ _ f31)).trans f31, (hu.cell (World.block_lt_of_cell? _ _ f32)).trans f32, (hu.cell (World.block_lt_of_cell? _ _ f33)).trans f33, (hu.cell (World.block_lt_of_cell? _ _ f34)).trans f34, (hu.cell (World.block_lt_of_cell? _ _ f35)).trans f35, (hu.cell (World.block_lt_of_cell? _ _ f36)).trans f36, (hu.cell (World.block_lt_of_cell? _ _ f37)).trans f37⟩
    clear SU d_x rX r0 r1 r2 r3 r4 r5 r6 r7 r8 r9 r10 r11 r12
    have SMX : Hid (∀ (u : World) (t : Stt), t_x.ok u → t.ok u → t.pn ≤ 12 → t.sn ≤ 3 → smS t_x t = true → Calls Try.prog 52 #[(.agg #[.slice (some ⟨t_x.pb, 0, none⟩) t_x.pn t_x.pcap, .slice t_x.sa t_x.sn t_x.scap, .int .i64 t_x.ac, .int .i64 t_x.cl]), (.agg #[.slice t.pa t.pn t.pcap, .slice t.sa t.sn t.scap, .int .i64 t.ac, .int .i64 t.cl])] u fun e w' => e = .returned (.bool true) ∧ Below u.heap.size u w') := fun u t h1 h2 h3 h4 h5 => by have := implSameState_as' (b := true) h1 h2 (by omega) (by omega) (by omega) (by omega) h5; rw [hxa] at this; exact this
    have hD : Below u7.heap.size u7 u7.drew := (Below.refl _ u7).drew
    have oS : Hid (∀ u : World, Below u7.heap.size u7 u → t_s.ok u ∧ t_x.ok u ∧ t_t.ok u) := fun u hu => ⟨w_s.ok (o_s.grew hu), w_x.ok (o_x.grew hu), w_t.ok (o_t.grew hu)⟩
    have y1 : (0 : Int) ≤ (k : Int) := by omega
    have y2 : (k : Int) < (t_x.pn : Int) := by omega
    have y3 : ¬ ((k : Int) < 0) := by omega
    have y4 : ¬ ((t_x.pn : Int) ≤ (k : Int)) := by omega
    have heq := fun w => run_eq_pc p p w
    rw [smP_self] at heq
    go_wp2_with fail
    have HI : Hid (paI t_s.pn t_s.ps p.id = iv) := hI
    clear hVt hI
    go_region_held_law (fun u : World => u.cell? ⟨u2.heap.size, 0, none⟩ = some (.slice (some ⟨t_x.pb, 0, none⟩) t_x.pn t_x.pcap) ∧ u.cell? ⟨u2.heap.size, 1, none⟩ = some (.slice t_x.sa t_x.sn t_x.scap) ∧ u.cell? ⟨u2.heap.size, 2, none⟩ = some (.int .i64 t_x.ac) ∧ u.cell? ⟨u2.heap.size, 3, none⟩ = some (.int .i64 t_x.cl) ∧ u.cell? ⟨u1.heap.size, 0, none⟩ = some (.slice t_s.pa t_s.pn t_s.pcap) ∧ u.cell? ⟨u1.heap.size, 1, none⟩ = some (.slice t_s.sa t_s.sn t_s.scap) ∧ u.cell? ⟨u1.heap.size, 2, none⟩ = some (.int .i64 t_s.ac) ∧ u.cell? ⟨u1.heap.size, 3, none⟩ = some (.int .i64 t_s.cl) ∧ u.cell? ⟨u1.heap.size + 1, 0, none⟩ = some (.int .i64 p.id) ∧ u.cell? ⟨u1.heap.size + 1, 1, none⟩ = some (.int .i64 p.ow) ∧ u.cell? ⟨u1.heap.size + 1, 2, none⟩ = some (.int .i64 p.si) ∧ u.cell? ⟨u1.heap.size + 1, 3, none⟩ = some (.int .i64 p.zo) ∧ u.cell? ⟨u1.heap.size + 1, 4, none⟩ = some (.int .i64 p.st) ∧ u.cell? ⟨u1.heap.size + 1, 5, none⟩ = some (.int .i64 p.po) ∧ u.cell? ⟨u1.heap.size + 1, 6, none⟩ = some (.int .i64 p.to) ∧ u.cell? ⟨u1.heap.size + 1, 7, none⟩ = some (.int .i64 p.tr) ∧ u.cell? ⟨u1.heap.size + 1, 8, none⟩ = some (.int .i64 p.pl) ∧ u.cell? ⟨u1.heap.size + 1, 9, none⟩ = some (.int .i64 p.mi) ∧ u.cell? ⟨u1.heap.size + 1, 10, none⟩ = some (.int .i64 p.ma) ∧ u.cell? ⟨u1.heap.size + 1, 11, none⟩ = some (.bool p.de) ∧ u.cell? ⟨u1.heap.size + 1, 12, none⟩ = some (.bool p.be) ∧ u.cell? ⟨u6.heap.size, 0, none⟩ = some (.slice t_t.pa t_t.pn t_t.pcap) ∧ u.cell? ⟨u6.heap.size, 1, none⟩ = some (.slice t_t.sa t_t.sn t_t.scap) ∧ u.cell? ⟨u6.heap.size, 2, none⟩ = some (.int .i64 t_t.ac) ∧ u.cell? ⟨u6.heap.size, 3, none⟩ = some (.int .i64 t_t.cl) ∧ u.cell? ⟨t_x.pb, k * 13, none⟩ = some (.int .i64 p.id) ∧ u.cell? ⟨t_x.pb, k * 13 + 1, none⟩ = some (.int .i64 p.ow) ∧ u.cell? ⟨t_x.pb, k * 13 + 2, none⟩ = some (.int .i64 p.si) ∧ u.cell? ⟨t_x.pb, k * 13 + 3, none⟩ = some (.int .i64 p.zo) ∧ u.cell? ⟨t_x.pb, k * 13 + 4, none⟩ = some (.int .i64 p.st) ∧ u.cell? ⟨t_x.pb, k * 13 + 5, none⟩ = some (.int .i64 p.po) ∧ u.cell? ⟨t_x.pb, k * 13 + 6, none⟩ = some (.int .i64 p.to) ∧ u.cell? ⟨t_x.pb, k * 13 + 7, none⟩ = some (.int .i64 p.tr) ∧ u.cell? ⟨t_x.pb, k * 13 + 8, none⟩ = some (.int .i64 p.pl) ∧ u.cell? ⟨t_x.pb, k * 13 + 9, none⟩ = some (.int .i64 p.mi) ∧ u.cell? ⟨t_x.pb, k * 13 + 10, none⟩ = some (.int .i64 p.ma) ∧ u.cell? ⟨t_x.pb, k * 13 + 11, none⟩ = some (.bool p.de) ∧ u.cell? ⟨t_x.pb, k * 13 + 12, none⟩ = some (.bool p.be)) (first | assumption | exact SK.out _ hq4 | exact SK.out _ hq3 | exact SK.out _ hq2 | exact SK.out _ hq1 | exact SK.out _ hD) (first | (go_at_call 65; refine (specSetPiece_any t_s p _ (oS.out _ hD).1 F_s (by omega) (by omega)).mono ?_; rintro e v1 ⟨t_w, rfl, hb1, o_w, e_w, _⟩; have hq1 := below_app hD hb1 hD.size; have w_w : wfS t_w := (w_s.set wfp).like e_w; have n_w : t_w.pn ≤ 12 := (by rw [e_w.pn]; show spN t_s p ≤ 12; omega); have m_w : t_w.sn ≤ 3 := (by rw [e_w.sn]; show t_s.sn ≤ 3; omega)) | (go_at_call 52; refine (SMX.out _ t_w (oS.out _ hq1).2.1 (w_w.ok o_w) n_w m_w (smS_alike e_x e_w)).mono ?_; rintro e v2 ⟨rfl, hb2⟩; have hq2 := below_app hq1 hb2 hq1.size) | (go_at_call 63; refine (implPieceAt_any t_t id _ (oS.out _ hq2).2.2 (by omega)).mono ?_; rintro e v3 ⟨rfl, hb3⟩; have hq3 := below_app hq2 hb3 hq2.size) | (go_at_call 66; refine (specPieceAt_any t_t id _ (oS.out _ hq3).2.2 (by omega)).mono ?_; rintro e v4 ⟨rfl, hb4⟩; have hq4 := below_app hq3 hb4 hq3.size))
    all_goals
      have hb := hq4
      replace o_s := o_s.grew hb
      replace o_x := o_x.grew hb
      replace o_t := o_t.grew hb
      replace b_s := b_s.grew hb
      replace b_p := b_p.grew hb
      replace b_x := b_x.grew hb
      replace b_t := b_t.grew hb
      replace hB := below_app hB hb hB.size
      clear hb
      clear hxa SMX SK oS heq hD hb1 hb2 hb3 hb4 hq1 hq2 hq3 o_w w_w e_w y1 y2 y3 y4
      rcases hlen.out with ⟨hi, hl⟩ | ⟨hi, hl⟩
      · subst hi
        have HL : Hid (t_x.pn = t_s.pn + 1) := hl
        clear hl hlen
        have c_x_0 : v4.cell? ⟨u2.heap.size, 0, none⟩ = some (.slice t_x.pa t_x.pn t_x.pcap) := b_x.cell 0
        have c_x_1 : v4.cell? ⟨u2.heap.size, 1, none⟩ = some (.slice t_x.sa t_x.sn t_x.scap) := b_x.cell 1
        have c_x_2 : v4.cell? ⟨u2.heap.size, 2, none⟩ = some (.int .i64 t_x.ac) := b_x.cell 2
        have c_x_3 : v4.cell? ⟨u2.heap.size, 3, none⟩ = some (.int .i64 t_x.cl) := b_x.cell 3
        have c_s_0 : v4.cell? ⟨u1.heap.size, 0, none⟩ = some (.slice t_s.pa t_s.pn t_s.pcap) := b_s.cell 0
        have c_s_1 : v4.cell? ⟨u1.heap.size, 1, none⟩ = some (.slice t_s.sa t_s.sn t_s.scap) := b_s.cell 1
        have c_s_2 : v4.cell? ⟨u1.heap.size, 2, none⟩ = some (.int .i64 t_s.ac) := b_s.cell 2
        have c_s_3 : v4.cell? ⟨u1.heap.size, 3, none⟩ = some (.int .i64 t_s.cl) := b_s.cell 3
        have e9 : (t_x.pn : Int) = (t_s.pn : Int) + 1 := by rw [HL.out]; push_cast; rfl
        have e8 : (t_s.pn : Int) + 1 = (t_x.pn : Int) := e9.symm
        clear e9
        go_wp2
        go_ret
        exact ⟨rfl, hB⟩
      · subst hi
        have HL : Hid (t_x.pn = t_s.pn) := hl
        have hks : k < t_s.pn := by omega
        clear hl hlen
        have hsa : t_s.pa = some ⟨t_s.pb, 0, none⟩ := F_s.1
        have rS := o_s.p.rd
        have HBK : Hid (∀ t, Alike t (spS t_x (t_s.ps k)) → smS t t_s = true) := fun t ht => by rw [alike_smS ht (Alike.refl t_s)]; exact set_back e_x HI.out
        have wq : (t_s.ps k).wf := w_s.ps k hks
        generalize hq : t_s.ps k = q at HBK wq
        have A13 : At13 v4 t_s.pb (k * 13) q := by
          rcases rS with h0 | ⟨o1, he, hr⟩
          · omega
          · rw [hsa] at he
            simp only [Option.some.injEq, Addr.mk.injEq, and_true, true_and] at he
            subst he
            have := At13_of (hr k hks)
            rwa [Nat.zero_add, hq] at this
        have d_s : v4.cell? ⟨u1.heap.size, 0, none⟩ = some (.slice (some ⟨t_s.pb, 0, none⟩) t_s.pn t_s.pcap) := by have := b_s.cell 0; rw [hsa] at this; exact this
        obtain ⟨r0, r1, r2, r3, r4, r5, r6, r7, r8, r9, r10, r11, r12⟩ := A13
        have SU : v4.cell? ⟨u2.heap.size, 0, none⟩ = some (.slice t_x.pa t_x.pn t_x.pcap) ∧ v4.cell? ⟨u2.heap.size, 1, none⟩ = some (.slice t_x.sa t_x.sn t_x.scap) ∧ v4.cell? ⟨u2.heap.size, 2, none⟩ = some (.int .i64 t_x.ac) ∧ v4.cell? ⟨u2.heap.size, 3, none⟩ = some (.int .i64 t_x.cl) ∧ v4.cell? ⟨u1.heap.size, 0, none⟩ = some (.slice (some ⟨t_s.pb, 0, none⟩) t_s.pn t_s.pcap) ∧ v4.cell? ⟨u1.heap.size, 1, none⟩ = some (.slice t_s.sa t_s.sn t_s.scap) ∧ v4.cell? ⟨u1.heap.size, 2, none⟩ = some (.int .i64 t_s.ac) ∧ v4.cell? ⟨u1.heap.size, 3, none⟩ = some (.int .i64 t_s.cl) ∧ v4.cell? ⟨t_s.pb, k * 13, none⟩ = some (.int .i64 q.id) ∧ v4.cell? ⟨t_s.pb, k * 13 + 1, none⟩ = some (.int .i64 q.ow) ∧ v4.cell? ⟨t_s.pb, k * 13 + 2, none⟩ = some (.int .i64 q.si) ∧ v4.cell? ⟨t_s.pb, k * 13 + 3, none⟩ = some (.int .i64 q.zo) ∧ v4.cell? ⟨t_s.pb, k * 13 + 4, none⟩ = some (.int .i64 q.st) ∧ v4.cell? ⟨t_s.pb, k * 13 + 5, none⟩ = some (.int .i64 q.po) ∧ v4.cell? ⟨t_s.pb, k * 13 + 6, none⟩ = some (.int .i64 q.to) ∧ v4.cell? ⟨t_s.pb, k * 13 + 7, none⟩ = some (.int .i64 q.tr) ∧ v4.cell? ⟨t_s.pb, k * 13 + 8, none⟩ = some (.int .i64 q.pl) ∧ v4.cell? ⟨t_s.pb, k * 13 + 9, none⟩ = some (.int .i64 q.mi) ∧ v4.cell? ⟨t_s.pb, k * 13 + 10, none⟩ = some (.int .i64 q.ma) ∧ v4.cell? ⟨t_s.pb, k * 13 + 11, none⟩ = some (.bool q.de) ∧ v4.cell? ⟨t_s.pb, k * 13 + 12, none⟩ = some (.bool q.be) := ⟨b_x.cell 0, b_x.cell 1, b_x.cell 2, b_x.cell 3, d_s, b_s.cell 1, b_s.cell 2, b_s.cell 3, r0, r1, r2, r3, r4, r5, r6, r7, r8, r9, r10, r11, r12⟩
        have SK : Hid (∀ u : World, Below v4.heap.size v4 u → u.cell? ⟨u2.heap.size, 0, none⟩ = some (.slice t_x.pa t_x.pn t_x.pcap) ∧ u.cell? ⟨u2.heap.size, 1, none⟩ = some (.slice t_x.sa t_x.sn t_x.scap) ∧ u.cell? ⟨u2.heap.size, 2, none⟩ = some (.int .i64 t_x.ac) ∧ u.cell? ⟨u2.heap.size, 3, none⟩ = some (.int .i64 t_x.cl) ∧ u.cell? ⟨u1.heap.size, 0, none⟩ = some (.slice (some ⟨t_s.pb, 0, none⟩) t_s.pn t_s.pcap) ∧ u.cell? ⟨u1.heap.size, 1, none⟩ = some (.slice t_s.sa t_s.sn t_s.scap) ∧ u.cell? ⟨u1.heap.size, 2, none⟩ = some (.int .i64 t_s.ac) ∧ u.cell? ⟨u1.heap.size, 3, none⟩ = some (.int .i64 t_s.cl) ∧ u.cell? ⟨t_s.pb, k * 13, none⟩ = some (.int .i64 q.id) ∧ u.cell? ⟨t_s.pb, k * 13 + 1, none⟩ = some (.int .i64 q.ow) ∧ u.cell? ⟨t_s.pb, k * 13 + 2, none⟩ = some (.int .i64 q.si) ∧ u.cell? ⟨t_s.pb, k * 13 + 3, none⟩ = some (.int .i64 q.zo) ∧ u.cell? ⟨t_s.pb, k * 13 + 4, none⟩ = some (.int .i64 q.st) ∧ u.cell? ⟨t_s.pb, k * 13 + 5, none⟩ = some (.int .i64 q.po) ∧ u.cell? ⟨t_s.pb, k * 13 + 6, none⟩ = some (.int .i64 q.to) ∧ u.cell? ⟨t_s.pb, k * 13 + 7, none⟩ = some (.int .i64 q.tr) ∧ u.cell? ⟨t_s.pb, k * 13 + 8, none⟩ = some (.int .i64 q.pl) ∧ u.cell? ⟨t_s.pb, k * 13 + 9, none⟩ = some (.int .i64 q.mi) ∧ u.cell? ⟨t_s.pb, k * 13 + 10, none⟩ = some (.int .i64 q.ma) ∧ u.cell? ⟨t_s.pb, k * 13 + 11, none⟩ = some (.bool q.de) ∧ u.cell? ⟨t_s.pb, k * 13 + 12, none⟩ = some (.bool q.be)) := fun u hu => by
          obtain ⟨f0, f1, f2, f3, f4, f5, f6, f7, f8, f9, f10, f11, f12, f13, f14, f15, f16, f17, f18, f19, f20⟩ := SU
          exact ⟨(hu.cell (World.block_lt_of_cell? _ _ f0)).trans f0, (hu.cell (World.block_lt_of_cell? _ _ f1)).trans f1, (hu.cell (World.block_lt_of_cell? _ _ f2)).trans f2, (hu.cell (World.block_lt_of_cell? _ _ f3)).trans f3, (hu.cell (World.block_lt_of_cell? _ _ f4)).trans f4, (hu.cell (World.block_lt_of_cell? _ _ f5)).trans f5, (hu.cell (World.block_lt_of_cell? _ _ f6)).trans f6, (hu.cell (World.block_lt_of_cell? _ _ f7)).trans f7, (hu.cell (World.block_lt_of_cell? _ _ f8)).trans f8, (hu.cell (World.block_lt_of_cell? _ _ f9)).trans f9, (hu.cell (World.block_lt_of_cell? _ _ f10)).trans f10, (hu.cell (World.block_lt_of_cell? _ _ f11)).trans f11, (hu.cell (World.block_lt_of_cell? _ _ f12)).trans f12, (hu.cell (World.block_lt_of_cell? _ _ f13)).trans f13, (hu.cell (World.block_lt_of_cell? _ _ f14)).trans f14, (hu.cell (World.block_lt_of_cell? _ _ f15)).trans f15, (hu.cell (World.block_lt_of_cell? _ _ f16)).trans f16, (hu.cell (World.block_lt_of_cell? _ _ f17)).trans f17, (hu.cell (World.block_lt_of_cell? _ _ f18)).trans f18, (hu.cell (World.block_lt_of_cell? _ _ f19)).trans f19, (hu.cell (World.block_lt_of_cell? _ _ f20)).trans f20⟩
        clear SU d_s rS hq r0 r1 r2 r3 r4 r5 r6 r7 r8 r9 r10 r11 r12
        have hD : Below v4.heap.size v4 v4.drew := (Below.refl _ v4).drew
        have oS : Hid (∀ u : World, Below v4.heap.size v4 u → t_s.ok u ∧ t_x.ok u) := fun u hu => ⟨w_s.ok (o_s.grew hu), w_x.ok (o_x.grew hu)⟩
        have SMS : Hid (∀ (u : World) (t : Stt), t.ok u → t_s.ok u → t.pn ≤ 13 → t.sn ≤ 3 → smS t t_s = true → Calls Try.prog 52 #[(.agg #[.slice t.pa t.pn t.pcap, .slice t.sa t.sn t.scap, .int .i64 t.ac, .int .i64 t.cl]), (.agg #[.slice (some ⟨t_s.pb, 0, none⟩) t_s.pn t_s.pcap, .slice t_s.sa t_s.sn t_s.scap, .int .i64 t_s.ac, .int .i64 t_s.cl])] u fun e w' => e = .returned (.bool true) ∧ Below u.heap.size u w') := fun u t h1 h2 h3 h4 h5 => by have := implSameState_as' (b := true) h1 h2 (by omega) (by omega) (by omega) (by omega) h5; rw [hsa] at this; exact this
        have y1 : (0 : Int) ≤ (k : Int) := by omega
        have y2 : (k : Int) < (t_s.pn : Int) := by omega
        have y3 : ¬ ((k : Int) < 0) := by omega
        have y4 : ¬ ((t_s.pn : Int) ≤ (k : Int)) := by omega
        have w_y : wfS (spS t_x q) := w_x.set wq
        have spy := spN_le' t_x q
        go_wp2_with fail
        go_region_held_law (fun u : World => u.cell? ⟨u2.heap.size, 0, none⟩ = some (.slice t_x.pa t_x.pn t_x.pcap) ∧ u.cell? ⟨u2.heap.size, 1, none⟩ = some (.slice t_x.sa t_x.sn t_x.scap) ∧ u.cell? ⟨u2.heap.size, 2, none⟩ = some (.int .i64 t_x.ac) ∧ u.cell? ⟨u2.heap.size, 3, none⟩ = some (.int .i64 t_x.cl) ∧ u.cell? ⟨u1.heap.size, 0, none⟩ = some (.slice (some ⟨t_s.pb, 0, none⟩) t_s.pn t_s.pcap) ∧ u.cell? ⟨u1.heap.size, 1, none⟩ = some (.slice t_s.sa t_s.sn t_s.scap) ∧ u.cell? ⟨u1.heap.size, 2, none⟩ = some (.int .i64 t_s.ac) ∧ u.cell? ⟨u1.heap.size, 3, none⟩ = some (.int .i64 t_s.cl) ∧ u.cell? ⟨t_s.pb, k * 13, none⟩ = some (.int .i64 q.id) ∧ u.cell? ⟨t_s.pb, k * 13 + 1, none⟩ = some (.int .i64 q.ow) ∧ u.cell? ⟨t_s.pb, k * 13 + 2, none⟩ = some (.int .i64 q.si) ∧ u.cell? ⟨t_s.pb, k * 13 + 3, none⟩ = some (.int .i64 q.zo) ∧ u.cell? ⟨t_s.pb, k * 13 + 4, none⟩ = some (.int .i64 q.st) ∧ u.cell? ⟨t_s.pb, k * 13 + 5, none⟩ = some (.int .i64 q.po) ∧ u.cell? ⟨t_s.pb, k * 13 + 6, none⟩ = some (.int .i64 q.to) ∧ u.cell? ⟨t_s.pb, k * 13 + 7, none⟩ = some (.int .i64 q.tr) ∧ u.cell? ⟨t_s.pb, k * 13 + 8, none⟩ = some (.int .i64 q.pl) ∧ u.cell? ⟨t_s.pb, k * 13 + 9, none⟩ = some (.int .i64 q.mi) ∧ u.cell? ⟨t_s.pb, k * 13 + 10, none⟩ = some (.int .i64 q.ma) ∧ u.cell? ⟨t_s.pb, k * 13 + 11, none⟩ = some (.bool q.de) ∧ u.cell? ⟨t_s.pb, k * 13 + 12, none⟩ = some (.bool q.be)) (first | assumption | exact SK.out _ hz2 | exact SK.out _ hz1 | exact SK.out _ hD) (first | (go_at_call 62; refine (implSetPiece_any t_x q _ (oS.out _ hD).2 F_x (by omega) (by omega)).mono ?_; rintro e z1 ⟨t_y, rfl, hb1, o_y, e_y, _⟩; have hz1 := below_app hD hb1 hD.size; have n_y : t_y.pn ≤ 13 := (by rw [e_y.pn]; show spN t_x q ≤ 13; omega); have m_y : t_y.sn ≤ 3 := (by rw [e_y.sn]; show t_x.sn ≤ 3; omega)) | (go_at_call 52; refine (SMS.out _ t_y ((w_y.like e_y).ok o_y) (oS.out _ hz1).1 n_y m_y (HBK.out _ e_y)).mono ?_; rintro e z2 ⟨rfl, hb2⟩; have hz2 := below_app hz1 hb2 hz1.size))
        all_goals
          have hb := hz2
          replace hB := below_app hB hb hB.size
          go_wp2
          go_ret
          exact ⟨rfl, hB⟩

set_option maxRecDepth 100000 in
theorem lifted (os : Os) (started : os.Started) (H : Type) (enc : TypeId × Value → H) :
    ReturnsInHanded {} Try.checked os 8 .any (Rows.fnSetPiecesSpec.pre6 enc Try.prog Try.f8 Rows.fnSetPiecesRow.domain false) (Rows.fnSetPiecesSpec.post enc Try.prog Try.f8 false true false false) := by
  refine returnsInHanded_of_change (C := Try.checked) own started (by kernel_rfl) Try.func8
    (ChangeSpec.witness6 (enc := enc) (C := Try.checked) false ⟨#[], #[.slice none 0 0], []⟩ 8 (by kernel_rfl) (by kernel_rfl) (by kernel_rfl) (by kernel_rfl)) ?_
  intro W base args ds gs before hval0 hW hcnd _
  have hval : ∀ (j : Nat) t v, Try.f8.params[j]? = some t → args[j]? = some v → Value.okWide Try.prog W .any base t v := hval0
  have hW' := hW
  obtain ⟨p, q, hA0, hV, rfl, hfz, hnd⟩ := hW
  have hA : DataW.TrodAll enc Try.prog W 0 (fun _ => true) true Try.f8.params.toList args.toList ds p := hA0
  rw [Try.params8] at hA hval
  obtain ⟨v0, vs0, d0, ds0, p0, q0, hargs, rfl, rfl, h0, r0⟩ := trodAll_cons hA
  obtain ⟨rfl, rfl, rfl⟩ := trodAll_nil r0
  obtain rfl : args = #[v0] := by cases args; simp_all
  obtain ⟨rfl, rfl⟩ := trodVars_none hV
  obtain ⟨a0, len0, cap0, rfl⟩ := okWide_slice Try.underlying22 (hval 0 22 v0 rfl rfl)
  have k0 := h0
  have lt0 : ∀ x ∈ p0, x.block < W.heap.size := by obtain ⟨m, hm⟩ := k0; exact DataW.trod_lt m _ _ _ hm
  obtain ⟨z0, w0⟩ : ∃ zs, IsRow .u8 W a0 len0 cap0 zs := by
    obtain ⟨fuel, hf⟩ := h0
    rcases open_ints Try.underlying22 Try.underlying5 (by kernel_rfl) hf with ⟨hcs, _⟩ | ⟨x, l, c, zs, hcs, _, hl, hm, hz, _, hcell, hwz⟩
    · simp [Value.cells] at hcs
      obtain ⟨rfl, rfl, rfl⟩ := hcs
      exact ⟨[], .inl ⟨rfl, rfl, rfl, rfl⟩⟩
    · simp [Value.cells] at hcs
      obtain ⟨rfl, rfl, rfl⟩ := hcs
      exact ⟨zs, .inr ⟨_, rfl, hl, hm, by simpa using hz, hcell, hwz⟩⟩
  clear hA0 hval0
  refine (walk a0 len0 cap0 z0 W w0).mono fun e W' ⟨he, bel⟩ => ?_
  subst he
  exact ⟨_, rfl, _, _, _, [], _, [], hW', trodAll_mk1 (shut_bool Try.underlying4 _), (trodAll_cons_mk (Below.trod laidOut (by kernel_rfl) (of_decide_eq_true (by kernel_rfl)) k0 bel lt0) trodAll_mk0), rfl, bel.frame _, fun h => by cases h⟩

theorem over : Rows.fnSetPiecesRow.holds Try.pinned (OpenSpec.ofChange Rows.fnSetPiecesSpec) :=
  OpenClaim.holds_of_wide 8 Try.f8 rfl rfl rfl rfl rfl rfl rfl ⟨rfl, rfl, rfl, rfl, rfl⟩ rfl rfl rfl rfl rfl (by kernel_rfl) Try.func8 (by kernel_rfl)
    (of_decide_eq_true (by kernel_rfl)) (by unfold Func.isWrapper; first | (rw [if_pos (by decide +kernel)]; kernel_rfl) | (rw [if_neg (by decide +kernel)]; exact ⟨rfl, rfl⟩))
    (fun os started H enc _ => lifted os started H enc)

theorem proved : Rows.FnSetPiecesSaid := over
#print axioms proved
end Go.Proofs.Ytnlnledijpcjpab.fnSetPieces
