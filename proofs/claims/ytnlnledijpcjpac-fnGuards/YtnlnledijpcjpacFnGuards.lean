/-
  What is proved: at every code (every slice of bytes, of whatever length), the law FnGuards answers true: of drawn guards the program says which may be asked, what holds of a side, how many of its pieces are bent, and which is stronger as the specification has it; what is stronger than another holds nowhere that the other does not hold; no condition.
-/
import Derived.Test.YtnlnledijpcjpacRows
import Derived.Test.YtnlnledijpcjpacCur
import Derived.Test.YtnlnledijpcjpacPiece
import Derived.Test.YtnlnledijpcjpacRow
import Derived.Test.YtnlnledijpcjpacPiece2
import Derived.Test.YtnlnledijpcjpacRowLaw
import Derived.Test.YtnlnledijpcjpacEvA
import Derived.Test.YtnlnledijpcjpacStaA
import Derived.Test.YtnlnledijpcjpacRegs
import Derived.Test.YtnlnledijpcjpacNum
import Derived.Test.YtnlnledijpcjpacPiece3
import Derived.Test.YtnlnledijpcjpacState4
import Derived.Test.YtnlnledijpcjpacState5
import Derived.Test.YtnlnledijpcjpacBytes
import Derived.Test.YtnlnledijpcjpacState8
import Derived.Test.YtnlnledijpcjpacStMark
import Derived.Test.YtnlnledijpcjpacPieceOk
import Derived.Test.YtnlnledijpcjpacState6
import Derived.Test.YtnlnledijpcjpacStHeld
import Derived.Test.YtnlnledijpcjpacStEq
import Derived.Test.YtnlnledijpcjpacStSame
import Derived.Test.YtnlnledijpcjpacStLaw
import Derived.Test.YtnlnledijpcjpacGuS
import Derived.Test.YtnlnledijpcjpacPaAC
import Derived.Test.YtnlnledijpcjpacPieceI1
import Derived.Test.YtnlnledijpcjpacEvC
import Derived.Test.YtnlnledijpcjpacPaI
import Derived.Test.YtnlnledijpcjpacGuE
import Derived.Test.YtnlnledijpcjpacStAt
import Derived.Test.YtnlnledijpcjpacStField
import Derived.Test.YtnlnledijpcjpacGuP
import Derived.Test.YtnlnledijpcjpacPiece4
import Derived.Test.YtnlnledijpcjpacBytes2
import Derived.Test.YtnlnledijpcjpacBytes3
import Derived.Test.YtnlnledijpcjpacPiece5
import Derived.Test.YtnlnledijpcjpacStRow
import Derived.Test.YtnlnledijpcjpacStNew
import Derived.Test.YtnlnledijpcjpacCurs
import Derived.Test.YtnlnledijpcjpacDrawB
import Derived.Test.YtnlnledijpcjpacDrawP
import Derived.Test.YtnlnledijpcjpacDrawT1
import Derived.Test.YtnlnledijpcjpacDrawT2
import Derived.Test.YtnlnledijpcjpacDrawT3
import Derived.Test.YtnlnledijpcjpacDrawL
import Derived.Test.YtnlnledijpcjpacDrawBend
import Derived.Test.YtnlnledijpcjpacState7
import Derived.Test.YtnlnledijpcjpacStPut
import Derived.Test.YtnlnledijpcjpacDrawT4
import Derived.Test.YtnlnledijpcjpacDrawT6
import Derived.Test.YtnlnledijpcjpacDrawG
import Derived.WalkKit
import Derived.BigGuardPart
import Derived.BigQuiet
import Derived.Deep.RegionWith
import Derived.ProofKit
import Derived.OpenShut
import Derived.ShutString
import Derived.ChangeOld
import Derived.Below
namespace Go.Proofs.Ytnlnledijpcjpac.fnGuards
open Go.ChangeShapes Go.WideShapes Go.ChangeAt Go.RowKit
open Go.ChangeMaps (open_string shut_string)
set_option linter.unusedVariables false

theorem own : ownKnob Try.prog.godebug = none := by kernel_rfl
theorem laidOut : laidOutB Try.prog = true := by kernel_rfl

/-- WHAT THE WALK IS TOLD OF A SLICE OF INTEGERS THAT CAME IN: it is nil; or it leads to a row of 'cap' cells, the numbers 'zs' (the first 'len' are its elements, the rest its spare room), each fitting its kind. -/
def IsRow (k : IntKind) (w : World) (a : Option Addr) (len cap : Nat) (zs : List Int) : Prop :=
  (a = none ∧ len = 0 ∧ cap = 0 ∧ zs = []) ∨
  ∃ x, a = some x ∧ len ≤ cap ∧ cap ≤ maxLen ∧ zs.length = cap ∧ (∀ i, i < zs.length → w.cell? (x.add i) = some (.int k (zs.getD i 0))) ∧ ∀ n ∈ zs, (Lit.int k n).wf = true

theorem srG_self (a : Gd) : srG a a = okGd a := by
  unfold srG
  cases okGd a <;> simp
theorem srG_holds {a b : Gd} {s : Stt} {side : Int} (h : srG a b = true) (k : hdG s side a = true) : hdG s side b = true := by
  unfold hdG at k ⊢
  unfold srG at h
  simp only [Bool.and_eq_true] at h k
  obtain ⟨⟨h1, h2⟩, h3⟩ := h
  obtain ⟨⟨_, k2⟩, k3⟩ := k
  rw [h2, k2]
  simp only [Bool.true_and]
  have hk := okGd_kd h2
  obtain ⟨ak, an⟩ := a
  obtain ⟨bk, bn⟩ := b
  dsimp only at h3 k3 hk ⊢
  unfold hdK at k3 ⊢
  dsimp only at k3 ⊢
  rcases hk with rfl | rfl | rfl | rfl | rfl
  · simp
  · simp at h3 k3 ⊢; obtain ⟨rfl, h3⟩ := h3; simp at h3 k3; omega
  · simp at h3 k3 ⊢; obtain ⟨rfl, h3⟩ := h3; simp at h3 k3; omega
  · simp at h3 k3 ⊢; obtain ⟨rfl, h3⟩ := h3; simp at h3 k3; exact k3
  · simp at h3 k3 ⊢; obtain ⟨rfl, h3⟩ := h3; simp at h3 k3; omega
theorem filter_le {α : Type} {p q : α → Bool} (h : ∀ x, p x = true → q x = true) (l : List α) : (l.filter p).length ≤ (l.filter q).length := by
  induction l with
  | nil => exact Nat.le_refl _
  | cons x l ih =>
    cases hp : p x
    · cases hq : q x
      · rw [List.filter_cons_of_neg (by simp [hp]), List.filter_cons_of_neg (by simp [hq])]; exact ih
      · rw [List.filter_cons_of_neg (by simp [hp]), List.filter_cons_of_pos hq, List.length_cons]; omega
    · rw [List.filter_cons_of_pos hp, List.filter_cons_of_pos (h x hp), List.length_cons, List.length_cons]; omega
theorem bn_le_of (t : Stt) (side : Int) : decide (bnG t side ≤ (ofL t.pn t.ps side).length) = true := by
  have : bnG t side ≤ (ofL t.pn t.ps side).length := by
    unfold bnG cnG ofL
    rw [List.length_map]
    refine filter_le (fun i hi => ?_) _
    unfold bnP at hi
    unfold ofP
    simp at hi ⊢
    exact ⟨hi.1.1, .inr hi.1.2⟩
  exact decide_eq_true this
set_option maxRecDepth 100000 in
set_option maxHeartbeats 4000000 in
theorem walk (a0 : Option Addr) (len0 cap0 : Nat) (z0 : List Int) (w : World) (w0 : IsRow .u8 w a0 len0 cap0 z0) :
    Calls Try.prog 5 #[.slice a0 len0 cap0] w fun e w' => e = .returned (.bool true) ∧ Below w.heap.size w w' := by
  have hc : Code w a0 len0 w.heap.size := code_of_row w0
  clear w0
  by_cases hbig : (1048576 : Int) < (len0 : Int)
  · go_enter Try.func5, Try.ntmps5
    go_wp2_with (go_at_call 6; refine (big_any _ _ _ _).mono ?_; rintro e w' ⟨rfl, rfl⟩)
    go_ret
    exact ⟨rfl, Below.refl _ _⟩
  · go_enter Try.func5, Try.ntmps5
    try simp only [List.append_eq, List.cons_append, List.nil_append]
    go_wp2_with fail
    refine (big_any _ _ _ _).mono ?_
    rintro e w' ⟨rfl, rfl⟩
    have hB := Below.refl w'.heap.size w'
    go_wp2_with fail
    refine (drawHolds_any _ _ _ _ ((hc.below hB).mono hB.size (Nat.le_refl _))).mono ?_
    rintro e u1 ⟨t_s, side, g_g, h_s, hsd, rfl, hb, o_s, _⟩
    replace hB := below_app hB hb hB.size
    clear hb
    have n_s := h_s.pn
    have m_s := h_s.sn
    have x4 := (boxR_new u1 27 #[.slice none 0 0, .slice none 0 0, .int .i64 0, .int .i64 0]).alloc (.cells #[.int .i64 0, .int .i64 0] 42)
    have x5 : BoxR ((u1.alloc (.cells #[.slice none 0 0, .slice none 0 0, .int .i64 0, .int .i64 0] 27)).alloc (.cells #[.int .i64 0, .int .i64 0] 42)) (u1.heap.size + 1) 42 #[.int .i64 0, .int .i64 0] := heap_alloc2_new _ _ _
    have hbA := ((Below.refl _ u1).alloc (Nat.le_refl _) (.cells #[.slice none 0 0, .slice none 0 0, .int .i64 0, .int .i64 0] 27)).alloc (by simp) (.cells #[.int .i64 0, .int .i64 0] 42)
    generalize hWA : (u1.alloc (.cells #[.slice none 0 0, .slice none 0 0, .int .i64 0, .int .i64 0] 27)).alloc (.cells #[.int .i64 0, .int .i64 0] 42) = WA at x4 x5 hbA
    have y4 : BoxR (WA.setRow u1.heap.size #[.slice t_s.pa t_s.pn t_s.pcap, .slice t_s.sa t_s.sn t_s.scap, .int .i64 t_s.ac, .int .i64 t_s.cl]) u1.heap.size 27 #[.slice t_s.pa t_s.pn t_s.pcap, .slice t_s.sa t_s.sn t_s.scap, .int .i64 t_s.ac, .int .i64 t_s.cl] := setRow_heap _ _ _ _ _ _ x4
    have y5 : BoxR (WA.setRow u1.heap.size #[.slice t_s.pa t_s.pn t_s.pcap, .slice t_s.sa t_s.sn t_s.scap, .int .i64 t_s.ac, .int .i64 t_s.cl]) (u1.heap.size + 1) 42 #[.int .i64 0, .int .i64 0] := x5.oldRow (by omega)
    have b_s : BoxR ((WA.setRow u1.heap.size #[.slice t_s.pa t_s.pn t_s.pcap, .slice t_s.sa t_s.sn t_s.scap, .int .i64 t_s.ac, .int .i64 t_s.cl]).setRow (u1.heap.size + 1) #[.int .i64 g_g.kd, .int .i64 g_g.nn]) u1.heap.size 27 #[.slice t_s.pa t_s.pn t_s.pcap, .slice t_s.sa t_s.sn t_s.scap, .int .i64 t_s.ac, .int .i64 t_s.cl] := y4.oldRow (by omega)
    have b_g : BoxR ((WA.setRow u1.heap.size #[.slice t_s.pa t_s.pn t_s.pcap, .slice t_s.sa t_s.sn t_s.scap, .int .i64 t_s.ac, .int .i64 t_s.cl]).setRow (u1.heap.size + 1) #[.int .i64 g_g.kd, .int .i64 g_g.nn]) (u1.heap.size + 1) 42 #[.int .i64 g_g.kd, .int .i64 g_g.nn] := setRow_heap _ _ _ _ _ _ y5
    have hb := below_setRow (below_setRow hbA (Nat.le_refl u1.heap.size) #[.slice t_s.pa t_s.pn t_s.pcap, .slice t_s.sa t_s.sn t_s.scap, .int .i64 t_s.ac, .int .i64 t_s.cl]) (by omega : u1.heap.size ≤ u1.heap.size + 1) #[.int .i64 g_g.kd, .int .i64 g_g.nn]
    generalize hU0 : (WA.setRow u1.heap.size #[.slice t_s.pa t_s.pn t_s.pcap, .slice t_s.sa t_s.sn t_s.scap, .int .i64 t_s.ac, .int .i64 t_s.cl]).setRow (u1.heap.size + 1) #[.int .i64 g_g.kd, .int .i64 g_g.nn] = U1 at b_s b_g hb
    replace o_s := o_s.grew hb
    replace hB := below_app hB hb hB.size
    clear hb
    go_wp2_with first | (refine wpList_store_row rfl 27 (.tmp 3) _ rfl u1.heap.size #[.slice t_s.pa t_s.pn t_s.pcap, .slice t_s.sa t_s.sn t_s.scap, .int .i64 t_s.ac, .int .i64 t_s.cl] (by rfl) (by rfl) _ _ x4 (by kernel_rfl) (by rfl) (by simp [Value.oneCell']) ?_) | (refine wpList_store_row rfl 42 (.tmp 5) _ rfl (u1.heap.size + 1) #[.int .i64 g_g.kd, .int .i64 g_g.nn] (by rfl) (by rfl) _ _ y5 (by kernel_rfl) (by rfl) (by simp [Value.oneCell']) ?_; rw [hU0])
    clear x4 x5 y4 y5 hU0 hWA hbA
    refine (drawStronger_any _ _ _ _ ((hc.below hB).mono hB.size (Nat.le_refl _))).mono ?_
    rintro e u2 ⟨g_a, g_b, rfl, hb⟩
    replace b_s := b_s.grew hb
    replace b_g := b_g.grew hb
    replace o_s := o_s.grew hb
    replace hB := below_app hB hb hB.size
    clear hb
    have x4 := (boxR_new u2 42 #[.int .i64 0, .int .i64 0]).alloc (.cells #[.int .i64 0, .int .i64 0] 42)
    have x5 : BoxR ((u2.alloc (.cells #[.int .i64 0, .int .i64 0] 42)).alloc (.cells #[.int .i64 0, .int .i64 0] 42)) (u2.heap.size + 1) 42 #[.int .i64 0, .int .i64 0] := heap_alloc2_new _ _ _
    have hbA := ((Below.refl _ u2).alloc (Nat.le_refl _) (.cells #[.int .i64 0, .int .i64 0] 42)).alloc (by simp) (.cells #[.int .i64 0, .int .i64 0] 42)
    generalize hWA : (u2.alloc (.cells #[.int .i64 0, .int .i64 0] 42)).alloc (.cells #[.int .i64 0, .int .i64 0] 42) = WA at x4 x5 hbA
    have y4 : BoxR (WA.setRow u2.heap.size #[.int .i64 g_a.kd, .int .i64 g_a.nn]) u2.heap.size 42 #[.int .i64 g_a.kd, .int .i64 g_a.nn] := setRow_heap _ _ _ _ _ _ x4
    have y5 : BoxR (WA.setRow u2.heap.size #[.int .i64 g_a.kd, .int .i64 g_a.nn]) (u2.heap.size + 1) 42 #[.int .i64 0, .int .i64 0] := x5.oldRow (by omega)
    have b_a : BoxR ((WA.setRow u2.heap.size #[.int .i64 g_a.kd, .int .i64 g_a.nn]).setRow (u2.heap.size + 1) #[.int .i64 g_b.kd, .int .i64 g_b.nn]) u2.heap.size 42 #[.int .i64 g_a.kd, .int .i64 g_a.nn] := y4.oldRow (by omega)
    have b_b : BoxR ((WA.setRow u2.heap.size #[.int .i64 g_a.kd, .int .i64 g_a.nn]).setRow (u2.heap.size + 1) #[.int .i64 g_b.kd, .int .i64 g_b.nn]) (u2.heap.size + 1) 42 #[.int .i64 g_b.kd, .int .i64 g_b.nn] := setRow_heap _ _ _ _ _ _ y5
    have hb := below_setRow (below_setRow hbA (Nat.le_refl u2.heap.size) #[.int .i64 g_a.kd, .int .i64 g_a.nn]) (by omega : u2.heap.size ≤ u2.heap.size + 1) #[.int .i64 g_b.kd, .int .i64 g_b.nn]
    generalize hU0 : (WA.setRow u2.heap.size #[.int .i64 g_a.kd, .int .i64 g_a.nn]).setRow (u2.heap.size + 1) #[.int .i64 g_b.kd, .int .i64 g_b.nn] = U2 at b_a b_b hb
    replace b_s := b_s.grew hb
    replace b_g := b_g.grew hb
    replace o_s := o_s.grew hb
    replace hB := below_app hB hb hB.size
    clear hb
    go_wp2_with first | (refine wpList_store_row rfl 42 (.tmp 6) _ rfl u2.heap.size #[.int .i64 g_a.kd, .int .i64 g_a.nn] (by rfl) (by rfl) _ _ x4 (by kernel_rfl) (by rfl) (by simp [Value.oneCell']) ?_) | (refine wpList_store_row rfl 42 (.tmp 7) _ rfl (u2.heap.size + 1) #[.int .i64 g_b.kd, .int .i64 g_b.nn] (by rfl) (by rfl) _ _ y5 (by kernel_rfl) (by rfl) (by simp [Value.oneCell']) ?_; rw [hU0])
    clear x4 x5 y4 y5 hU0 hWA hbA
    refine (drawBentOf_any _ _ _ _ ((hc.below hB).mono hB.size (Nat.le_refl _))).mono ?_
    rintro e u3 ⟨t_t, k, h_t, hkk, rfl, hb, o_t, _⟩
    replace b_s := b_s.grew hb
    replace b_g := b_g.grew hb
    replace b_a := b_a.grew hb
    replace b_b := b_b.grew hb
    replace o_s := o_s.grew hb
    replace hB := below_app hB hb hB.size
    clear hb
    have n_t := h_t.pn
    have m_t := h_t.sn
    have hb := below_new2'' u3 (.cells #[.slice t_t.pa t_t.pn t_t.pcap, .slice t_t.sa t_t.sn t_t.scap, .int .i64 t_t.ac, .int .i64 t_t.cl] 27)
    have b_t := boxR_new u3 27 #[.slice t_t.pa t_t.pn t_t.pcap, .slice t_t.sa t_t.sn t_t.scap, .int .i64 t_t.ac, .int .i64 t_t.cl]
    generalize hV : u3.alloc (.cells #[.slice t_t.pa t_t.pn t_t.pcap, .slice t_t.sa t_t.sn t_t.scap, .int .i64 t_t.ac, .int .i64 t_t.cl] 27) = U3 at hb b_t
    replace b_s := b_s.grew hb
    replace b_g := b_g.grew hb
    replace b_a := b_a.grew hb
    replace b_b := b_b.grew hb
    replace o_s := o_s.grew hb
    replace o_t := o_t.grew hb
    replace hB := below_app hB hb hB.size
    clear hb
    have c_a_0 : U3.cell? ⟨u2.heap.size, 0, none⟩ = some (.int .i64 g_a.kd) := b_a.cell 0
    have c_a_1 : U3.cell? ⟨u2.heap.size, 1, none⟩ = some (.int .i64 g_a.nn) := b_a.cell 1
    have c_b_0 : U3.cell? ⟨u2.heap.size + 1, 0, none⟩ = some (.int .i64 g_b.kd) := b_b.cell 0
    have c_b_1 : U3.cell? ⟨u2.heap.size + 1, 1, none⟩ = some (.int .i64 g_b.nn) := b_b.cell 1
    go_wp2_with fail
    refine (implStronger_any g_a g_b _).mono ?_
    rintro e u4 ⟨rfl, hb⟩
    clear hV c_a_0 c_a_1 c_b_0 c_b_1
    replace b_s := b_s.grew hb
    replace b_g := b_g.grew hb
    replace b_a := b_a.grew hb
    replace b_b := b_b.grew hb
    replace b_t := b_t.grew hb
    replace o_s := o_s.grew hb
    replace o_t := o_t.grew hb
    replace hB := below_app hB hb hB.size
    clear hb
    have HSR : Hid (∀ n, srG g_a g_b = n → ∀ w : World, Calls Try.prog 28 #[(.agg #[.int .i64 g_a.kd, .int .i64 g_a.nn]), (.agg #[.int .i64 g_b.kd, .int .i64 g_b.nn])] w fun e w' => e = .returned (.bool n) ∧ Below w.heap.size w w') := fun n h w => by rw [← h]; exact specStronger_any g_a g_b w
    have HI : Hid (srG g_a g_b = true → hdG t_s side g_a = true → hdG t_s side g_b = true) := fun h h' => srG_holds h h'
    generalize hn1 : srG g_a g_b = n1 at HI ⊢
    have SS := HSR.out n1 hn1
    clear hn1 HSR
    have SA : ∀ w : World, Calls Try.prog 23 #[(.agg #[.int .i64 g_a.kd, .int .i64 g_a.nn]), (.agg #[.int .i64 g_a.kd, .int .i64 g_a.nn])] w fun e w' => e = .returned (.bool (okGd g_a)) ∧ Below w.heap.size w w' := fun w => by rw [← srG_self]; exact implStronger_any g_a g_a w
    have HLE : Hid (decide (bnG t_t k ≤ (ofL t_t.pn t_t.ps k).length) = true) := bn_le_of t_t k
    have OS : Hid (∀ x : BW u4, t_s.ok x.u) := fun x => h_s.ok (o_s.grew x.h)
    have OT : Hid (∀ x : BW u4, t_t.ok x.u) := fun x => h_t.ok (o_t.grew x.h)
    have ns1 : t_s.pn ≤ 1048576 := by omega
    have ns2 : t_s.sn ≤ 1048576 := by omega
    have nt1 : t_t.pn ≤ 1048576 := by omega
    clear n_s m_s n_t m_t
    have hne := bw_ne u4
    have c_s_0 := fun x : BW u4 => x.cell (show u4.cell? ⟨u1.heap.size, 0, none⟩ = some (.slice t_s.pa t_s.pn t_s.pcap) from b_s.cell 0)
    have c_s_1 := fun x : BW u4 => x.cell (show u4.cell? ⟨u1.heap.size, 1, none⟩ = some (.slice t_s.sa t_s.sn t_s.scap) from b_s.cell 1)
    have c_s_2 := fun x : BW u4 => x.cell (show u4.cell? ⟨u1.heap.size, 2, none⟩ = some (.int .i64 t_s.ac) from b_s.cell 2)
    have c_s_3 := fun x : BW u4 => x.cell (show u4.cell? ⟨u1.heap.size, 3, none⟩ = some (.int .i64 t_s.cl) from b_s.cell 3)
    have c_g_0 := fun x : BW u4 => x.cell (show u4.cell? ⟨u1.heap.size + 1, 0, none⟩ = some (.int .i64 g_g.kd) from b_g.cell 0)
    have c_g_1 := fun x : BW u4 => x.cell (show u4.cell? ⟨u1.heap.size + 1, 1, none⟩ = some (.int .i64 g_g.nn) from b_g.cell 1)
    have c_a_0 := fun x : BW u4 => x.cell (show u4.cell? ⟨u2.heap.size, 0, none⟩ = some (.int .i64 g_a.kd) from b_a.cell 0)
    have c_a_1 := fun x : BW u4 => x.cell (show u4.cell? ⟨u2.heap.size, 1, none⟩ = some (.int .i64 g_a.nn) from b_a.cell 1)
    have c_b_0 := fun x : BW u4 => x.cell (show u4.cell? ⟨u2.heap.size + 1, 0, none⟩ = some (.int .i64 g_b.kd) from b_b.cell 0)
    have c_b_1 := fun x : BW u4 => x.cell (show u4.cell? ⟨u2.heap.size + 1, 1, none⟩ = some (.int .i64 g_b.nn) from b_b.cell 1)
    have c_t_0 := fun x : BW u4 => x.cell (show u4.cell? ⟨u3.heap.size, 0, none⟩ = some (.slice t_t.pa t_t.pn t_t.pcap) from b_t.cell 0)
    have c_t_1 := fun x : BW u4 => x.cell (show u4.cell? ⟨u3.heap.size, 1, none⟩ = some (.slice t_t.sa t_t.sn t_t.scap) from b_t.cell 1)
    have c_t_2 := fun x : BW u4 => x.cell (show u4.cell? ⟨u3.heap.size, 2, none⟩ = some (.int .i64 t_t.ac) from b_t.cell 2)
    have c_t_3 := fun x : BW u4 => x.cell (show u4.cell? ⟨u3.heap.size, 3, none⟩ = some (.int .i64 t_t.cl) from b_t.cell 3)
    go_wp2_with fail
    refine wp_region_below_lit (W := u4) 40 (by kernel_rfl) (by kernel_rfl) (by decide) (Below.refl _ _) (by intro c d v a w h; cases d <;> exact h) ?_
    simp only [List.take_succ_cons, List.take_zero, List.drop_succ_cons, List.drop_zero]
    repeat (go_big_quiet_step (first | (go_at_call 24; refine quiet_below (implHolds_any t_s side _ _ (OS.out _) ns1 ns2)) | (go_at_call 25; refine quiet_below (specHolds_any t_s side _ _ (OS.out _) ns1 ns2)) | (go_at_call 26; refine quiet_below (implGuardOk_any _ _)) | (go_at_call 27; refine quiet_below (specGuardOk_any _ _)) | (go_at_call 28; refine quiet_below (SS _)) | (go_at_call 23; refine quiet_below (SA _)) | (go_at_call 29; refine quiet_below (implBentOf_any t_t k _ (OT.out _) nt1)) | (go_at_call 30; refine quiet_below (specBentOf_any t_t k _ (OT.out _) nt1))))
    refine wpQuiet_nil ?_
    rintro _ ⟨x1, rfl⟩
    clear c_s_0 c_s_1 c_s_2 c_s_3 c_g_0 c_g_1 c_a_0 c_a_1 c_b_0 c_b_1 c_t_0 c_t_1 c_t_2 c_t_3 hne SS SA
    as_aux_lemma =>
      replace b_s := b_s.grew x1.h
      replace b_g := b_g.grew x1.h
      replace b_a := b_a.grew x1.h
      replace b_b := b_b.grew x1.h
      replace b_t := b_t.grew x1.h
      replace o_s := o_s.grew x1.h
      replace o_t := o_t.grew x1.h
      replace hB := below_app hB x1.h hB.size
      clear OS OT
      generalize x1.u = U4 at b_s b_g b_a b_b b_t o_s o_t hB ⊢
      clear b_g
      have OS : Hid (∀ x : BW U4, t_s.ok x.u) := fun x => h_s.ok (o_s.grew x.h)
      have OT : Hid (∀ x : BW U4, t_t.ok x.u) := fun x => h_t.ok (o_t.grew x.h)
      have hne := bw_ne U4
      have c_s_0 := fun x : BW U4 => x.cell (show U4.cell? ⟨u1.heap.size, 0, none⟩ = some (.slice t_s.pa t_s.pn t_s.pcap) from b_s.cell 0)
      have c_s_1 := fun x : BW U4 => x.cell (show U4.cell? ⟨u1.heap.size, 1, none⟩ = some (.slice t_s.sa t_s.sn t_s.scap) from b_s.cell 1)
      have c_s_2 := fun x : BW U4 => x.cell (show U4.cell? ⟨u1.heap.size, 2, none⟩ = some (.int .i64 t_s.ac) from b_s.cell 2)
      have c_s_3 := fun x : BW U4 => x.cell (show U4.cell? ⟨u1.heap.size, 3, none⟩ = some (.int .i64 t_s.cl) from b_s.cell 3)
      have c_a_0 := fun x : BW U4 => x.cell (show U4.cell? ⟨u2.heap.size, 0, none⟩ = some (.int .i64 g_a.kd) from b_a.cell 0)
      have c_a_1 := fun x : BW U4 => x.cell (show U4.cell? ⟨u2.heap.size, 1, none⟩ = some (.int .i64 g_a.nn) from b_a.cell 1)
      have c_b_0 := fun x : BW U4 => x.cell (show U4.cell? ⟨u2.heap.size + 1, 0, none⟩ = some (.int .i64 g_b.kd) from b_b.cell 0)
      have c_b_1 := fun x : BW U4 => x.cell (show U4.cell? ⟨u2.heap.size + 1, 1, none⟩ = some (.int .i64 g_b.nn) from b_b.cell 1)
      have c_t_0 := fun x : BW U4 => x.cell (show U4.cell? ⟨u3.heap.size, 0, none⟩ = some (.slice t_t.pa t_t.pn t_t.pcap) from b_t.cell 0)
      have c_t_1 := fun x : BW U4 => x.cell (show U4.cell? ⟨u3.heap.size, 1, none⟩ = some (.slice t_t.sa t_t.sn t_t.scap) from b_t.cell 1)
      have c_t_2 := fun x : BW U4 => x.cell (show U4.cell? ⟨u3.heap.size, 2, none⟩ = some (.int .i64 t_t.ac) from b_t.cell 2)
      have c_t_3 := fun x : BW U4 => x.cell (show U4.cell? ⟨u3.heap.size, 3, none⟩ = some (.int .i64 t_t.cl) from b_t.cell 3)
      go_wp2_with fail
      cases n1 with
      | false =>
        refine wp_region_below_lit (W := U4) 21 (by kernel_rfl) (by kernel_rfl) (by decide) (Below.refl _ _) (by intro c d v a w h; cases d <;> exact h) ?_
        simp only [List.take_succ_cons, List.take_zero, List.drop_succ_cons, List.drop_zero]
        repeat (go_big_quiet_step (first | (go_at_call 29; refine quiet_below (implBentOf_any t_t k _ (OT.out _) nt1))))
        refine wpQuiet_nil ?_
        rintro _ ⟨x2, rfl⟩
        clear c_s_0 c_s_1 c_s_2 c_s_3 c_a_0 c_a_1 c_b_0 c_b_1 c_t_0 c_t_1 c_t_2 c_t_3 hne
        go_wp2_with fail
        refine (implOnField_any t_t k _ (OT.out x2) (by omega)).mono ?_
        rintro e u9 ⟨q9, c9, rfl, hb9, _⟩
        go_wp2
        go_ret
        exact ⟨ret_bool' HLE.out, below_app hB (below_app x2.h hb9 x2.h.size) hB.size⟩
      | true =>
        cases ha : hdG t_s side g_a with
        | false =>
          have HA : ∀ w : World, t_s.ok w → Calls Try.prog 24 #[(.agg #[.slice t_s.pa t_s.pn t_s.pcap, .slice t_s.sa t_s.sn t_s.scap, .int .i64 t_s.ac, .int .i64 t_s.cl]), .int .i64 side, (.agg #[.int .i64 g_a.kd, .int .i64 g_a.nn])] w fun e w' => e = .returned (.bool false) ∧ Below w.heap.size w w' := fun w hw => by have := implHolds_any t_s side g_a w hw ns1 ns2; rw [ha] at this; exact this
          clear ha HI
          refine wp_region_below_lit (W := U4) 21 (by kernel_rfl) (by kernel_rfl) (by decide) (Below.refl _ _) (by intro c d v a w h; cases d <;> exact h) ?_
          simp only [List.take_succ_cons, List.take_zero, List.drop_succ_cons, List.drop_zero]
          repeat (go_big_quiet_step (first | (go_at_call 24; refine quiet_below (HA _ (OS.out _))) | (go_at_call 29; refine quiet_below (implBentOf_any t_t k _ (OT.out _) nt1))))
          refine wpQuiet_nil ?_
          rintro _ ⟨x2, rfl⟩
          clear c_s_0 c_s_1 c_s_2 c_s_3 c_a_0 c_a_1 c_b_0 c_b_1 c_t_0 c_t_1 c_t_2 c_t_3 hne
          go_wp2_with fail
          refine (implOnField_any t_t k _ (OT.out x2) (by omega)).mono ?_
          rintro e u9 ⟨q9, c9, rfl, hb9, _⟩
          go_wp2
          go_ret
          exact ⟨ret_bool' HLE.out, below_app hB (below_app x2.h hb9 x2.h.size) hB.size⟩
        | true =>
          have hbb := HI.out rfl ha
          have HA : ∀ w : World, t_s.ok w → Calls Try.prog 24 #[(.agg #[.slice t_s.pa t_s.pn t_s.pcap, .slice t_s.sa t_s.sn t_s.scap, .int .i64 t_s.ac, .int .i64 t_s.cl]), .int .i64 side, (.agg #[.int .i64 g_a.kd, .int .i64 g_a.nn])] w fun e w' => e = .returned (.bool true) ∧ Below w.heap.size w w' := fun w hw => by have := implHolds_any t_s side g_a w hw ns1 ns2; rw [ha] at this; exact this
          have HBB : ∀ w : World, t_s.ok w → Calls Try.prog 24 #[(.agg #[.slice t_s.pa t_s.pn t_s.pcap, .slice t_s.sa t_s.sn t_s.scap, .int .i64 t_s.ac, .int .i64 t_s.cl]), .int .i64 side, (.agg #[.int .i64 g_b.kd, .int .i64 g_b.nn])] w fun e w' => e = .returned (.bool true) ∧ Below w.heap.size w w' := fun w hw => by have := implHolds_any t_s side g_b w hw ns1 ns2; rw [hbb] at this; exact this
          clear ha hbb HI
          refine wp_region_below_lit (W := U4) 21 (by kernel_rfl) (by kernel_rfl) (by decide) (Below.refl _ _) (by intro c d v a w h; cases d <;> exact h) ?_
          simp only [List.take_succ_cons, List.take_zero, List.drop_succ_cons, List.drop_zero]
          repeat (go_big_quiet_step (first | (go_at_call 24; first | with_reducible refine quiet_below (HA _ (OS.out _)) | with_reducible refine quiet_below (HBB _ (OS.out _))) | (go_at_call 29; refine quiet_below (implBentOf_any t_t k _ (OT.out _) nt1))))
          refine wpQuiet_nil ?_
          rintro _ ⟨x2, rfl⟩
          clear c_s_0 c_s_1 c_s_2 c_s_3 c_a_0 c_a_1 c_b_0 c_b_1 c_t_0 c_t_1 c_t_2 c_t_3 hne
          go_wp2_with fail
          refine (implOnField_any t_t k _ (OT.out x2) (by omega)).mono ?_
          rintro e u9 ⟨q9, c9, rfl, hb9, _⟩
          go_wp2
          go_ret
          exact ⟨ret_bool' HLE.out, below_app hB (below_app x2.h hb9 x2.h.size) hB.size⟩

set_option maxRecDepth 100000 in
theorem lifted (os : Os) (started : os.Started) (H : Type) (enc : TypeId × Value → H) :
    ReturnsInHanded {} Try.checked os 5 .any (Rows.fnGuardsSpec.pre6 enc Try.prog Try.f5 Rows.fnGuardsRow.domain false) (Rows.fnGuardsSpec.post enc Try.prog Try.f5 false true false false) := by
  refine returnsInHanded_of_change (C := Try.checked) own started (by kernel_rfl) Try.func5
    (ChangeSpec.witness6 (enc := enc) (C := Try.checked) false ⟨#[], #[.slice none 0 0], []⟩ 8 (by kernel_rfl) (by kernel_rfl) (by kernel_rfl) (by kernel_rfl)) ?_
  intro W base args ds gs before hval0 hW hcnd _
  have hval : ∀ (j : Nat) t v, Try.f5.params[j]? = some t → args[j]? = some v → Value.okWide Try.prog W .any base t v := hval0
  have hW' := hW
  obtain ⟨p, q, hA0, hV, rfl, hfz, hnd⟩ := hW
  have hA : DataW.TrodAll enc Try.prog W 0 (fun _ => true) true Try.f5.params.toList args.toList ds p := hA0
  rw [Try.params5] at hA hval
  obtain ⟨v0, vs0, d0, ds0, p0, q0, hargs, rfl, rfl, h0, r0⟩ := trodAll_cons hA
  obtain ⟨rfl, rfl, rfl⟩ := trodAll_nil r0
  obtain rfl : args = #[v0] := by cases args; simp_all
  obtain ⟨rfl, rfl⟩ := trodVars_none hV
  obtain ⟨a0, len0, cap0, rfl⟩ := okWide_slice Try.underlying22 (hval 0 22 v0 rfl rfl)
  have k0 := h0
  have lt0 : ∀ x ∈ p0, x.block < W.heap.size := by obtain ⟨m, hm⟩ := k0; exact DataW.trod_lt m _ _ _ hm
  obtain ⟨z0, w0⟩ : ∃ zs, IsRow .u8 W a0 len0 cap0 zs := by
    obtain ⟨fuel, hf⟩ := h0
    rcases open_ints Try.underlying22 Try.underlying5 (by kernel_rfl) hf with ⟨hcs, _⟩ | ⟨x, l, c, zs, hcs, _, hl, hm, hz, _, hcell, hwz⟩
    · simp [Value.cells] at hcs
      obtain ⟨rfl, rfl, rfl⟩ := hcs
      exact ⟨[], .inl ⟨rfl, rfl, rfl, rfl⟩⟩
    · simp [Value.cells] at hcs
      obtain ⟨rfl, rfl, rfl⟩ := hcs
      exact ⟨zs, .inr ⟨_, rfl, hl, hm, by simpa using hz, hcell, hwz⟩⟩
  clear hA0 hval0
  refine (walk a0 len0 cap0 z0 W w0).mono fun e W' ⟨he, bel⟩ => ?_
  subst he
  exact ⟨_, rfl, _, _, _, [], _, [], hW', trodAll_mk1 (shut_bool Try.underlying4 _), (trodAll_cons_mk (Below.trod laidOut (by kernel_rfl) (of_decide_eq_true (by kernel_rfl)) k0 bel lt0) trodAll_mk0), rfl, bel.frame _, fun h => by cases h⟩

theorem over : Rows.fnGuardsRow.holds Try.pinned (OpenSpec.ofChange Rows.fnGuardsSpec) :=
  OpenClaim.holds_of_wide 5 Try.f5 rfl rfl rfl rfl rfl rfl rfl ⟨rfl, rfl, rfl, rfl, rfl⟩ rfl rfl rfl rfl rfl (by kernel_rfl) Try.func5 (by kernel_rfl)
    (of_decide_eq_true (by kernel_rfl)) (by unfold Func.isWrapper; first | (rw [if_pos (by decide +kernel)]; kernel_rfl) | (rw [if_neg (by decide +kernel)]; exact ⟨rfl, rfl⟩))
    (fun os started H enc _ => lifted os started H enc)

theorem proved : Rows.FnGuardsSaid := over
#print axioms proved
end Go.Proofs.Ytnlnledijpcjpac.fnGuards
