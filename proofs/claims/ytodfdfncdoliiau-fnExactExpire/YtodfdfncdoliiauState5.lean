/-
  The laws' own helpers over states: szState, toState, eqState. Own work.
-/
import Derived.Test.YtodfdfncdoliiauState4
namespace Go.Proofs.Ytodfdfncdoliiau
open Go.ChangeShapes Go.WideShapes Go.ChangeAt Go.RowKit
set_option maxRecDepth 100000
/-- block b holds these cells -/
def BoxR (w : World) (b t : Nat) (cs : Array Value) : Prop := w.heap[b]? = some (.cells cs t (0, 0))
theorem BoxR.lt {w : World} {b t : Nat} {cs : Array Value} (h : BoxR w b t cs) : b < w.heap.size := (Array.getElem?_eq_some_iff.1 h).1
theorem BoxR.grew {w w' : World} {b t : Nat} {cs : Array Value} (h : BoxR w b t cs) (hb : Below w.heap.size w w') : BoxR w' b t cs := (hb.block b h.lt).trans h
theorem BoxR.alloc {w : World} {b t : Nat} {cs : Array Value} (h : BoxR w b t cs) (o : Obj) : BoxR (w.alloc o) b t cs := (Below.heap_alloc w o b h.lt).trans h
theorem BoxR.cell {w : World} {b t : Nat} {cs : Array Value} (h : BoxR w b t cs) (j : Nat) : w.cell? ⟨b, j, none⟩ = cs[j]? := cell_of_row w b j _ t (0, 0) h
theorem BoxR.froz {w : World} {b t : Nat} {cs : Array Value} (h : BoxR w b t cs) (j : Nat) : w.frozen? ⟨b, j, none⟩ = false := frozen_of_row w b j _ t h
theorem BoxR.put {w : World} {b t : Nat} {cs : Array Value} (h : BoxR w b t cs) (j : Nat) (v : Value) : BoxR (w.setCell ⟨b, j, none⟩ v) b t (cs.setIfInBounds j v) := Go.heap_setCell_same w b j _ t v h
theorem BoxR.other {w : World} {b t : Nat} {cs : Array Value} (h : BoxR w b t cs) {q : Addr} (hq : b ≠ q.block) (v : Value) : BoxR (w.setCell q v) b t cs := (Below.heap_setCell w q v b hq).trans h
theorem boxR_new (w : World) (t : Nat) (cs : Array Value) : BoxR (w.alloc (.cells cs t)) w.heap.size t cs := heap_alloc_new w _
theorem OwnE.setCell {α : Type} {C : α → List Value} {m : Nat} {w : World} {B b : Nat} {a : Option Addr} {n : Nat} {f : Nat → α} (h : OwnE C m w B b a n f) {q : Addr} (hq : b ≠ q.block) (v : Value) : OwnE C m (w.setCell q v) B b a n f :=
  h.same (Below.heap_setCell w q v b hq) (by simp [World.setCell])
theorem OwnE.setRow {α : Type} {C : α → List Value} {m : Nat} {w : World} {B b : Nat} {a : Option Addr} {n : Nat} {f : Nat → α} (h : OwnE C m w B b a n f) {g : Nat} (hg : b ≠ g) (cs : Array Value) : OwnE C m (w.setRow g cs) B b a n f :=
  h.same (by unfold World.setRow; simp only [Array.getElem?_modify]; rw [if_neg (Ne.symm hg)]) (by simp [World.setRow])
/-- what is left of a measure behind a state -/
def szS (pn sn : Nat) (x : Int) : Int := if x - pn - sn < 0 then -1 else x - pn - sn
set_option maxHeartbeats 1000000 in
theorem szState_any (s : Stt) (x : Int) (w : World) (hn : s.pn ≤ 9223372036854775807) (hn2 : s.sn ≤ 9223372036854775807) (hx : 0 ≤ x ∧ x ≤ 1048576) :
    Calls Try.prog 23 #[(.agg #[.slice s.pa s.pn s.pcap, .slice s.sa s.sn s.scap, .int .i64 s.ac, .int .i64 s.cl]), .int .i64 x] w fun e w' => e = .returned (.int .i64 (szS s.pn s.sn x)) ∧ Below w.heap.size w w' := by
  have hb0 := (Below.refl _ w).alloc (Nat.le_refl _) (.cells #[.slice s.pa s.pn s.pcap, .slice s.sa s.sn s.scap, .int .i64 s.ac, .int .i64 s.cl] 57)
  by_cases h1 : x - s.pn < 0
  · have HS : Hid (szS s.pn s.sn x = -1 ∧ szN s.pn x = -1) := show _ ∧ _ from ⟨by unfold szS; rw [if_pos (by omega)], by unfold szN; rw [if_pos h1]⟩
    go_enter Try.func23, Try.ntmps23
    go_wp2_with fail
    refine (szPieceS_any _ _ _ _ _ hn hx).mono ?_
    rintro e w1 ⟨rfl, hw1⟩
    rw [HS.out.2, hw1]
    go_wp2
    go_ret
    exact ⟨ret_int HS.out.1.symm, hb0⟩
  · have HS : Hid (szN s.pn x = x - s.pn) := by show szN s.pn x = _; unfold szN; rw [if_neg h1]
    have h1' : 0 ≤ x - (s.pn : Int) := by omega
    have hx2 : 0 ≤ x - (s.pn : Int) ∧ x - (s.pn : Int) ≤ 1048576 := by omega
    obtain ⟨y, hy⟩ : ∃ y, x - (s.pn : Int) = y := ⟨_, rfl⟩
    rw [hy] at h1' hx2
    have HY : Hid (x - (s.pn : Int) = y) := hy
    clear h1 hy
    by_cases h2 : y - s.sn < 0
    · have HT : Hid (szS s.pn s.sn x = -1 ∧ szN s.sn y = -1) := show _ ∧ _ from ⟨by unfold szS; rw [HY.out, if_pos h2], by unfold szN; rw [if_pos h2]⟩
      go_enter Try.func23, Try.ntmps23
      go_wp2_with fail
      refine (szPieceS_any _ _ _ _ _ hn hx).mono ?_
      rintro e w1 ⟨rfl, hw1⟩
      rw [HS.out, HY.out, hw1]
      go_wp2_with fail
      refine (szSideS_any _ _ _ _ _ hn2 hx2).mono ?_
      rintro e w2 ⟨rfl, hw2⟩
      rw [HT.out.2, hw2]
      go_wp2
      go_ret
      exact ⟨ret_int HT.out.1.symm, hb0⟩
    · have HT : Hid (szS s.pn s.sn x = y - s.sn ∧ szN s.sn y = y - s.sn) := show _ ∧ _ from ⟨by unfold szS; rw [HY.out, if_neg h2], by unfold szN; rw [if_neg h2]⟩
      have h2' : 0 ≤ y - (s.sn : Int) := by omega
      clear h2
      go_enter Try.func23, Try.ntmps23
      go_wp2_with fail
      refine (szPieceS_any _ _ _ _ _ hn hx).mono ?_
      rintro e w1 ⟨rfl, hw1⟩
      rw [HS.out, HY.out, hw1]
      go_wp2_with fail
      refine (szSideS_any _ _ _ _ _ hn2 hx2).mono ?_
      rintro e w2 ⟨rfl, hw2⟩
      rw [HT.out.2, hw2]
      go_wp2
      go_ret
      exact ⟨ret_int HT.out.1.symm, hb0⟩
/-- a state whose rows lie whole in blocks of the call's own -/
def ownSt (s : Stt) (p pc q qc : Nat) : Stt := ⟨some ⟨p, 0, none⟩, s.pn, pc, p, s.ps, some ⟨q, 0, none⟩, s.sn, qc, q, s.ss, s.ac, s.cl⟩
def OwnS (w : World) (B : Nat) (s : Stt) (p q : Nat) : Prop := OwnE pcC 13 w B p (some ⟨p, 0, none⟩) s.pn s.ps ∧ OwnE sdC 3 w B q (some ⟨q, 0, none⟩) s.sn s.ss ∧ p ≠ q
theorem OwnS.grew {w w' : World} {B : Nat} {s : Stt} {p q : Nat} (h : OwnS w B s p q) (hb : Below w.heap.size w w') : OwnS w' B s p q := ⟨h.1.grew hb, h.2.1.grew hb, h.2.2⟩
set_option maxHeartbeats 4000000 in
theorem toState_any (s : Stt) (w : World) (hok : s.ok w) (hn : s.pn ≤ 1048576) (hn2 : s.sn ≤ 1048576) :
    Calls Try.prog 25 #[(.agg #[.slice s.pa s.pn s.pcap, .slice s.sa s.sn s.scap, .int .i64 s.ac, .int .i64 s.cl])] w fun e w' => ∃ p q, e = .returned (.agg #[.slice (some ⟨p, 0, none⟩) s.pn s.pn, .slice (some ⟨q, 0, none⟩) s.sn s.sn, .int .i64 s.ac, .int .i64 s.cl]) ∧ Below w.heap.size w w' ∧ OwnS w' w.heap.size s p q := by
  obtain ⟨_, _, r1, _, _, r2, _⟩ := hok
  have hb0 := (((Below.refl _ w).alloc (Nat.le_refl _) (.cells #[.slice s.pa s.pn s.pcap, .slice s.sa s.sn s.scap, .int .i64 s.ac, .int .i64 s.cl] 57)).alloc (by simp) (.cells #[.slice none 0 0, .slice none 0 0, .int .i64 0, .int .i64 0] 66)).alloc (by simp; omega) (.cells #[.slice none 0 0, .slice none 0 0, .int .i64 0, .int .i64 0] 66)
  have x1 := ((boxR_new w 57 #[.slice s.pa s.pn s.pcap, .slice s.sa s.sn s.scap, .int .i64 s.ac, .int .i64 s.cl]).alloc (.cells #[.slice none 0 0, .slice none 0 0, .int .i64 0, .int .i64 0] 66)).alloc (.cells #[.slice none 0 0, .slice none 0 0, .int .i64 0, .int .i64 0] 66)
  have x2 : BoxR _ (w.heap.size + 1) _ _ := (show BoxR ((w.alloc (.cells #[.slice s.pa s.pn s.pcap, .slice s.sa s.sn s.scap, .int .i64 s.ac, .int .i64 s.cl] 57)).alloc (.cells #[.slice none 0 0, .slice none 0 0, .int .i64 0, .int .i64 0] 66)) (w.heap.size + 1) 66 #[.slice none 0 0, .slice none 0 0, .int .i64 0, .int .i64 0] from heap_alloc2_new _ _ _).alloc (.cells #[.slice none 0 0, .slice none 0 0, .int .i64 0, .int .i64 0] 66)
  have x3 := boxR_new ((w.alloc (.cells #[.slice s.pa s.pn s.pcap, .slice s.sa s.sn s.scap, .int .i64 s.ac, .int .i64 s.cl] 57)).alloc (.cells #[.slice none 0 0, .slice none 0 0, .int .i64 0, .int .i64 0] 66)) 66 #[.slice none 0 0, .slice none 0 0, .int .i64 0, .int .i64 0]
  rw [World.size_alloc, World.size_alloc] at x3
  generalize hW : ((w.alloc (.cells #[.slice s.pa s.pn s.pcap, .slice s.sa s.sn s.scap, .int .i64 s.ac, .int .i64 s.cl] 57)).alloc (.cells #[.slice none 0 0, .slice none 0 0, .int .i64 0, .int .i64 0] 66)).alloc (.cells #[.slice none 0 0, .slice none 0 0, .int .i64 0, .int .i64 0] 66) = W at hb0 x1 x2 x3
  have k0 := x1.cell 0
  replace r1 := r1.grew pcC_ne hb0
  have hwz := x3.lt
  go_enter Try.func25, Try.ntmps25
  go_wp2_with fail
  refine (toPieceS_any s.pa s.pb s.pn s.pcap s.ps W hn r1).mono ?_
  rintro e w1 ⟨rfl, hb1, o1⟩
  clear hW k0 r1
  replace x1 := x1.grew hb1
  replace x2 := x2.grew hb1
  replace x3 := x3.grew hb1
  have hB1 := below_app hb0 hb1 hb0.size
  have k0 := x3.cell 0
  have f0 := x3.froz 0
  have y3 := x3.put 0 (.slice (some ⟨W.heap.size, 0, none⟩) s.pn s.pn)
  have y1 := x1.other (q := ⟨w.heap.size + 1 + 1, 0, none⟩) (by simp; omega) (.slice (some ⟨W.heap.size, 0, none⟩) s.pn s.pn)
  have y2 := x2.other (q := ⟨w.heap.size + 1 + 1, 0, none⟩) (by simp) (.slice (some ⟨W.heap.size, 0, none⟩) s.pn s.pn)
  have hB2 := hB1.setCell (p := ⟨w.heap.size + 1 + 1, 0, none⟩) (by simp; omega) (.slice (some ⟨W.heap.size, 0, none⟩) s.pn s.pn)
  replace o1 := o1.setCell (q := ⟨w.heap.size + 1 + 1, 0, none⟩) (by simp; omega) (.slice (some ⟨W.heap.size, 0, none⟩) s.pn s.pn)
  generalize hV : w1.setCell ⟨w.heap.size + 1 + 1, 0, none⟩ (.slice (some ⟨W.heap.size, 0, none⟩) s.pn s.pn) = V at y1 y2 y3 hB2 o1
  have l1 := y1.cell 1
  have hVW : W.heap.size < V.heap.size := o1.2.1
  replace r2 := r2.grew sdC_ne hB2
  clear x1 x2 x3 hB1 hb1
  go_wp2_with fail
  refine (toSideS_any s.sa s.sb s.sn s.scap s.ss V hn2 r2).mono ?_
  rintro e w2 ⟨rfl, hb2, o2⟩
  clear hV k0 f0 l1 r2
  replace y1 := y1.grew hb2
  replace y2 := y2.grew hb2
  replace y3 := y3.grew hb2
  replace o1 := o1.grew hb2
  have hB3 := below_app hB2 hb2 hB2.size
  clear hB2 hb2
  have z3 := ((y3.put 1 (.slice (some ⟨V.heap.size, 0, none⟩) s.sn s.sn)).put 2 (.int .i64 s.ac)).put 3 (.int .i64 s.cl)
  have z2 := ((y2.other (q := ⟨w.heap.size + 1 + 1, 1, none⟩) (by simp) (.slice (some ⟨V.heap.size, 0, none⟩) s.sn s.sn)).other (q := ⟨w.heap.size + 1 + 1, 2, none⟩) (by simp) (.int .i64 s.ac)).other (q := ⟨w.heap.size + 1 + 1, 3, none⟩) (by simp) (.int .i64 s.cl)
  have hB4 := ((hB3.setCell (p := ⟨w.heap.size + 1 + 1, 1, none⟩) (by simp; omega) (.slice (some ⟨V.heap.size, 0, none⟩) s.sn s.sn)).setCell (p := ⟨w.heap.size + 1 + 1, 2, none⟩) (by simp; omega) (.int .i64 s.ac)).setCell (p := ⟨w.heap.size + 1 + 1, 3, none⟩) (by simp; omega) (.int .i64 s.cl)
  replace o1 := ((o1.setCell (q := ⟨w.heap.size + 1 + 1, 1, none⟩) (by simp; omega) (.slice (some ⟨V.heap.size, 0, none⟩) s.sn s.sn)).setCell (q := ⟨w.heap.size + 1 + 1, 2, none⟩) (by simp; omega) (.int .i64 s.ac)).setCell (q := ⟨w.heap.size + 1 + 1, 3, none⟩) (by simp; omega) (.int .i64 s.cl)
  replace o2 := ((o2.setCell (q := ⟨w.heap.size + 1 + 1, 1, none⟩) (by simp; omega) (.slice (some ⟨V.heap.size, 0, none⟩) s.sn s.sn)).setCell (q := ⟨w.heap.size + 1 + 1, 2, none⟩) (by simp; omega) (.int .i64 s.ac)).setCell (q := ⟨w.heap.size + 1 + 1, 3, none⟩) (by simp; omega) (.int .i64 s.cl)
  have a2 := y1.cell 2
  have a3 := y1.cell 3
  have c1 := y3.cell 1
  have c2 := y3.cell 2
  have c3 := y3.cell 3
  have f1 := y3.froz 1
  have f2 := y3.froz 2
  have f3 := y3.froz 3
  generalize hU : ((w2.setCell ⟨w.heap.size + 1 + 1, 1, none⟩ (.slice (some ⟨V.heap.size, 0, none⟩) s.sn s.sn)).setCell ⟨w.heap.size + 1 + 1, 2, none⟩ (.int .i64 s.ac)).setCell ⟨w.heap.size + 1 + 1, 3, none⟩ (.int .i64 s.cl) = U at z3 z2 hB4 o1 o2
  have m0 := z3.cell 0
  have m1 := z3.cell 1
  have m2 := z3.cell 2
  have m3 := z3.cell 3
  simp at a2 a3 c1 c2 c3 m0 m1 m2 m3
  clear y1 y2 y3 hB3
  go_wp2_with (refine wpList_store_row rfl 66 (.tmp 2) _ rfl (w.heap.size + 1) _ (by rfl) (by rfl) _ _ z2 (by kernel_rfl) (by rfl) (by simp [Value.oneCell']) ?_)
  (try simp only [Exit.inBlock, Exit.then]); refine bodyPost_ret (results_cell_row rfl _ _ (w.heap.size + 1) _ _ _ _ rfl (setRow_heap _ _ _ _ _ _ z2) Try.underlying66 rfl (by kernel_rfl)) rfl ?_
  exact ⟨_, _, rfl, below_setRow hB4 (by omega) _, ⟨by omega, (o1.setRow (by omega) _).2⟩, ⟨by omega, (o2.setRow (by omega) _).2⟩, by omega⟩
end Go.Proofs.Ytodfdfncdoliiau
