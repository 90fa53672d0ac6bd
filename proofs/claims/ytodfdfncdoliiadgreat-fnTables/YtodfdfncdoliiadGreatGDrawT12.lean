/-
  Chapter 5: a state while it is drawn (DT): what stays of it, what is laid into it. Chapter 5: the draw l5Draw: a right state. Own work.
-/
import Derived.Test.YtodfdfncdoliiadGreatGBytes36
import Derived.Test.YtodfdfncdoliiadGreatStNew
import Derived.Test.YtodfdfncdoliiadGreatDrawP
import Derived.Test.YtodfdfncdoliiadGreatGPieceOk3
import Derived.Deep.RegionHeldLaw
namespace Go.Proofs.YtodfdfncdoliiadGreat
open Go.ChangeShapes Go.WideShapes Go.ChangeAt Go.RowKit
set_option maxRecDepth 100000
set_option linter.unusedVariables false
set_option linter.unusedSimpArgs false
/-- both rows of a state lie in memory of the call's own, from the beginning of their blocks -/
structure RowsT (w : World) (B : Nat) (s : Stt) : Prop where
  op : w.ownsRow B 139 13 (.slice s.pa s.pn s.pcap) s.pn (valsE pcC s.pn s.ps)
  os : w.ownsRow B 137 3 (.slice s.sa s.sn s.scap) s.sn (valsE sdC s.sn s.ss)
/-- while a state is drawn: the cursor p, the answer's cell r, the state under way at g -/
structure DT (w : World) (p : Nat) (a : Option Addr) (len cap r g : Nat) (s : Stt) (u : World) : Prop where
  only : Only p w u
  cur : Cur u p a len cap
  pr : p < w.heap.size
  hr : w.heap.size ≤ r
  hg : w.heap.size ≤ g
  ne : r ≠ g
  br : BoxR u r 37 #[.slice none 0 0, .slice none 0 0, .int .i64 0, .int .i64 0]
  bg : BoxR u g 37 #[.slice s.pa s.pn s.pcap, .slice s.sa s.sn s.scap, .int .i64 s.ac, .int .i64 s.cl]
  rw : RowsT u w.heap.size s
theorem row_down {w : World} {base base' : Nat} {e : TypeId} {size : Nat} {v : Value} {n : Nat} {xs : List Value} (h : w.ownsRow base e size v n xs) (hb : base' ≤ base) : w.ownsRow base' e size v n xs := by
  refine ⟨h.1, ?_⟩
  rcases h.2 with h' | ⟨g, cap, cur, rfl, h1, h3⟩
  · exact .inl h'
  · exact .inr ⟨g, cap, cur, rfl, Nat.le_trans hb h1, h3⟩
theorem RowsT.same {w w' : World} {B : Nat} {s : Stt} (h : RowsT w B s) (hs : ∀ q, B ≤ q → q < w.heap.size → (∃ t cs, t ≠ 37 ∧ w.heap[q]? = some (.cells cs t (0, 0))) → w'.heap[q]? = w.heap[q]?) : RowsT w' B s := by
  have k : ∀ {e : TypeId} {m n : Nat} {v : Value} {xs : List Value}, e ≠ 37 → w.ownsRow B e m v n xs → w'.ownsRow B e m v n xs := fun {e m n v xs} he hh => row_same hh (fun q hq => by
    have hl := hh.lt q hq
    refine hs q hl.1 hl.2 ?_
    rcases hh.2 with ⟨rfl, _⟩ | ⟨g, c, cur, rfl, h1, h2, h3⟩
    · simp [Value.ownBlock] at hq
    · simp only [Value.ownBlock, Option.some.injEq] at hq
      subst hq
      exact ⟨e, cur, he, h2⟩)
  exact ⟨k (by decide) h.op, k (by decide) h.os⟩
theorem RowsT.grew {w w' : World} {B : Nat} {s : Stt} (h : RowsT w B s) (hb : Below w.heap.size w w') : RowsT w' B s := ⟨row_grewE h.op hb, row_grewE h.os hb⟩
theorem RowsT.down {w : World} {B B' : Nat} {s : Stt} (h : RowsT w B s) (hB : B' ≤ B) : RowsT w B' s := ⟨row_down h.op hB, row_down h.os hB⟩
theorem RowsT.only {w w' : World} {B p : Nat} {s : Stt} (h : RowsT w B s) (ho : Only p w w') (hp : p < B) : RowsT w' B s :=
  h.same (fun q h1 h2 _ => ho.block q h2 (by omega))
/-- what lies in a box of a state's type is none of the rows -/
theorem RowsT.set {w : World} {B g j : Nat} {s : Stt} {cs : Array Value} (h : RowsT w B s) (hb : BoxR w g 37 cs) (v : Value) : RowsT (w.setCell ⟨g, j, none⟩ v) B s :=
  ⟨row_set h.op (own_ne h.op hb (by decide)) v, row_set h.os (own_ne h.os hb (by decide)) v⟩
theorem RowsT.setRow {w : World} {B g : Nat} {s : Stt} {cs : Array Value} (h : RowsT w B s) (hb : BoxR w g 37 cs) (ds : Array Value) : RowsT (w.setRow g ds) B s :=
  ⟨row_setRow' h.op (own_ne h.op hb (by decide)) ds, row_setRow' h.os (own_ne h.os hb (by decide)) ds⟩
section
variable {w : World} {p : Nat} {a : Option Addr} {len cap r g : Nat} {s : Stt} {u u' : World}
theorem DT.draw (h : DT w p a len cap r g s u) (ho : Only p u u') (hk : Cur u' p a len cap) : DT w p a len cap r g s u' :=
  have h1 := h.pr
  have h2 := h.hr
  have h3 := h.hg
  ⟨h.only.trans ho, hk, h.pr, h.hr, h.hg, h.ne, h.br.onlyR ho (by omega), h.bg.onlyR ho (by omega), h.rw.only ho h.pr⟩
theorem DT.alloc (h : DT w p a len cap r g s u) (o : Obj) : DT w p a len cap r g s (u.alloc o) :=
  ⟨h.only.alloc o, h.cur.only ((Only.refl u.heap.size u).alloc o) (Nat.ne_of_lt h.cur.1), h.pr, h.hr, h.hg, h.ne, h.br.alloc o, h.bg.alloc o, h.rw.grew (below_new2'' u o)⟩
theorem DT.drew (h : DT w p a len cap r g s u) : DT w p a len cap r g s u.drew := ⟨h.only.drew, h.cur, h.pr, h.hr, h.hg, h.ne, h.br, h.bg, ⟨h.rw.op, h.rw.os⟩⟩
/-- another state's value is laid into the box's cell j -/
theorem DT.put (h : DT w p a len cap r g s u) (j : Nat) (v : Value) {s' : Stt} (e : (#[.slice s.pa s.pn s.pcap, .slice s.sa s.sn s.scap, .int .i64 s.ac, .int .i64 s.cl] : Array Value).setIfInBounds j v = #[.slice s'.pa s'.pn s'.pcap, .slice s'.sa s'.sn s'.scap, .int .i64 s'.ac, .int .i64 s'.cl]) (hrw : RowsT (u.setCell ⟨g, j, none⟩ v) w.heap.size s') : DT w p a len cap r g s' (u.setCell ⟨g, j, none⟩ v) :=
  have h1 := h.pr
  have h3 := h.hg
  ⟨h.only.setCell (.inr h.hg) v, h.cur.only ((Only.refl g u).setCell (.inl rfl) v) (by omega), h.pr, h.hr, h.hg, h.ne, h.br.other (q := ⟨g, j, none⟩) h.ne v, by have := h.bg.put j v; rwa [e] at this, hrw⟩
theorem DT.putAc (h : DT w p a len cap r g s u) (x : Int) : DT w p a len cap r g { s with ac := x } (u.setCell ⟨g, 2, none⟩ (.int .i64 x)) :=
  h.put 2 (.int .i64 x) rfl ⟨(h.rw.set h.bg _).op, (h.rw.set h.bg _).os⟩
theorem DT.putCl (h : DT w p a len cap r g s u) (x : Int) : DT w p a len cap r g { s with cl := x } (u.setCell ⟨g, 3, none⟩ (.int .i64 x)) :=
  h.put 3 (.int .i64 x) rfl ⟨(h.rw.set h.bg _).op, (h.rw.set h.bg _).os⟩
/-- a store into the row of sides -/
theorem DT.side (h : DT w p a len cap r g s u) {q j : Nat} (v : Value) (hs : s.sa = some ⟨q, 0, none⟩) {G : Nat → Sd} (hG : (valsE sdC s.sn s.ss).set j v = valsE sdC s.sn G) : DT w p a len cap r g { s with ss := G } (u.setCell ⟨q, j, none⟩ v) := by
  have hos := h.rw.os
  rw [hs] at hos
  have hq := hos.lt q rfl
  have hst := hos.stored j v
  have n1 : r ≠ q := fun e => own_ne hos h.br (by decide) (by rw [e]; rfl)
  have n2 : g ≠ q := fun e => own_ne hos h.bg (by decide) (by rw [e]; rfl)
  have h1 := h.pr
  refine ⟨h.only.setCell (.inr hq.1) v, h.cur.only ((Only.refl q u).setCell (.inl rfl) v) (by omega), h.pr, h.hr, h.hg, h.ne, h.br.other (q := ⟨q, j, none⟩) n1 v, h.bg.other (q := ⟨q, j, none⟩) n2 v, ?_⟩
  refine ⟨row_set h.rw.op (fun e => row_two hos h.rw.op (by decide) rfl e) v, ?_⟩
  have := hst.1
  rw [hG] at this
  show (u.setCell ⟨q, j, none⟩ v).ownsRow _ _ _ (.slice s.sa s.sn s.scap) s.sn (valsE sdC s.sn G)
  rw [hs]
  exact this
/-- a row grew by append, in the world w4 -/
theorem only_grown {o : Obj} {w4 : World} {v : Value} {B e m n : Nat} {xs : List Value} (h : Only p w u) (hv : u.ownsRow w.heap.size e m v n xs) (hg4 : (u.alloc o).grownBy w4 v.ownBlock) : Only p w w4 := by
  refine ⟨hg4.os.trans h.os, hg4.tape.trans h.tape, hg4.output.trans h.output, Nat.le_trans h.size (Nat.le_trans (by simp) hg4.size), fun k hk hp => ?_⟩
  have := h.size
  rw [hg4.block k (by simp; omega) (fun e => by have := (hv.lt k e.symm).1; omega), Below.heap_alloc u o k (by omega)]
  exact h.block k hk hp
theorem cur_grown {o : Obj} {w4 : World} {v : Value} {e m n : Nat} {xs : List Value} (hc : Cur u p a len cap) (hp : p < w.heap.size) (hv : u.ownsRow w.heap.size e m v n xs) (hg4 : (u.alloc o).grownBy w4 v.ownBlock) : Cur w4 p a len cap :=
  hc.same ((hg4.block p (by have := hc.1; simp; omega) (fun e => by have := (hv.lt p e.symm).1; omega)).trans (Below.heap_alloc u o p hc.1)) (Nat.le_trans (by simp) hg4.size)
def snoc {α : Type} (n : Nat) (f : Nat → α) (x : α) : Nat → α := fun i => if i = n then x else f i
theorem valsE_snoc' {α : Type} {C : α → List Value} {m : Nat} (hm : ∀ x, (C x).length = m) (n : Nat) (f : Nat → α) (x : α) : valsE C n f ++ C x = valsE C (n + 1) (snoc n f x) := by
  rw [valsE_snoc, valsE_congr hm (f := f) (g := snoc n f x) (fun i hi => by unfold snoc; rw [if_neg (by omega)])]
  unfold snoc
  rw [if_pos rfl]
theorem DT.app (h : DT w p a len cap r g s u) {o : Obj} {w4 : World} {v4 : Value} (q : Pc) (ho : w4.ownsRow w.heap.size 139 13 v4 (s.pn + 1) (valsE pcC s.pn s.ps ++ pcC q)) (hg4 : (u.alloc o).grownBy w4 (Value.slice s.pa s.pn s.pcap).ownBlock) :
    ∃ pa' cap', v4 = .slice pa' (s.pn + 1) cap' ∧ Cur w4 p a len cap ∧ BoxR w4 g 37 #[.slice s.pa s.pn s.pcap, .slice s.sa s.sn s.scap, .int .i64 s.ac, .int .i64 s.cl] ∧ DT w p a len cap r g { s with pa := pa', pn := s.pn + 1, pcap := cap', ps := snoc s.pn s.ps q } (w4.setCell ⟨g, 0, none⟩ (.slice pa' (s.pn + 1) cap')) := by
  obtain ⟨pa', cap', rfl, _⟩ := row_form ho
  have hA := h.alloc o
  have br4 : BoxR w4 r 37 #[.slice none 0 0, .slice none 0 0, .int .i64 0, .int .i64 0] := (hg4.block _ hA.br.lt (own_ne h.rw.op h.br (by decide))).trans hA.br
  have bg4 : BoxR w4 g 37 #[.slice s.pa s.pn s.pcap, .slice s.sa s.sn s.scap, .int .i64 s.ac, .int .i64 s.cl] := (hg4.block _ hA.bg.lt (own_ne h.rw.op h.bg (by decide))).trans hA.bg
  have os4 : w4.ownsRow w.heap.size 137 3 (.slice s.sa s.sn s.scap) s.sn (valsE sdC s.sn s.ss) := row_same hA.rw.os (fun q hq => hg4.block q (hA.rw.os.lt q hq).2 (row_two h.rw.os h.rw.op (by decide) hq))
  rw [valsE_snoc' pcC_len] at ho
  have hc4 := cur_grown h.cur h.pr h.rw.op hg4
  have h1 := h.pr
  have h3 := h.hg
  refine ⟨pa', cap', rfl, hc4, bg4, ⟨(only_grown (B := 0) h.only h.rw.op hg4).setCell (.inr h.hg) _, hc4.only ((Only.refl g w4).setCell (.inl rfl) _) (by omega), h.pr, h.hr, h.hg, h.ne, br4.other (q := ⟨g, 0, none⟩) h.ne _, bg4.put 0 _, ⟨row_set ho (own_ne ho bg4 (by decide)) _, row_set os4 (own_ne os4 bg4 (by decide)) _⟩⟩⟩
theorem DT.appS (h : DT w p a len cap r g s u) {o : Obj} {w4 : World} {v4 : Value} (q : Sd) (ho : w4.ownsRow w.heap.size 137 3 v4 (s.sn + 1) (valsE sdC s.sn s.ss ++ sdC q)) (hg4 : (u.alloc o).grownBy w4 (Value.slice s.sa s.sn s.scap).ownBlock) :
    ∃ sa' cap', v4 = .slice sa' (s.sn + 1) cap' ∧ Cur w4 p a len cap ∧ BoxR w4 g 37 #[.slice s.pa s.pn s.pcap, .slice s.sa s.sn s.scap, .int .i64 s.ac, .int .i64 s.cl] ∧ DT w p a len cap r g { s with sa := sa', sn := s.sn + 1, scap := cap', ss := snoc s.sn s.ss q } (w4.setCell ⟨g, 1, none⟩ (.slice sa' (s.sn + 1) cap')) := by
  obtain ⟨sa', cap', rfl, _⟩ := row_form ho
  have hA := h.alloc o
  have br4 : BoxR w4 r 37 #[.slice none 0 0, .slice none 0 0, .int .i64 0, .int .i64 0] := (hg4.block _ hA.br.lt (own_ne h.rw.os h.br (by decide))).trans hA.br
  have bg4 : BoxR w4 g 37 #[.slice s.pa s.pn s.pcap, .slice s.sa s.sn s.scap, .int .i64 s.ac, .int .i64 s.cl] := (hg4.block _ hA.bg.lt (own_ne h.rw.os h.bg (by decide))).trans hA.bg
  have op4 : w4.ownsRow w.heap.size 139 13 (.slice s.pa s.pn s.pcap) s.pn (valsE pcC s.pn s.ps) := row_same hA.rw.op (fun q hq => hg4.block q (hA.rw.op.lt q hq).2 (row_two h.rw.op h.rw.os (by decide) hq))
  rw [valsE_snoc' sdC_len] at ho
  have hc4 := cur_grown h.cur h.pr h.rw.os hg4
  have h1 := h.pr
  have h3 := h.hg
  refine ⟨sa', cap', rfl, hc4, bg4, ⟨(only_grown (B := 0) h.only h.rw.os hg4).setCell (.inr h.hg) _, hc4.only ((Only.refl g w4).setCell (.inl rfl) _) (by omega), h.pr, h.hr, h.hg, h.ne, br4.other (q := ⟨g, 1, none⟩) h.ne _, bg4.put 1 _, ⟨row_set op4 (own_ne op4 bg4 (by decide)) _, row_set ho (own_ne ho bg4 (by decide)) _⟩⟩⟩
end
/-- a new state of two sides, as the draws begin with it -/
theorem specStateNew_two (w : World) : Calls Tryz.prog 98 #[.int .i64 2] w fun e w' => e = .returned (.agg #[.slice none 0 0, .slice (some ⟨w.heap.size + 1, 0, none⟩) 2 2, .int .i64 0, .int .i64 0]) ∧ Below w.heap.size w w' ∧ RowsT w' w.heap.size ⟨none, 0, 0, 0, zF, some ⟨w.heap.size + 1, 0, none⟩, 2, 2, w.heap.size + 1, nwD, 0, 0⟩ := by
  go_enter Tryz.func98, Tryz.ntmps98
  go_wp2
  (try simp only [Exit.inBlock, Exit.then]); refine bodyPost_ret (results_cell_row rfl _ _ w.heap.size _ _ _ _ rfl (((boxR_new w 37 #[.slice none 0 0, .slice (some ⟨w.heap.size + 1, 0, none⟩) 2 2, .int .i64 0, .int .i64 0]).alloc (.cells #[.int .i64 20, .int .i64 0, .bool false, .int .i64 20, .int .i64 0, .bool false] 137)).alloc (.cells #[.slice none 0 0, .slice (some ⟨w.heap.size + 1, 0, none⟩) 2 2, .int .i64 0, .int .i64 0] 37)) Tryz.underlying37 rfl (by kernel_rfl)) rfl ?_
  refine ⟨rfl, (((Below.refl _ w).alloc (Nat.le_refl _) _).alloc (by simp) _).alloc (by simp; omega) _, World.ownsRow_nil _ _ _ _, ?_⟩
  have := (World.ownsRow_lit (base := w.heap.size) (e := 137) (size := 3) (w.alloc (.cells #[.slice none 0 0, .slice (some ⟨w.heap.size + 1, 0, none⟩) 2 2, .int .i64 0, .int .i64 0] 37)) #[.int .i64 20, .int .i64 0, .bool false, .int .i64 20, .int .i64 0, .bool false] 2 (by simp) (by decide) rfl).alloc (.cells #[.slice none 0 0, .slice (some ⟨w.heap.size + 1, 0, none⟩) 2 2, .int .i64 0, .int .i64 0] 37)
  rw [World.size_alloc] at this
  exact this
end Go.Proofs.YtodfdfncdoliiadGreat
namespace Go.Proofs.YtodfdfncdoliiadGreat
open Go.ChangeShapes Go.WideShapes Go.ChangeAt Go.RowKit
set_option maxRecDepth 100000
set_option linter.unusedVariables false
set_option linter.unusedSimpArgs false
/-- the pieces drawn so far; id: the last one's number -/
def drF (k : Nat) (F : Nat → Pc) (id : Int) : Prop := (∀ j, j < k → drP (F j).id (F j) ∧ 1 ≤ (F j).id ∧ (F j).id ≤ id) ∧ (∀ j, 0 < j → j < k → (F (j - 1)).id < (F j).id)
theorem drF_snoc {k : Nat} {F : Nat → Pc} {id id' : Int} {q : Pc} (h : drF k F id) (hq : drP id' q) (h1 : id < id') (h0 : 0 ≤ id) : drF (k + 1) (snoc k F q) id' := by
  have hid := hq.id
  have e1 : ∀ j, j < k → snoc k F q j = F j := fun j hj => by unfold snoc; rw [if_neg (by omega)]
  have e2 : snoc k F q k = q := by unfold snoc; rw [if_pos rfl]
  refine ⟨fun j hj => ?_, fun j h2 hj => ?_⟩
  · by_cases hjk : j = k
    · subst hjk
      rw [e2]
      exact ⟨by rw [hid]; exact hq, by omega, by omega⟩
    · rw [e1 j (by omega)]
      have := h.1 j (by omega)
      exact ⟨this.1, this.2.1, by omega⟩
  · by_cases hjk : j = k
    · subst hjk
      rw [e2, e1 (j - 1) (by omega)]
      have := h.1 (j - 1) (by omega)
      omega
    · rw [e1 j (by omega), e1 (j - 1) (by omega)]
      exact h.2 j h2 (by omega)
theorem ib_yes {x a b : Int} (h : a ≤ x ∧ x ≤ b) : ib x a b = true := by unfold ib; simp [h]
theorem drP.okP {id : Int} {q : Pc} (h : drP id q) (h0 : 1 ≤ id ∧ id ≤ 99) : okP q = true := by
  have h1 := h.ow
  have h2 := h.si
  have h3 := h.zo
  have h4 := h.st
  have h5 := h.po
  have h6 := h.to
  have h7 := h.tr
  have h8 := h.pl
  have h9 := h.mi
  have h10 := h.ma
  have hid := h.id
  have hoff := h.off
  unfold Go.Proofs.YtodfdfncdoliiadGreat.okP okA okB
  simp only [Bool.and_eq_true]
  refine ⟨⟨⟨⟨⟨⟨⟨⟨⟨ib_yes (by omega), ib_yes (by omega)⟩, ib_yes (by omega)⟩, ib_yes (by omega)⟩, ib_yes (by omega)⟩, ib_yes (by omega)⟩, ib_yes (by omega)⟩, ib_yes (by omega)⟩, ⟨ib_yes (by omega), ib_yes (by omega)⟩, ib_yes (by omega)⟩, ?_⟩
  unfold okC
  by_cases hz : q.zo = 2
  · simp [hz]
  · obtain ⟨f1, f2, f3, f4, f5⟩ := hoff hz
    simp [f1, f2, f3, f4, f5, h.de]
/-- a drawn state is right -/
structure drS (s : Stt) : Prop where
  pn : 1 ≤ s.pn ∧ s.pn ≤ 5
  sn : s.sn = 2
  ac : 0 ≤ s.ac ∧ s.ac ≤ 1
  cl : 2 ≤ s.cl ∧ s.cl ≤ 4
  ps : drF s.pn s.ps 10
  ss : ∀ j, j < 2 → okSd (s.ss j) = true
theorem drS.ok {s : Stt} (h : drS s) : okS s = true := by
  have h1 := h.pn
  have h2 := h.sn
  have h3 := h.ac
  have h4 := h.cl
  unfold okS hdS psS ssS
  simp only [Bool.and_eq_true, decide_eq_true_eq, List.all_eq_true, List.mem_range]
  refine ⟨⟨⟨⟨⟨by omega, ib_yes (by omega)⟩, ib_yes (by omega)⟩, ib_yes (by omega)⟩, fun i hi => ?_⟩, fun i hi => h.ss i (by omega)⟩
  have hp := h.ps.1 i hi
  have := hp.1.ow
  have := hp.1.si
  have := hp.1.st
  unfold pAt
  simp only [Bool.and_eq_true, Bool.or_eq_true, decide_eq_true_eq]
  refine ⟨⟨⟨⟨hp.1.okP (by omega), ?_⟩, by omega⟩, by omega⟩, by omega⟩
  by_cases h0 : i = 0
  · exact .inl h0
  · exact .inr (h.ps.2 i (by omega) hi)
def liS (k : Nat) (x : Int) (G : Nat → Sd) : Nat → Sd := fun j => if j = k then ⟨x, (G k).po, (G k).lo⟩ else G j
def poS (k : Nat) (x : Int) (G : Nat → Sd) : Nat → Sd := fun j => if j = k then ⟨(G k).li, x, (G k).lo⟩ else G j
theorem liS_set {k : Nat} (hk : k < 2) (x : Int) (G : Nat → Sd) : (valsE sdC 2 G).set (k * 3) (.int .i64 x) = valsE sdC 2 (liS k x G) := by
  have : k = 0 ∨ k = 1 := by omega
  rcases this with rfl | rfl <;> rfl
theorem poS_set {k : Nat} (hk : k < 2) (x : Int) (G : Nat → Sd) : (valsE sdC 2 G).set (k * 3 + 1) (.int .i64 x) = valsE sdC 2 (poS k x G) := by
  have : k = 0 ∨ k = 1 := by omega
  rcases this with rfl | rfl <;> rfl
theorem liS_ok {k : Nat} {x : Int} {G : Nat → Sd} (h : ∀ j, okSd (G j) = true) (hx : 0 ≤ x ∧ x ≤ 20) : ∀ j, okSd (liS k x G j) = true := by
  intro j
  unfold liS
  split
  · have := h k
    unfold okSd at this ⊢
    rw [Bool.and_eq_true] at this ⊢
    exact ⟨ib_yes (show -2147483647 ≤ x ∧ x ≤ 2147483647 by omega), this.2⟩
  · exact h j
theorem poS_ok {k : Nat} {x : Int} {G : Nat → Sd} (h : ∀ j, okSd (G j) = true) (hx : 0 ≤ x ∧ x ≤ 20) : ∀ j, okSd (poS k x G j) = true := by
  intro j
  unfold poS
  split
  · have := h k
    unfold okSd at this ⊢
    rw [Bool.and_eq_true] at this ⊢
    exact ⟨this.1, ib_yes (show 0 ≤ x ∧ x ≤ 2147483647 by omega)⟩
  · exact h j
theorem side_cell {u : World} {B q c n : Nat} {G : Nat → Sd} (h : u.ownsRow B 137 3 (.slice (some ⟨q, 0, none⟩) n c) n (valsE sdC n G)) {k : Nat} (hk : k < n) : u.cell? ⟨q, k * 3, none⟩ = some (.int .i64 (G k).li) ∧ u.cell? ⟨q, k * 3 + 1, none⟩ = some (.int .i64 (G k).po) := by
  have e0 := h.cellAt (k * 3 + 0) (by omega)
  have e1 := h.cellAt (k * 3 + 1) (by omega)
  rw [valsE_get sdC_len n G k 0 hk (by omega)] at e0
  rw [valsE_get sdC_len n G k 1 hk (by omega)] at e1
  exact ⟨e0, e1⟩
theorem only_below {p : Nat} {w u : World} (h : Below w.heap.size w u) : Only p w u := ⟨h.os, h.tape, h.output, h.size, fun k hk _ => h.block k hk⟩
def Drawn (p : Nat) (a : Option Addr) (len cap : Nat) (w : World) (s : Stt) (e : Ending) (w' : World) : Prop := e = .returned (.agg #[.slice s.pa s.pn s.pcap, .slice s.sa s.sn s.scap, .int .i64 s.ac, .int .i64 s.cl]) ∧ Only p w w' ∧ Cur w' p a len cap ∧ RowsT w' w.heap.size s
set_option maxHeartbeats 2000000 in
theorem l5Draw_any (p : Nat) (a : Option Addr) (len cap : Nat) (w : World) {B : Nat} (hc : Code w a len B) (hB : B ≤ p) (hcur : Cur w p a len cap) :
    Calls Tryz.prog 46 #[.pointer (some ⟨p, 0, none⟩)] w fun e w' => ∃ s : Stt, drS s ∧ Drawn p a len cap w s e w' := by
  obtain ⟨i0, hi, hz0, hz1, hz2⟩ := info_parts Tryz.infoPc
  have hp : p < w.heap.size := hcur.1
  have hb0 := (Below.refl _ w).alloc (Nat.le_refl _) (.cells #[.slice none 0 0, .slice none 0 0, .int .i64 0, .int .i64 0] 37)
  have xr := boxR_new w 37 #[.slice none 0 0, .slice none 0 0, .int .i64 0, .int .i64 0]
  generalize hW : w.alloc (.cells #[.slice none 0 0, .slice none 0 0, .int .i64 0, .int .i64 0] 37) = W at hb0 xr
  have hls : w.heap.size < W.heap.size := xr.lt
  go_enter Tryz.func46, Tryz.ntmps46
  go_wp2_with fail
  refine (specStateNew_two W).mono ?_
  rintro e u1 ⟨rfl, hb1, hrw⟩
  clear hW
  have hB1 := below_app hb0 hb1 hb0.size
  replace xr := xr.grew hb1
  obtain ⟨q, hq⟩ : ∃ q, W.heap.size + 1 = q := ⟨_, rfl⟩
  rw [hq] at hrw ⊢
  have xg := boxR_new u1 37 #[.slice none 0 0, .slice (some ⟨q, 0, none⟩) 2 2, .int .i64 0, .int .i64 0]
  have hbV := below_new2'' u1 (.cells #[.slice none 0 0, .slice (some ⟨q, 0, none⟩) 2 2, .int .i64 0, .int .i64 0] 37)
  have hls1 : w.heap.size < u1.heap.size := xr.lt
  go_wp2_with fail
  generalize u1.alloc (.cells #[.slice none 0 0, .slice (some ⟨q, 0, none⟩) 2 2, .int .i64 0, .int .i64 0] 37) = V at xg hbV ⊢
  have hBV := below_app hB1 hbV hB1.size
  obtain ⟨g, hg⟩ : ∃ g, u1.heap.size = g := ⟨_, rfl⟩
  have hS : DT w p a len cap w.heap.size g ⟨none, 0, 0, 0, zF, some ⟨q, 0, none⟩, 2, 2, q, nwD, 0, 0⟩ V := by
    subst hg
    exact ⟨only_below hBV, hcur.same (hBV.block p hp) hBV.size, hp, Nat.le_refl _, by omega, by omega, xr.grew hbV, xg, ((hrw.grew hbV).down (by omega))⟩
  rw [hg]
  clear hBV hbV xg xr hrw hB1 hb1 hb0 hq
  refine (l1Below_any p a len cap _ _ (hc.only hS.only hB) hB hS.cur).mono ?_
  rintro e v1 ⟨x, hx0, hx1, rfl, ho, hk⟩
  have hx2 := hx1 (by omega)
  have hS1 := hS.draw ho hk
  clear hS ho hk hx1 hls hls1 hg
  have kj : v1.cell? ⟨g, 3, none⟩ = some (.int .i64 0) := hS1.bg.cell 3
  have fj := hS1.bg.froz 3
  have hT := hS1.putCl (2 + x)
  generalize hX : v1.setCell ⟨g, 3, none⟩ (.int .i64 (2 + x)) = Y at hT
  clear hS1
  go_wp2_with fail
  clear kj fj hX
  refine (l1Below_any p a len cap _ _ (hc.only hT.only hB) hB hT.cur).mono ?_
  rintro e v2 ⟨y, hy0, hy1, rfl, ho, hk⟩
  have hy2 := hy1 (by omega)
  have hS2 := hT.draw ho hk
  clear hT ho hk hy1
  have kj : v2.cell? ⟨g, 2, none⟩ = some (.int .i64 0) := hS2.bg.cell 2
  have fj := hS2.bg.froz 2
  have hT := hS2.putAc y
  generalize hX : v2.setCell ⟨g, 2, none⟩ (.int .i64 y) = Y2 at hT
  clear hS2
  go_wp2
  clear kj fj hX
  have HG0 : ∀ j, okSd (nwD j) = true := fun j => by show okSd ⟨20, 0, false⟩ = true; decide
  go_loopw [4] (fun i wr => ∃ (k : Nat) (G : Nat → Sd), k ≤ 2 ∧ i = .int .i64 k ∧ Hid (∀ j, okSd (G j) = true) ∧ DT w p a len cap w.heap.size g ⟨none, 0, 0, 0, zF, some ⟨q, 0, none⟩, 2, 2, q, G, y, 2 + x⟩ wr) (fun i _ => 2 - (intOf i).toNat)
  case atStart => exact ⟨0, nwD, Nat.zero_le _, rfl, HG0, hT⟩
  case round =>
    clear hT HG0
    obtain ⟨k, G, hk, rfl, hG, hS⟩ := hrel
    by_cases hlt : k < 2
    · have y1 : (0 : Int) ≤ (k : Int) := by omega
      have y2 : (k : Int) < 2 := by omega
      have hSD := hS.drew
      have hcD := hc.only hSD.only hB
      have SK0 : wr.drew.cell? ⟨g, 1, none⟩ = some (.slice (some ⟨q, 0, none⟩) 2 2) := hSD.bg.cell 1
      have SKd : ∀ {s : Stt} {u : World}, s.sa = some ⟨q, 0, none⟩ → s.sn = 2 → s.scap = 2 → DT w p a len cap w.heap.size g s u → u.cell? ⟨g, 1, none⟩ = some (.slice (some ⟨q, 0, none⟩) 2 2) := fun {s u} h1 h2 h3 hh => by have := hh.bg.cell 1; simp only [h1, h2, h3] at this; exact this
      have HSD : Hid (∀ {s : Stt} {u : World}, s.sa = some ⟨q, 0, none⟩ → s.sn = 2 → s.scap = 2 → DT w p a len cap w.heap.size g s u → u.cell? ⟨g, 1, none⟩ = some (.slice (some ⟨q, 0, none⟩) 2 2)) := SKd
      clear SKd
      go_wp2_with fail
      go_region_held_law (fun u : World => u.cell? ⟨g, 1, none⟩ = some (.slice (some ⟨q, 0, none⟩) 2 2)) (first | assumption | exact HSD.out rfl rfl rfl (hSD.alloc _) | exact HSD.out rfl rfl rfl hS1 | exact HSD.out rfl rfl rfl (hS1.side (.int .i64 x1) rfl (liS_set hlt x1 G))) ((go_at_call 94; refine (l1Int_new p a len cap [20, 20, 3, 1, 10] 3 wr.drew hcD hB hSD.cur (by decide) (by decide)).mono ?_; rintro e v1 ⟨x1, hx1, rfl, ho1, hk1⟩; have hS1 := hSD.draw ho1 hk1; have kc := (side_cell hS1.rw.os hlt).1; have kf := hS1.rw.os.frozenAt (k * 3)))
      all_goals
        have hT1 := hS1.side (.int .i64 x1) rfl (liS_set hlt x1 G)
        have hG1 : Hid (∀ j, okSd (liS k x1 G j) = true) := liS_ok hG.out (by simp at hx1; omega)
        generalize liS k x1 G = G1 at hT1 hG1
        generalize v1.setCell ⟨q, k * 3, none⟩ (.int .i64 x1) = Y1 at hT1 ⊢
        clear kc kf hS1 hk1 ho1 hx1 SK0 hSD hcD hS hG
        have hSD := hT1.drew
        have hcD := hc.only hSD.only hB
        have SK0 : Y1.drew.cell? ⟨g, 1, none⟩ = some (.slice (some ⟨q, 0, none⟩) 2 2) := hSD.bg.cell 1
        go_wp2_with fail
        go_region_held_law (fun u : World => u.cell? ⟨g, 1, none⟩ = some (.slice (some ⟨q, 0, none⟩) 2 2)) (first | assumption | exact HSD.out rfl rfl rfl (hSD.alloc _) | exact HSD.out rfl rfl rfl hS2 | exact HSD.out rfl rfl rfl (hS2.side (.int .i64 x2) rfl (poS_set hlt x2 G1))) ((go_at_call 94; refine (l1Int_new p a len cap [0, 0, 8, 1] 3 Y1.drew hcD hB hSD.cur (by decide) (by decide)).mono ?_; rintro e v2 ⟨x2, hx2, rfl, ho2, hk2⟩; have hS2 := hSD.draw ho2 hk2; have kc := (side_cell hS2.rw.os hlt).2; have kf := hS2.rw.os.frozenAt (k * 3 + 1)))
        all_goals
          have hT2 := hS2.side (.int .i64 x2) rfl (poS_set hlt x2 G1)
          have hG2 : Hid (∀ j, okSd (poS k x2 G1 j) = true) := poS_ok hG1.out (by simp at hx2; omega)
          generalize poS k x2 G1 = G2 at hT2 hG2
          generalize v2.setCell ⟨q, k * 3 + 1, none⟩ (.int .i64 x2) = Y3 at hT2 ⊢
          clear kc kf hS2 hk2 ho2 hx2 SK0 hSD hcD hT1 hG1 HSD
          go_wp2
          go_roundw
          case rel => first | exact ⟨k + 1, G2, by omega, by go_num, hG2, hT2⟩ | ((repeat apply Exists.intro); exact ⟨⟨k + 1, G2, by omega, by go_num, hG2, hT2⟩, rfl⟩)
          case measure => simp [intOf]; omega
    · go_wp2_with fail
      refine (l1Below_any p a len cap _ _ (hc.only hS.only hB) hB hS.cur).mono ?_
      rintro e v3 ⟨z, hz0', hz1', rfl, ho, hk'⟩
      have hz2' := hz1' (by omega)
      have hS3 := hS.draw ho hk'
      clear hS ho hk' hz1'
      obtain ⟨M, hM⟩ : ∃ M : Nat, 1 + z = (M : Int) := ⟨(1 + z).toNat, by omega⟩
      have hM1 : 1 ≤ M := by omega
      have hM5 : M ≤ 5 := by omega
      go_wp2
      (try rw [hM])
      clear hM hz0' hz2'
      go_loopw [5, 6] (fun iv i wr => ∃ (k m : Nat) (id : Int) (pa : Option Addr) (pcap : Nat) (F : Nat → Pc), k + m = M ∧ i = .int .i64 m ∧ iv = .int .i64 id ∧ 0 ≤ id ∧ id ≤ 2 * (k : Int) ∧ Hid (drF k F id) ∧ DT w p a len cap w.heap.size g ⟨pa, k, pcap, 0, F, some ⟨q, 0, none⟩, 2, 2, q, G, y, 2 + x⟩ wr) (fun _ i _ => (intOf i).toNat)
      case atStart => exact ⟨0, M, 0, none, 0, zF, by omega, rfl, rfl, Int.le_refl _, by omega, ⟨fun j hj => by omega, fun j _ hj => by omega⟩, hS3⟩
      case round =>
        clear hS3
        obtain ⟨k', m, id, pa, pcap, F, hkm, rfl, rfl, hid0, hid1, hF, hS⟩ := hrel
        by_cases hm : m = 0
        · subst hm
          have HD : Hid (drS ⟨pa, k', pcap, 0, F, some ⟨q, 0, none⟩, 2, 2, q, G, y, 2 + x⟩) := by
            refine ⟨⟨by show 1 ≤ k'; omega, by show k' ≤ 5; omega⟩, rfl, ⟨hy0, by show y ≤ 1; omega⟩, ⟨by show 2 ≤ 2 + x; omega, by show 2 + x ≤ 4; omega⟩, ⟨fun j hj => ?_, hF.out.2⟩, fun j _ => hG.out j⟩
            have := hF.out.1 j hj
            exact ⟨this.1, this.2.1, by have := this.2.2; show (F j).id ≤ 10; omega⟩
          have c0 : wr.cell? ⟨g, 0, none⟩ = some (.slice pa k' pcap) := hS.bg.cell 0
          have c1 : wr.cell? ⟨g, 1, none⟩ = some (.slice (some ⟨q, 0, none⟩) 2 2) := hS.bg.cell 1
          have c2 : wr.cell? ⟨g, 2, none⟩ = some (.int .i64 y) := hS.bg.cell 2
          have c3 : wr.cell? ⟨g, 3, none⟩ = some (.int .i64 (2 + x)) := hS.bg.cell 3
          have xr := hS.br
          clear hF hid0 hid1
          go_wp2_with (refine wpList_store_row rfl 37 (.tmp 2) _ rfl w.heap.size _ (by rfl) (by rfl) _ _ xr (by kernel_rfl) (by rfl) (by simp [Value.oneCell']) ?_)
          (try simp only [Exit.inBlock, Exit.then]); refine bodyPost_ret (results_cell_row rfl _ _ w.heap.size _ _ _ _ rfl (setRow_heap _ _ _ _ _ _ xr) Tryz.underlying37 rfl (by kernel_rfl)) rfl ?_
          exact ⟨_, HD.out, rfl, hS.only.setRow (Nat.le_refl _) _, hS.cur.setRow hp _, hS.rw.setRow xr _⟩
        · have hm1 : (0 : Int) < (m : Int) := by omega
          go_wp2_with fail
          refine (l1Below_any p a len cap _ _ (hc.only hS.only hB) hB hS.cur).mono ?_
          rintro e v4 ⟨z, hz0', hz1', rfl, ho, hk'⟩
          have hz2' := hz1' (by omega)
          have hS4 := hS.draw ho hk'
          clear hS ho hk' hz1'
          obtain ⟨id', hid'⟩ : ∃ id', id + 1 + z = id' := ⟨_, rfl⟩
          have HI : Hid (id < id' ∧ 0 ≤ id ∧ 0 ≤ id' ∧ id' ≤ 2 * ((k' + 1 : Nat) : Int)) := by show _ ∧ _; push_cast; omega
          go_wp2_with fail
          (try rw [hid'])
          clear hid' hz0' hz2'
          refine (l4Draw_any p a len cap id' _ (hc.only hS4.only hB) hB hS4.cur).mono ?_
          rintro e v5 ⟨pc, hpc, rfl, ho, hk'⟩
          have hS5 := hS4.draw ho hk'
          clear hS4 ho hk'
          have HF2 : Hid (drF (k' + 1) (snoc k' F pc) id') := drF_snoc hF.out hpc HI.out.1 HI.out.2.1
          clear hpc hF
          have bV := box_new v5 139 pc
          have hS6 := hS5.alloc (.cells #[.int .i64 pc.id, .int .i64 pc.ow, .int .i64 pc.si, .int .i64 pc.zo, .int .i64 pc.st, .int .i64 pc.po, .int .i64 pc.to, .int .i64 pc.tr, .int .i64 pc.pl, .int .i64 pc.mi, .int .i64 pc.ma, .bool pc.de, .bool pc.be] 139)
          generalize hV : v5.alloc (.cells #[.int .i64 pc.id, .int .i64 pc.ow, .int .i64 pc.si, .int .i64 pc.zo, .int .i64 pc.st, .int .i64 pc.po, .int .i64 pc.to, .int .i64 pc.tr, .int .i64 pc.pl, .int .i64 pc.mi, .int .i64 pc.ma, .bool pc.de, .bool pc.be] 139) = V at bV hS6
          obtain ⟨k0, k1, k2, k3, k4, k5, k6, k7, k8, k9, k10, k11, k12⟩ : Cells13 _ _ _ := bV.cells
          have c0 : V.cell? ⟨g, 0, none⟩ = some (.slice pa k' pcap) := hS6.bg.cell 0
          have hown := hS6.rw.op
          have hnews := cells_new V (pcC pc) 139
          have hsz := hS6.only.size
          clear hS5
          go_wp2_with (at_builtin; refine wpList_append_own _ rfl (.tmp 52) (.tmp 54) 34 rfl w.heap.size 139 i0 _ 13 96 Tryz.underlying34 hi hz0 hz1 hz2 rfl (by decide) _ _ _ rfl (hown.alloc _) ⟨V.heap.size, 0, none⟩ 1 1 (pcC pc) rfl rfl hnews (by intro u hu; exact pcC_one 1 (fun _ => pc) u (by simpa [valsE] using hu)) (by show k' + 1 ≤ maxLen; unfold maxLen; omega) (by show (k' + 1) * 96 ≤ _; omega) (by simp; omega) ?_)
          intro w4v w4 hown4 hgr4 _
          obtain ⟨pa4, cap4, rfl, hc4, bg4, hS7⟩ := hS6.app pc hown4 hgr4
          have kj : w4.cell? ⟨g, 0, none⟩ = some (.slice pa k' pcap) := bg4.cell 0
          have fj := bg4.froz 0
          clear k0 k1 k2 k3 k4 k5 k6 k7 k8 k9 k10 k11 k12 c0 hown hnews hsz hS6 hV bV hown4 hgr4
          go_wp2
          obtain ⟨m', rfl⟩ : ∃ m', m = m' + 1 := ⟨m - 1, by omega⟩
          go_roundw
          case rel => first | exact ⟨k' + 1, m', id', pa4, cap4, snoc k' F pc, by omega, by go_num, rfl, HI.out.2.2.1, HI.out.2.2.2, HF2, hS7⟩ | ((repeat apply Exists.intro); exact ⟨⟨k' + 1, m', id', pa4, cap4, snoc k' F pc, by omega, by go_num, rfl, HI.out.2.2.1, HI.out.2.2.2, HF2, hS7⟩, rfl⟩)
          case measure => simp [intOf] <;> omega
end Go.Proofs.YtodfdfncdoliiadGreat
