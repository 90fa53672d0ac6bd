/-
  Chapter 5: a state while it is drawn (DT): what stays of it, what is laid into it. Own work.
-/
import Derived.Test.YtdcgobngmdhmaadGPiece52
import Derived.Test.YtdcgobngmdhmaadGBytes2
import Derived.Test.YtdcgobngmdhmaadDrawP
namespace Go.Proofs.Ytdcgobngmdhmaad
open Go.ChangeShapes Go.WideShapes Go.ChangeAt Go.RowKit
set_option maxRecDepth 100000
set_option linter.unusedVariables false
set_option linter.unusedSimpArgs false
/-- both rows of a state lie in memory of the call's own, from the beginning of their blocks -/
structure RowsT (w : World) (B : Nat) (s : Stt) : Prop where
  op : w.ownsRow B 81 13 (.slice s.pa s.pn s.pcap) s.pn (valsE pcC s.pn s.ps)
  os : w.ownsRow B 79 3 (.slice s.sa s.sn s.scap) s.sn (valsE sdC s.sn s.ss)
/-- while a state is drawn: the cursor p, the answer's cell r, the state under way at g -/
structure DT (w : World) (p : Nat) (a : Option Addr) (len cap r g : Nat) (s : Stt) (u : World) : Prop where
  only : Only p w u
  cur : Cur u p a len cap
  pr : p < w.heap.size
  hr : w.heap.size ≤ r
  hg : w.heap.size ≤ g
  ne : r ≠ g
  br : BoxR u r 45 #[.slice none 0 0, .slice none 0 0, .int .i64 0, .int .i64 0]
  bg : BoxR u g 45 #[.slice s.pa s.pn s.pcap, .slice s.sa s.sn s.scap, .int .i64 s.ac, .int .i64 s.cl]
  rw : RowsT u w.heap.size s
theorem row_down {w : World} {base base' : Nat} {e : TypeId} {size : Nat} {v : Value} {n : Nat} {xs : List Value} (h : w.ownsRow base e size v n xs) (hb : base' ≤ base) : w.ownsRow base' e size v n xs := by
  refine ⟨h.1, ?_⟩
  rcases h.2 with h' | ⟨g, cap, cur, rfl, h1, h3⟩
  · exact .inl h'
  · exact .inr ⟨g, cap, cur, rfl, Nat.le_trans hb h1, h3⟩
theorem RowsT.same {w w' : World} {B : Nat} {s : Stt} (h : RowsT w B s) (hs : ∀ q, B ≤ q → q < w.heap.size → (∃ t cs, t ≠ 45 ∧ w.heap[q]? = some (.cells cs t (0, 0))) → w'.heap[q]? = w.heap[q]?) : RowsT w' B s := by
  have k : ∀ {e : TypeId} {m n : Nat} {v : Value} {xs : List Value}, e ≠ 45 → w.ownsRow B e m v n xs → w'.ownsRow B e m v n xs := fun {e m n v xs} he hh => row_same hh (fun q hq => by
    have hl := hh.lt q hq
    refine hs q hl.1 hl.2 ?_
    rcases hh.2 with ⟨rfl, _⟩ | ⟨g, c, cur, rfl, h1, h2, h3⟩
    · simp [Value.ownBlock] at hq
    · simp only [Value.ownBlock, Option.some.injEq] at hq
      subst hq
      exact ⟨e, cur, he, h2⟩)
  exact ⟨k (by decide) h.op, k (by decide) h.os⟩
theorem RowsT.grew {w w' : World} {B : Nat} {s : Stt} (h : RowsT w B s) (hb : Below w.heap.size w w') : RowsT w' B s := ⟨row_grewE h.op hb, row_grewE h.os hb⟩
theorem RowsT.down {w : World} {B B' : Nat} {s : Stt} (h : RowsT w B s) (hB : B' ≤ B) : RowsT w B' s := ⟨row_down h.op hB, row_down h.os hB⟩
theorem RowsT.only {w w' : World} {B p : Nat} {s : Stt} (h : RowsT w B s) (ho : Only p w w') (hp : p < B) : RowsT w' B s :=
  h.same (fun q h1 h2 _ => ho.block q h2 (by omega))
/-- what lies in a box of a state's type is none of the rows -/
theorem RowsT.set {w : World} {B g j : Nat} {s : Stt} {cs : Array Value} (h : RowsT w B s) (hb : BoxR w g 45 cs) (v : Value) : RowsT (w.setCell ⟨g, j, none⟩ v) B s :=
  ⟨row_set h.op (own_ne h.op hb (by decide)) v, row_set h.os (own_ne h.os hb (by decide)) v⟩
theorem RowsT.setRow {w : World} {B g : Nat} {s : Stt} {cs : Array Value} (h : RowsT w B s) (hb : BoxR w g 45 cs) (ds : Array Value) : RowsT (w.setRow g ds) B s :=
  ⟨row_setRow' h.op (own_ne h.op hb (by decide)) ds, row_setRow' h.os (own_ne h.os hb (by decide)) ds⟩
section
variable {w : World} {p : Nat} {a : Option Addr} {len cap r g : Nat} {s : Stt} {u u' : World}
theorem DT.draw (h : DT w p a len cap r g s u) (ho : Only p u u') (hk : Cur u' p a len cap) : DT w p a len cap r g s u' :=
  have h1 := h.pr
  have h2 := h.hr
  have h3 := h.hg
  ⟨h.only.trans ho, hk, h.pr, h.hr, h.hg, h.ne, h.br.onlyR ho (by omega), h.bg.onlyR ho (by omega), h.rw.only ho h.pr⟩
theorem DT.alloc (h : DT w p a len cap r g s u) (o : Obj) : DT w p a len cap r g s (u.alloc o) :=
  ⟨h.only.alloc o, h.cur.only ((Only.refl u.heap.size u).alloc o) (Nat.ne_of_lt h.cur.1), h.pr, h.hr, h.hg, h.ne, h.br.alloc o, h.bg.alloc o, h.rw.grew (below_new2'' u o)⟩
theorem DT.drew (h : DT w p a len cap r g s u) : DT w p a len cap r g s u.drew := ⟨h.only.drew, h.cur, h.pr, h.hr, h.hg, h.ne, h.br, h.bg, ⟨h.rw.op, h.rw.os⟩⟩
/-- another state's value is laid into the box's cell j -/
theorem DT.put (h : DT w p a len cap r g s u) (j : Nat) (v : Value) {s' : Stt} (e : (#[.slice s.pa s.pn s.pcap, .slice s.sa s.sn s.scap, .int .i64 s.ac, .int .i64 s.cl] : Array Value).setIfInBounds j v = #[.slice s'.pa s'.pn s'.pcap, .slice s'.sa s'.sn s'.scap, .int .i64 s'.ac, .int .i64 s'.cl]) (hrw : RowsT (u.setCell ⟨g, j, none⟩ v) w.heap.size s') : DT w p a len cap r g s' (u.setCell ⟨g, j, none⟩ v) :=
  have h1 := h.pr
  have h3 := h.hg
  ⟨h.only.setCell (.inr h.hg) v, h.cur.only ((Only.refl g u).setCell (.inl rfl) v) (by omega), h.pr, h.hr, h.hg, h.ne, h.br.other (q := ⟨g, j, none⟩) h.ne v, by have := h.bg.put j v; rwa [e] at this, hrw⟩
theorem DT.putAc (h : DT w p a len cap r g s u) (x : Int) : DT w p a len cap r g { s with ac := x } (u.setCell ⟨g, 2, none⟩ (.int .i64 x)) :=
  h.put 2 (.int .i64 x) rfl ⟨(h.rw.set h.bg _).op, (h.rw.set h.bg _).os⟩
theorem DT.putCl (h : DT w p a len cap r g s u) (x : Int) : DT w p a len cap r g { s with cl := x } (u.setCell ⟨g, 3, none⟩ (.int .i64 x)) :=
  h.put 3 (.int .i64 x) rfl ⟨(h.rw.set h.bg _).op, (h.rw.set h.bg _).os⟩
/-- a store into the row of sides -/
theorem DT.side (h : DT w p a len cap r g s u) {q j : Nat} (v : Value) (hs : s.sa = some ⟨q, 0, none⟩) {G : Nat → Sd} (hG : (valsE sdC s.sn s.ss).set j v = valsE sdC s.sn G) : DT w p a len cap r g { s with ss := G } (u.setCell ⟨q, j, none⟩ v) := by
  have hos := h.rw.os
  rw [hs] at hos
  have hq := hos.lt q rfl
  have hst := hos.stored j v
  have n1 : r ≠ q := fun e => own_ne hos h.br (by decide) (by rw [e]; rfl)
  have n2 : g ≠ q := fun e => own_ne hos h.bg (by decide) (by rw [e]; rfl)
  have h1 := h.pr
  refine ⟨h.only.setCell (.inr hq.1) v, h.cur.only ((Only.refl q u).setCell (.inl rfl) v) (by omega), h.pr, h.hr, h.hg, h.ne, h.br.other (q := ⟨q, j, none⟩) n1 v, h.bg.other (q := ⟨q, j, none⟩) n2 v, ?_⟩
  refine ⟨row_set h.rw.op (fun e => row_two hos h.rw.op (by decide) rfl e) v, ?_⟩
  have := hst.1
  rw [hG] at this
  show (u.setCell ⟨q, j, none⟩ v).ownsRow _ _ _ (.slice s.sa s.sn s.scap) s.sn (valsE sdC s.sn G)
  rw [hs]
  exact this
/-- a row grew by append, in the world w4 -/
theorem only_grown {o : Obj} {w4 : World} {v : Value} {B e m n : Nat} {xs : List Value} (h : Only p w u) (hv : u.ownsRow w.heap.size e m v n xs) (hg4 : (u.alloc o).grownBy w4 v.ownBlock) : Only p w w4 := by
  refine ⟨hg4.os.trans h.os, hg4.tape.trans h.tape, hg4.output.trans h.output, Nat.le_trans h.size (Nat.le_trans (by simp) hg4.size), fun k hk hp => ?_⟩
  have := h.size
  rw [hg4.block k (by simp; omega) (fun e => by have := (hv.lt k e.symm).1; omega), Below.heap_alloc u o k (by omega)]
  exact h.block k hk hp
theorem cur_grown {o : Obj} {w4 : World} {v : Value} {e m n : Nat} {xs : List Value} (hc : Cur u p a len cap) (hp : p < w.heap.size) (hv : u.ownsRow w.heap.size e m v n xs) (hg4 : (u.alloc o).grownBy w4 v.ownBlock) : Cur w4 p a len cap :=
  hc.same ((hg4.block p (by have := hc.1; simp; omega) (fun e => by have := (hv.lt p e.symm).1; omega)).trans (Below.heap_alloc u o p hc.1)) (Nat.le_trans (by simp) hg4.size)
def snoc {α : Type} (n : Nat) (f : Nat → α) (x : α) : Nat → α := fun i => if i = n then x else f i
theorem valsE_snoc' {α : Type} {C : α → List Value} {m : Nat} (hm : ∀ x, (C x).length = m) (n : Nat) (f : Nat → α) (x : α) : valsE C n f ++ C x = valsE C (n + 1) (snoc n f x) := by
  rw [valsE_snoc, valsE_congr hm (f := f) (g := snoc n f x) (fun i hi => by unfold snoc; rw [if_neg (by omega)])]
  unfold snoc
  rw [if_pos rfl]
theorem DT.app (h : DT w p a len cap r g s u) {o : Obj} {w4 : World} {v4 : Value} (q : Pc) (ho : w4.ownsRow w.heap.size 81 13 v4 (s.pn + 1) (valsE pcC s.pn s.ps ++ pcC q)) (hg4 : (u.alloc o).grownBy w4 (Value.slice s.pa s.pn s.pcap).ownBlock) :
    ∃ pa' cap', v4 = .slice pa' (s.pn + 1) cap' ∧ Cur w4 p a len cap ∧ BoxR w4 g 45 #[.slice s.pa s.pn s.pcap, .slice s.sa s.sn s.scap, .int .i64 s.ac, .int .i64 s.cl] ∧ DT w p a len cap r g { s with pa := pa', pn := s.pn + 1, pcap := cap', ps := snoc s.pn s.ps q } (w4.setCell ⟨g, 0, none⟩ (.slice pa' (s.pn + 1) cap')) := by
  obtain ⟨pa', cap', rfl, _⟩ := row_form ho
  have hA := h.alloc o
  have br4 : BoxR w4 r 45 #[.slice none 0 0, .slice none 0 0, .int .i64 0, .int .i64 0] := (hg4.block _ hA.br.lt (own_ne h.rw.op h.br (by decide))).trans hA.br
  have bg4 : BoxR w4 g 45 #[.slice s.pa s.pn s.pcap, .slice s.sa s.sn s.scap, .int .i64 s.ac, .int .i64 s.cl] := (hg4.block _ hA.bg.lt (own_ne h.rw.op h.bg (by decide))).trans hA.bg
  have os4 : w4.ownsRow w.heap.size 79 3 (.slice s.sa s.sn s.scap) s.sn (valsE sdC s.sn s.ss) := row_same hA.rw.os (fun q hq => hg4.block q (hA.rw.os.lt q hq).2 (row_two h.rw.os h.rw.op (by decide) hq))
  rw [valsE_snoc' pcC_len] at ho
  have hc4 := cur_grown h.cur h.pr h.rw.op hg4
  have h1 := h.pr
  have h3 := h.hg
  refine ⟨pa', cap', rfl, hc4, bg4, ⟨(only_grown (B := 0) h.only h.rw.op hg4).setCell (.inr h.hg) _, hc4.only ((Only.refl g w4).setCell (.inl rfl) _) (by omega), h.pr, h.hr, h.hg, h.ne, br4.other (q := ⟨g, 0, none⟩) h.ne _, bg4.put 0 _, ⟨row_set ho (own_ne ho bg4 (by decide)) _, row_set os4 (own_ne os4 bg4 (by decide)) _⟩⟩⟩
theorem DT.appS (h : DT w p a len cap r g s u) {o : Obj} {w4 : World} {v4 : Value} (q : Sd) (ho : w4.ownsRow w.heap.size 79 3 v4 (s.sn + 1) (valsE sdC s.sn s.ss ++ sdC q)) (hg4 : (u.alloc o).grownBy w4 (Value.slice s.sa s.sn s.scap).ownBlock) :
    ∃ sa' cap', v4 = .slice sa' (s.sn + 1) cap' ∧ Cur w4 p a len cap ∧ BoxR w4 g 45 #[.slice s.pa s.pn s.pcap, .slice s.sa s.sn s.scap, .int .i64 s.ac, .int .i64 s.cl] ∧ DT w p a len cap r g { s with sa := sa', sn := s.sn + 1, scap := cap', ss := snoc s.sn s.ss q } (w4.setCell ⟨g, 1, none⟩ (.slice sa' (s.sn + 1) cap')) := by
  obtain ⟨sa', cap', rfl, _⟩ := row_form ho
  have hA := h.alloc o
  have br4 : BoxR w4 r 45 #[.slice none 0 0, .slice none 0 0, .int .i64 0, .int .i64 0] := (hg4.block _ hA.br.lt (own_ne h.rw.os h.br (by decide))).trans hA.br
  have bg4 : BoxR w4 g 45 #[.slice s.pa s.pn s.pcap, .slice s.sa s.sn s.scap, .int .i64 s.ac, .int .i64 s.cl] := (hg4.block _ hA.bg.lt (own_ne h.rw.os h.bg (by decide))).trans hA.bg
  have op4 : w4.ownsRow w.heap.size 81 13 (.slice s.pa s.pn s.pcap) s.pn (valsE pcC s.pn s.ps) := row_same hA.rw.op (fun q hq => hg4.block q (hA.rw.op.lt q hq).2 (row_two h.rw.op h.rw.os (by decide) hq))
  rw [valsE_snoc' sdC_len] at ho
  have hc4 := cur_grown h.cur h.pr h.rw.os hg4
  have h1 := h.pr
  have h3 := h.hg
  refine ⟨sa', cap', rfl, hc4, bg4, ⟨(only_grown (B := 0) h.only h.rw.os hg4).setCell (.inr h.hg) _, hc4.only ((Only.refl g w4).setCell (.inl rfl) _) (by omega), h.pr, h.hr, h.hg, h.ne, br4.other (q := ⟨g, 1, none⟩) h.ne _, bg4.put 1 _, ⟨row_set op4 (own_ne op4 bg4 (by decide)) _, row_set ho (own_ne ho bg4 (by decide)) _⟩⟩⟩
end
/-- a new state of two sides, as the draws begin with it -/
theorem specStateNew_two (w : World) : Calls Try.prog 37 #[.int .i64 2] w fun e w' => e = .returned (.agg #[.slice none 0 0, .slice (some ⟨w.heap.size + 1, 0, none⟩) 2 2, .int .i64 0, .int .i64 0]) ∧ Below w.heap.size w w' ∧ RowsT w' w.heap.size ⟨none, 0, 0, 0, zF, some ⟨w.heap.size + 1, 0, none⟩, 2, 2, w.heap.size + 1, nwD, 0, 0⟩ := by
  go_enter Try.func37, Try.ntmps37
  go_wp2
  (try simp only [Exit.inBlock, Exit.then]); refine bodyPost_ret (results_cell_row rfl _ _ w.heap.size _ _ _ _ rfl (((boxR_new w 45 #[.slice none 0 0, .slice (some ⟨w.heap.size + 1, 0, none⟩) 2 2, .int .i64 0, .int .i64 0]).alloc (.cells #[.int .i64 20, .int .i64 0, .bool false, .int .i64 20, .int .i64 0, .bool false] 79)).alloc (.cells #[.slice none 0 0, .slice (some ⟨w.heap.size + 1, 0, none⟩) 2 2, .int .i64 0, .int .i64 0] 45)) Try.underlying45 rfl (by kernel_rfl)) rfl ?_
  refine ⟨rfl, (((Below.refl _ w).alloc (Nat.le_refl _) _).alloc (by simp) _).alloc (by simp; omega) _, World.ownsRow_nil _ _ _ _, ?_⟩
  have := (World.ownsRow_lit (base := w.heap.size) (e := 79) (size := 3) (w.alloc (.cells #[.slice none 0 0, .slice (some ⟨w.heap.size + 1, 0, none⟩) 2 2, .int .i64 0, .int .i64 0] 45)) #[.int .i64 20, .int .i64 0, .bool false, .int .i64 20, .int .i64 0, .bool false] 2 (by simp) (by decide) rfl).alloc (.cells #[.slice none 0 0, .slice (some ⟨w.heap.size + 1, 0, none⟩) 2 2, .int .i64 0, .int .i64 0] 45)
  rw [World.size_alloc] at this
  exact this
end Go.Proofs.Ytdcgobngmdhmaad
