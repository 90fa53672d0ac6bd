/-
  Chapter 9: an act while it is drawn (DA). Written by tools/drawac.gen.py. Own work.
-/
import Derived.Test.YtdcgobngmdhmaadDrawEv
import Derived.Test.YtdcgobngmdhmaadGAcC7
namespace Go.Proofs.Ytdcgobngmdhmaad
open Go.ChangeShapes Go.WideShapes Go.ChangeAt Go.RowKit
set_option maxRecDepth 100000
set_option linter.unusedVariables false
set_option linter.unusedSimpArgs false

/-- an act's list lies in memory of the call's own -/
def RowA (w : World) (B : Nat) (t : Ac) : Prop := w.ownsRow B 51 7 (.slice t.la t.ln t.lcap) t.ln (valsE evC t.ln t.es)
/-- its numbers, and those of its things, are such as an int can be -/
def Ac.wf (t : Ac) : Prop := (inI64 t.kd ∧ inI64 t.nn ∧ inI64 t.pi ∧ inI64 t.si ∧ inI64 t.zo) ∧ ∀ i, i < t.ln → (t.es i).wf
theorem RowA.only {w w' : World} {B p : Nat} {t : Ac} (h : RowA w B t) (ho : Only p w w') (hp : p < B) : RowA w' B t :=
  row_same h (fun q hq => ho.block q (World.ownsRow.lt h q hq).2 (by have := (World.ownsRow.lt h q hq).1; omega))
theorem RowA.grew {w w' : World} {B : Nat} {t : Ac} (h : RowA w B t) (hb : Below w.heap.size w w') : RowA w' B t := row_grewE h hb
theorem RowA.down {w : World} {B B' : Nat} {t : Ac} (h : RowA w B t) (hB : B' ≤ B) : RowA w B' t := row_down h hB
/-- while an act is drawn: the cursor p, the state's cell and the answer's cell ahead of g, the act under way at g -/
structure DA (w : World) (p : Nat) (a : Option Addr) (len cap : Nat) (s : Stt) (g : Nat) (t : Ac) (u : World) : Prop where
  only : Only p w u
  cur : Cur u p a len cap
  pr : p < w.heap.size
  rg : w.heap.size + 1 < g
  bx : BoxR u w.heap.size 45 #[.slice s.pa s.pn s.pcap, .slice s.sa s.sn s.scap, .int .i64 s.ac, .int .i64 s.cl]
  br : BoxR u (w.heap.size + 1) 30 #[.int .i64 0, .int .i64 0, .int .i64 0, .int .i64 0, .int .i64 0, .bool false, .slice none 0 0]
  bg : BoxR u g 30 #[.int .i64 t.kd, .int .i64 t.nn, .int .i64 t.pi, .int .i64 t.si, .int .i64 t.zo, .bool t.be, .slice t.la t.ln t.lcap]
  rw : RowA u w.heap.size t
  wf : t.wf
section
variable {w : World} {p : Nat} {a : Option Addr} {len cap : Nat} {s : Stt} {g : Nat} {t : Ac} {u u' : World}
theorem DA.draw (h : DA w p a len cap s g t u) (ho : Only p u u') (hk : Cur u' p a len cap) : DA w p a len cap s g t u' :=
  have h1 := h.pr
  have h2 := h.rg
  ⟨h.only.trans ho, hk, h.pr, h.rg, h.bx.onlyR ho (by omega), h.br.onlyR ho (by omega), h.bg.onlyR ho (by omega), h.rw.only ho h.pr, h.wf⟩
theorem DA.alloc (h : DA w p a len cap s g t u) (o : Obj) : DA w p a len cap s g t (u.alloc o) :=
  ⟨h.only.alloc o, h.cur.only ((Only.refl u.heap.size u).alloc o) (Nat.ne_of_lt h.cur.1), h.pr, h.rg, h.bx.alloc o, h.br.alloc o, h.bg.alloc o, h.rw.grew (below_new2'' u o), h.wf⟩
theorem DA.put (h : DA w p a len cap s g t u) (j : Nat) (v : Value) {t' : Ac} (e : (#[.int .i64 t.kd, .int .i64 t.nn, .int .i64 t.pi, .int .i64 t.si, .int .i64 t.zo, .bool t.be, .slice t.la t.ln t.lcap] : Array Value).setIfInBounds j v = #[.int .i64 t'.kd, .int .i64 t'.nn, .int .i64 t'.pi, .int .i64 t'.si, .int .i64 t'.zo, .bool t'.be, .slice t'.la t'.ln t'.lcap]) (hrw : RowA (u.setCell ⟨g, j, none⟩ v) w.heap.size t') (hw : t'.wf) : DA w p a len cap s g t' (u.setCell ⟨g, j, none⟩ v) :=
  have h1 := h.pr
  have h2 := h.rg
  ⟨h.only.setCell (.inr (by show w.heap.size ≤ g; omega)) v, h.cur.only ((Only.refl g u).setCell (.inl rfl) v) (by omega), h.pr, h.rg, h.bx.other (q := ⟨g, j, none⟩) (by show w.heap.size ≠ g; omega) v, h.br.other (q := ⟨g, j, none⟩) (by show w.heap.size + 1 ≠ g; omega) v, by have := h.bg.put j v; rwa [e] at this, hrw, hw⟩
theorem DA.same (h : DA w p a len cap s g t u) (j : Nat) (v : Value) : u.ownsRow w.heap.size 51 7 (.slice t.la t.ln t.lcap) t.ln (valsE evC t.ln t.es) → (u.setCell ⟨g, j, none⟩ v).ownsRow w.heap.size 51 7 (.slice t.la t.ln t.lcap) t.ln (valsE evC t.ln t.es) :=
  fun k => row_set k (own_ne k h.bg (by decide)) v
theorem DA.putKd (h : DA w p a len cap s g t u) {x : Int} (hx : inI64 x) : DA w p a len cap s g { t with kd := x } (u.setCell ⟨g, 0, none⟩ (.int .i64 x)) :=
  h.put 0 _ rfl (h.same 0 _ h.rw) ⟨⟨hx, h.wf.1.2.1, h.wf.1.2.2.1, h.wf.1.2.2.2.1, h.wf.1.2.2.2.2⟩, h.wf.2⟩
theorem DA.putNn (h : DA w p a len cap s g t u) {x : Int} (hx : inI64 x) : DA w p a len cap s g { t with nn := x } (u.setCell ⟨g, 1, none⟩ (.int .i64 x)) :=
  h.put 1 _ rfl (h.same 1 _ h.rw) ⟨⟨h.wf.1.1, hx, h.wf.1.2.2.1, h.wf.1.2.2.2.1, h.wf.1.2.2.2.2⟩, h.wf.2⟩
theorem DA.putPi (h : DA w p a len cap s g t u) {x : Int} (hx : inI64 x) : DA w p a len cap s g { t with pi := x } (u.setCell ⟨g, 2, none⟩ (.int .i64 x)) :=
  h.put 2 _ rfl (h.same 2 _ h.rw) ⟨⟨h.wf.1.1, h.wf.1.2.1, hx, h.wf.1.2.2.2.1, h.wf.1.2.2.2.2⟩, h.wf.2⟩
theorem DA.putSi (h : DA w p a len cap s g t u) {x : Int} (hx : inI64 x) : DA w p a len cap s g { t with si := x } (u.setCell ⟨g, 3, none⟩ (.int .i64 x)) :=
  h.put 3 _ rfl (h.same 3 _ h.rw) ⟨⟨h.wf.1.1, h.wf.1.2.1, h.wf.1.2.2.1, hx, h.wf.1.2.2.2.2⟩, h.wf.2⟩
theorem DA.putZo (h : DA w p a len cap s g t u) {x : Int} (hx : inI64 x) : DA w p a len cap s g { t with zo := x } (u.setCell ⟨g, 4, none⟩ (.int .i64 x)) :=
  h.put 4 _ rfl (h.same 4 _ h.rw) ⟨⟨h.wf.1.1, h.wf.1.2.1, h.wf.1.2.2.1, h.wf.1.2.2.2.1, hx⟩, h.wf.2⟩
theorem DA.putBe (h : DA w p a len cap s g t u) (x : Bool) : DA w p a len cap s g { t with be := x } (u.setCell ⟨g, 5, none⟩ (.bool x)) :=
  h.put 5 _ rfl (h.same 5 _ h.rw) h.wf
theorem DA.app (h : DA w p a len cap s g t u) {o : Obj} {w4 : World} {v4 : Value} (q : Ev) (hq : q.wf) (ho : w4.ownsRow w.heap.size 51 7 v4 (t.ln + 1) (valsE evC t.ln t.es ++ evC q)) (hg4 : (u.alloc o).grownBy w4 (Value.slice t.la t.ln t.lcap).ownBlock) :
    ∃ la' cap', v4 = .slice la' (t.ln + 1) cap' ∧ Cur w4 p a len cap ∧ BoxR w4 g 30 #[.int .i64 t.kd, .int .i64 t.nn, .int .i64 t.pi, .int .i64 t.si, .int .i64 t.zo, .bool t.be, .slice t.la t.ln t.lcap] ∧ DA w p a len cap s g { t with la := la', ln := t.ln + 1, lcap := cap', es := snoc t.ln t.es q } (w4.setCell ⟨g, 6, none⟩ (.slice la' (t.ln + 1) cap')) := by
  obtain ⟨la', cap', rfl, _⟩ := row_form ho
  have hA := h.alloc o
  have bx4 : BoxR w4 w.heap.size 45 #[.slice s.pa s.pn s.pcap, .slice s.sa s.sn s.scap, .int .i64 s.ac, .int .i64 s.cl] := (hg4.block _ hA.bx.lt (own_ne h.rw h.bx (by decide))).trans hA.bx
  have br4 : BoxR w4 (w.heap.size + 1) 30 #[.int .i64 0, .int .i64 0, .int .i64 0, .int .i64 0, .int .i64 0, .bool false, .slice none 0 0] := (hg4.block _ hA.br.lt (own_ne h.rw h.br (by decide))).trans hA.br
  have bg4 : BoxR w4 g 30 #[.int .i64 t.kd, .int .i64 t.nn, .int .i64 t.pi, .int .i64 t.si, .int .i64 t.zo, .bool t.be, .slice t.la t.ln t.lcap] := (hg4.block _ hA.bg.lt (own_ne h.rw h.bg (by decide))).trans hA.bg
  rw [valsE_snoc' evC_len] at ho
  have hc4 := cur_grown h.cur h.pr h.rw hg4
  have h1 := h.pr
  have h2 := h.rg
  refine ⟨la', cap', rfl, hc4, bg4, ⟨(only_grown (B := 0) h.only h.rw hg4).setCell (.inr (by show w.heap.size ≤ g; omega)) _, hc4.only ((Only.refl g w4).setCell (.inl rfl) _) (by omega), h.pr, h.rg, bx4.other (q := ⟨g, 6, none⟩) (by show w.heap.size ≠ g; omega) _, br4.other (q := ⟨g, 6, none⟩) (by show w.heap.size + 1 ≠ g; omega) _, bg4.put 6 _, row_set ho (own_ne ho bg4 (by decide)) _, ⟨h.wf.1, fun i hi => ?_⟩⟩⟩
  show (snoc t.ln t.es q i).wf
  unfold snoc
  by_cases e : i = t.ln
  · rw [if_pos e]; exact hq
  · rw [if_neg e]; exact h.wf.2 i (by simp only at hi; omega)
end
/-- a list of the call's own in a form that the laws of acts take -/
theorem RowA.own {w : World} {B : Nat} {t : Ac} (h : RowA w B t) (hn : t.ln ≠ 0) : ∃ lb, OwnA w B { t with lb := lb } := by
  have hne : Value.slice t.la t.ln t.lcap ≠ .slice none 0 0 := by intro e; simp at e; exact hn e.2.1
  have hcap : t.lcap ≤ maxLen := h.2.elim (fun k => absurd k.1 hne) (fun k => by
    obtain ⟨g, cap, cur, hv, _, _, _, hm, _⟩ := k
    simp only [Value.slice.injEq] at hv
    omega)
  obtain ⟨q, c, e, hc, ho⟩ := own_ofE evC_len h hne
  simp only [Value.slice.injEq] at e
  obtain ⟨e4, _, e6⟩ := e
  refine ⟨q, by show t.ln ≤ t.lcap; omega, hcap, ?_⟩
  show OwnE evC 7 w B q t.la t.ln t.es
  rw [e4]; exact ho
end Go.Proofs.Ytdcgobngmdhmaad
