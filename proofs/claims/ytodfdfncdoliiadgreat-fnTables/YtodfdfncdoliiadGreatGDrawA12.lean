/-
  Chapter 9: an act while it is drawn (DA). Written by tools/drawac.gen.py. Chapter 9: the draw l9Draw. Written by tools/drawac.gen.py. Own work.
-/
import Derived.Test.YtodfdfncdoliiadGreatGDrawId2
import Derived.Test.YtodfdfncdoliiadGreatGSpA5
import Derived.Deep.DeepCutAuto
import Derived.Deep.CutBlock
namespace Go.Proofs.YtodfdfncdoliiadGreat
open Go.ChangeShapes Go.WideShapes Go.ChangeAt Go.RowKit
set_option maxRecDepth 100000
set_option linter.unusedVariables false
set_option linter.unusedSimpArgs false

/-- an act's list lies in memory of the call's own -/
def RowA (w : World) (B : Nat) (t : Ac) : Prop := w.ownsRow B 39 7 (.slice t.la t.ln t.lcap) t.ln (valsE evC t.ln t.es)
/-- its numbers, and those of its things, are such as an int can be -/
def Ac.wf (t : Ac) : Prop := (inI64 t.kd ∧ inI64 t.nn ∧ inI64 t.pi ∧ inI64 t.si ∧ inI64 t.zo) ∧ ∀ i, i < t.ln → (t.es i).wf
theorem RowA.only {w w' : World} {B p : Nat} {t : Ac} (h : RowA w B t) (ho : Only p w w') (hp : p < B) : RowA w' B t :=
  row_same h (fun q hq => ho.block q (World.ownsRow.lt h q hq).2 (by have := (World.ownsRow.lt h q hq).1; omega))
theorem RowA.grew {w w' : World} {B : Nat} {t : Ac} (h : RowA w B t) (hb : Below w.heap.size w w') : RowA w' B t := row_grewE h hb
theorem RowA.down {w : World} {B B' : Nat} {t : Ac} (h : RowA w B t) (hB : B' ≤ B) : RowA w B' t := row_down h hB
/-- while an act is drawn: the cursor p, the state's cell and the answer's cell ahead of g, the act under way at g -/
structure DA (w : World) (p : Nat) (a : Option Addr) (len cap : Nat) (s : Stt) (g : Nat) (t : Ac) (u : World) : Prop where
  only : Only p w u
  cur : Cur u p a len cap
  pr : p < w.heap.size
  rg : w.heap.size + 1 < g
  bx : BoxR u w.heap.size 37 #[.slice s.pa s.pn s.pcap, .slice s.sa s.sn s.scap, .int .i64 s.ac, .int .i64 s.cl]
  br : BoxR u (w.heap.size + 1) 30 #[.int .i64 0, .int .i64 0, .int .i64 0, .int .i64 0, .int .i64 0, .bool false, .slice none 0 0]
  bg : BoxR u g 30 #[.int .i64 t.kd, .int .i64 t.nn, .int .i64 t.pi, .int .i64 t.si, .int .i64 t.zo, .bool t.be, .slice t.la t.ln t.lcap]
  rw : RowA u w.heap.size t
  wf : t.wf
section
variable {w : World} {p : Nat} {a : Option Addr} {len cap : Nat} {s : Stt} {g : Nat} {t : Ac} {u u' : World}
theorem DA.draw (h : DA w p a len cap s g t u) (ho : Only p u u') (hk : Cur u' p a len cap) : DA w p a len cap s g t u' :=
  have h1 := h.pr
  have h2 := h.rg
  ⟨h.only.trans ho, hk, h.pr, h.rg, h.bx.onlyR ho (by omega), h.br.onlyR ho (by omega), h.bg.onlyR ho (by omega), h.rw.only ho h.pr, h.wf⟩
theorem DA.alloc (h : DA w p a len cap s g t u) (o : Obj) : DA w p a len cap s g t (u.alloc o) :=
  ⟨h.only.alloc o, h.cur.only ((Only.refl u.heap.size u).alloc o) (Nat.ne_of_lt h.cur.1), h.pr, h.rg, h.bx.alloc o, h.br.alloc o, h.bg.alloc o, h.rw.grew (below_new2'' u o), h.wf⟩
theorem DA.put (h : DA w p a len cap s g t u) (j : Nat) (v : Value) {t' : Ac} (e : (#[.int .i64 t.kd, .int .i64 t.nn, .int .i64 t.pi, .int .i64 t.si, .int .i64 t.zo, .bool t.be, .slice t.la t.ln t.lcap] : Array Value).setIfInBounds j v = #[.int .i64 t'.kd, .int .i64 t'.nn, .int .i64 t'.pi, .int .i64 t'.si, .int .i64 t'.zo, .bool t'.be, .slice t'.la t'.ln t'.lcap]) (hrw : RowA (u.setCell ⟨g, j, none⟩ v) w.heap.size t') (hw : t'.wf) : DA w p a len cap s g t' (u.setCell ⟨g, j, none⟩ v) :=
  have h1 := h.pr
  have h2 := h.rg
  ⟨h.only.setCell (.inr (by show w.heap.size ≤ g; omega)) v, h.cur.only ((Only.refl g u).setCell (.inl rfl) v) (by omega), h.pr, h.rg, h.bx.other (q := ⟨g, j, none⟩) (by show w.heap.size ≠ g; omega) v, h.br.other (q := ⟨g, j, none⟩) (by show w.heap.size + 1 ≠ g; omega) v, by have := h.bg.put j v; rwa [e] at this, hrw, hw⟩
theorem DA.same (h : DA w p a len cap s g t u) (j : Nat) (v : Value) : u.ownsRow w.heap.size 39 7 (.slice t.la t.ln t.lcap) t.ln (valsE evC t.ln t.es) → (u.setCell ⟨g, j, none⟩ v).ownsRow w.heap.size 39 7 (.slice t.la t.ln t.lcap) t.ln (valsE evC t.ln t.es) :=
  fun k => row_set k (own_ne k h.bg (by decide)) v
theorem DA.putKd (h : DA w p a len cap s g t u) {x : Int} (hx : inI64 x) : DA w p a len cap s g { t with kd := x } (u.setCell ⟨g, 0, none⟩ (.int .i64 x)) :=
  h.put 0 _ rfl (h.same 0 _ h.rw) ⟨⟨hx, h.wf.1.2.1, h.wf.1.2.2.1, h.wf.1.2.2.2.1, h.wf.1.2.2.2.2⟩, h.wf.2⟩
theorem DA.putNn (h : DA w p a len cap s g t u) {x : Int} (hx : inI64 x) : DA w p a len cap s g { t with nn := x } (u.setCell ⟨g, 1, none⟩ (.int .i64 x)) :=
  h.put 1 _ rfl (h.same 1 _ h.rw) ⟨⟨h.wf.1.1, hx, h.wf.1.2.2.1, h.wf.1.2.2.2.1, h.wf.1.2.2.2.2⟩, h.wf.2⟩
theorem DA.putPi (h : DA w p a len cap s g t u) {x : Int} (hx : inI64 x) : DA w p a len cap s g { t with pi := x } (u.setCell ⟨g, 2, none⟩ (.int .i64 x)) :=
  h.put 2 _ rfl (h.same 2 _ h.rw) ⟨⟨h.wf.1.1, h.wf.1.2.1, hx, h.wf.1.2.2.2.1, h.wf.1.2.2.2.2⟩, h.wf.2⟩
theorem DA.putSi (h : DA w p a len cap s g t u) {x : Int} (hx : inI64 x) : DA w p a len cap s g { t with si := x } (u.setCell ⟨g, 3, none⟩ (.int .i64 x)) :=
  h.put 3 _ rfl (h.same 3 _ h.rw) ⟨⟨h.wf.1.1, h.wf.1.2.1, h.wf.1.2.2.1, hx, h.wf.1.2.2.2.2⟩, h.wf.2⟩
theorem DA.putZo (h : DA w p a len cap s g t u) {x : Int} (hx : inI64 x) : DA w p a len cap s g { t with zo := x } (u.setCell ⟨g, 4, none⟩ (.int .i64 x)) :=
  h.put 4 _ rfl (h.same 4 _ h.rw) ⟨⟨h.wf.1.1, h.wf.1.2.1, h.wf.1.2.2.1, h.wf.1.2.2.2.1, hx⟩, h.wf.2⟩
theorem DA.putBe (h : DA w p a len cap s g t u) (x : Bool) : DA w p a len cap s g { t with be := x } (u.setCell ⟨g, 5, none⟩ (.bool x)) :=
  h.put 5 _ rfl (h.same 5 _ h.rw) h.wf
theorem DA.app (h : DA w p a len cap s g t u) {o : Obj} {w4 : World} {v4 : Value} (q : Ev) (hq : q.wf) (ho : w4.ownsRow w.heap.size 39 7 v4 (t.ln + 1) (valsE evC t.ln t.es ++ evC q)) (hg4 : (u.alloc o).grownBy w4 (Value.slice t.la t.ln t.lcap).ownBlock) :
    ∃ la' cap', v4 = .slice la' (t.ln + 1) cap' ∧ Cur w4 p a len cap ∧ BoxR w4 g 30 #[.int .i64 t.kd, .int .i64 t.nn, .int .i64 t.pi, .int .i64 t.si, .int .i64 t.zo, .bool t.be, .slice t.la t.ln t.lcap] ∧ DA w p a len cap s g { t with la := la', ln := t.ln + 1, lcap := cap', es := snoc t.ln t.es q } (w4.setCell ⟨g, 6, none⟩ (.slice la' (t.ln + 1) cap')) := by
  obtain ⟨la', cap', rfl, _⟩ := row_form ho
  have hA := h.alloc o
  have bx4 : BoxR w4 w.heap.size 37 #[.slice s.pa s.pn s.pcap, .slice s.sa s.sn s.scap, .int .i64 s.ac, .int .i64 s.cl] := (hg4.block _ hA.bx.lt (own_ne h.rw h.bx (by decide))).trans hA.bx
  have br4 : BoxR w4 (w.heap.size + 1) 30 #[.int .i64 0, .int .i64 0, .int .i64 0, .int .i64 0, .int .i64 0, .bool false, .slice none 0 0] := (hg4.block _ hA.br.lt (own_ne h.rw h.br (by decide))).trans hA.br
  have bg4 : BoxR w4 g 30 #[.int .i64 t.kd, .int .i64 t.nn, .int .i64 t.pi, .int .i64 t.si, .int .i64 t.zo, .bool t.be, .slice t.la t.ln t.lcap] := (hg4.block _ hA.bg.lt (own_ne h.rw h.bg (by decide))).trans hA.bg
  rw [valsE_snoc' evC_len] at ho
  have hc4 := cur_grown h.cur h.pr h.rw hg4
  have h1 := h.pr
  have h2 := h.rg
  refine ⟨la', cap', rfl, hc4, bg4, ⟨(only_grown (B := 0) h.only h.rw hg4).setCell (.inr (by show w.heap.size ≤ g; omega)) _, hc4.only ((Only.refl g w4).setCell (.inl rfl) _) (by omega), h.pr, h.rg, bx4.other (q := ⟨g, 6, none⟩) (by show w.heap.size ≠ g; omega) _, br4.other (q := ⟨g, 6, none⟩) (by show w.heap.size + 1 ≠ g; omega) _, bg4.put 6 _, row_set ho (own_ne ho bg4 (by decide)) _, ⟨h.wf.1, fun i hi => ?_⟩⟩⟩
  show (snoc t.ln t.es q i).wf
  unfold snoc
  by_cases e : i = t.ln
  · rw [if_pos e]; exact hq
  · rw [if_neg e]; exact h.wf.2 i (by simp only at hi; omega)
end
/-- a list of the call's own in a form that the laws of acts take -/
theorem RowA.own {w : World} {B : Nat} {t : Ac} (h : RowA w B t) (hn : t.ln ≠ 0) : ∃ lb, OwnA w B { t with lb := lb } := by
  have hne : Value.slice t.la t.ln t.lcap ≠ .slice none 0 0 := by intro e; simp at e; exact hn e.2.1
  have hcap : t.lcap ≤ maxLen := h.2.elim (fun k => absurd k.1 hne) (fun k => by
    obtain ⟨g, cap, cur, hv, _, _, _, hm, _⟩ := k
    simp only [Value.slice.injEq] at hv
    omega)
  obtain ⟨q, c, e, hc, ho⟩ := own_ofE evC_len h hne
  simp only [Value.slice.injEq] at e
  obtain ⟨e4, _, e6⟩ := e
  refine ⟨q, by show t.ln ≤ t.lcap; omega, hcap, ?_⟩
  show OwnE evC 7 w B q t.la t.ln t.es
  rw [e4]; exact ho
end Go.Proofs.YtodfdfncdoliiadGreat
namespace Go.Proofs.YtodfdfncdoliiadGreat
open Go.ChangeShapes Go.WideShapes Go.ChangeAt Go.RowKit
set_option maxRecDepth 100000
set_option linter.unusedVariables false
set_option linter.unusedSimpArgs false

theorem DA.grew {w : World} {p : Nat} {a : Option Addr} {len cap : Nat} {s : Stt} {g : Nat} {t : Ac} {u u' : World} (h : DA w p a len cap s g t u) (hb : Below u.heap.size u u') : DA w p a len cap s g t u' :=
  ⟨⟨hb.os.trans h.only.os, hb.tape.trans h.only.tape, hb.output.trans h.only.output, Nat.le_trans h.only.size hb.size, fun k hk hp => (hb.block k (Nat.lt_of_lt_of_le hk h.only.size)).trans (h.only.block k hk hp)⟩, h.cur.same (hb.block p h.cur.1) hb.size, h.pr, h.rg, h.bx.grew hb, h.br.grew hb, h.bg.grew hb, h.rw.grew hb, h.wf⟩
theorem DA.putE {w : World} {p : Nat} {a : Option Addr} {len cap : Nat} {s : Stt} {g : Nat} {t : Ac} {u : World} (h : DA w p a len cap s g t u) {b : Nat} (j : Nat) (hgb : g < b) (hne : some b ≠ (Value.slice t.la t.ln t.lcap).ownBlock) (v : Value) : DA w p a len cap s g t (u.setCell ⟨b, j, none⟩ v) :=
  have h1 := h.pr
  have h2 := h.rg
  ⟨h.only.setCell (.inr (by show w.heap.size ≤ b; omega)) v, h.cur.only ((Only.refl b u).setCell (.inl rfl) v) (by omega), h.pr, h.rg, h.bx.other (q := ⟨b, j, none⟩) (by show w.heap.size ≠ b; omega) v, h.br.other (q := ⟨b, j, none⟩) (by show w.heap.size + 1 ≠ b; omega) v, h.bg.other (q := ⟨b, j, none⟩) (by show g ≠ b; omega) v, row_set h.rw hne v, h.wf⟩
/-- the cells of the act under way -/
theorem DA.cells {w : World} {p : Nat} {a : Option Addr} {len cap : Nat} {s : Stt} {g : Nat} {t : Ac} {u : World} (h : DA w p a len cap s g t u) : u.cell? ⟨g, 0, none⟩ = some (.int .i64 t.kd) ∧ u.cell? ⟨g, 1, none⟩ = some (.int .i64 t.nn) ∧ u.cell? ⟨g, 2, none⟩ = some (.int .i64 t.pi) ∧ u.cell? ⟨g, 3, none⟩ = some (.int .i64 t.si) ∧ u.cell? ⟨g, 4, none⟩ = some (.int .i64 t.zo) ∧ u.cell? ⟨g, 5, none⟩ = some (.bool t.be) ∧ u.cell? ⟨g, 6, none⟩ = some (.slice t.la t.ln t.lcap) :=
  ⟨h.bg.cell 0, h.bg.cell 1, h.bg.cell 2, h.bg.cell 3, h.bg.cell 4, h.bg.cell 5, h.bg.cell 6⟩
set_option maxHeartbeats 8000000 in
theorem l9Draw_any (p : Nat) (a : Option Addr) (len cap : Nat) (s : Stt) (kind : Int) (w : World) {B C : Nat} (hc : Code w a len B) (hB : B ≤ p) (hcur : Cur w p a len cap) (hs : anS s) (hrw : RowsT w C s) (hC : p < C) :
    Calls Tryz.prog 138 #[.pointer (some ⟨p, 0, none⟩), (.agg #[.slice s.pa s.pn s.pcap, .slice s.sa s.sn s.scap, .int .i64 s.ac, .int .i64 s.cl]), .int .i64 kind] w fun e w' => ∃ t : Ac, t.wf ∧ t.ln ≤ 2 ∧ e = .returned (.agg #[.int .i64 t.kd, .int .i64 t.nn, .int .i64 t.pi, .int .i64 t.si, .int .i64 t.zo, .bool t.be, .slice t.la t.ln t.lcap]) ∧ Only p w w' ∧ Cur w' p a len cap ∧ RowA w' w.heap.size t := by
  have hp : p < w.heap.size := hcur.1
  have ho0 : Only p w ((w.alloc (.cells #[.slice s.pa s.pn s.pcap, .slice s.sa s.sn s.scap, .int .i64 s.ac, .int .i64 s.cl] 37)).alloc (.cells #[.int .i64 0, .int .i64 0, .int .i64 0, .int .i64 0, .int .i64 0, .bool false, .slice none 0 0] 30)) := ((Only.refl p w).alloc _).alloc _
  have hk0 : Cur ((w.alloc (.cells #[.slice s.pa s.pn s.pcap, .slice s.sa s.sn s.scap, .int .i64 s.ac, .int .i64 s.cl] 37)).alloc (.cells #[.int .i64 0, .int .i64 0, .int .i64 0, .int .i64 0, .int .i64 0, .bool false, .slice none 0 0] 30)) p a len cap := (hcur.only ((Only.refl w.heap.size w).alloc _) (Nat.ne_of_lt hp)).only ((Only.refl (w.heap.size + 1) _).alloc _) (by omega)
  have xb := (boxR_new w 37 #[.slice s.pa s.pn s.pcap, .slice s.sa s.sn s.scap, .int .i64 s.ac, .int .i64 s.cl]).alloc (.cells #[.int .i64 0, .int .i64 0, .int .i64 0, .int .i64 0, .int .i64 0, .bool false, .slice none 0 0] 30)
  have br : BoxR ((w.alloc (.cells #[.slice s.pa s.pn s.pcap, .slice s.sa s.sn s.scap, .int .i64 s.ac, .int .i64 s.cl] 37)).alloc (.cells #[.int .i64 0, .int .i64 0, .int .i64 0, .int .i64 0, .int .i64 0, .bool false, .slice none 0 0] 30)) (w.heap.size + 1) 30 #[.int .i64 0, .int .i64 0, .int .i64 0, .int .i64 0, .int .i64 0, .bool false, .slice none 0 0] := heap_alloc2_new _ _ _
  generalize hW : (w.alloc (.cells #[.slice s.pa s.pn s.pcap, .slice s.sa s.sn s.scap, .int .i64 s.ac, .int .i64 s.cl] 37)).alloc (.cells #[.int .i64 0, .int .i64 0, .int .i64 0, .int .i64 0, .int .i64 0, .bool false, .slice none 0 0] 30) = W at ho0 hk0 xb br
  have hlw : w.heap.size + 1 < W.heap.size := br.lt
  obtain ⟨i0, hi, hz0, hz1, hz2⟩ := info_parts Tryz.infoEv
  go_enter Tryz.func138, Tryz.ntmps138
  go_wp2_with fail
  clear hW hcur
  refine (l1Int_new p a len cap [1, 2, 2, 3, 3, 4, 5, 6, 6, 7, 8, 8, 9, 9] 3 _ (hc.only ho0 hB) hB hk0 (by decide) (by decide)).mono ?_
  rintro e v0 ⟨kd, m_, rfl, ho, hk⟩
  have i_kd : inI64 kd := by simp at m_; unfold inI64; omega
  replace xb := xb.onlyR ho (by omega)
  replace br := br.onlyR ho (by omega)
  replace ho0 := ho0.trans ho
  clear hk0 ho m_
  have hlv : w.heap.size + 1 < v0.heap.size := br.lt
  have i_0 : inI64 0 := by unfold inI64; omega
  have i_1 : inI64 (-1) := by unfold inI64; omega
  have H : DA w p a len cap s v0.heap.size ⟨kd, 0, 0, -1, 0, false, none, 0, 0, 0, fun _ => zE⟩ (v0.alloc (.cells #[.int .i64 kd, .int .i64 0, .int .i64 0, .int .i64 (-1), .int .i64 0, .bool false, .slice none 0 0] 30)) := ⟨ho0.alloc _, hk.only ((Only.refl v0.heap.size v0).alloc _) (Nat.ne_of_lt hk.1), hp, hlv, xb.alloc _, br.alloc _, boxR_new _ _ _, World.ownsRow_nil _ _ _ _, ⟨⟨i_kd, i_0, i_0, i_1, i_0⟩, fun i hi => by simp at hi⟩⟩
  clear ho0 hk xb br hlw i_kd
  go_upto_region 2 with fail
  generalize hN : v0.alloc (.cells #[.int .i64 kd, .int .i64 0, .int .i64 0, .int .i64 (-1), .int .i64 0, .bool false, .slice none 0 0] 30) = V at H ⊢
  clear hN
  obtain ⟨g, hg⟩ : ∃ g, v0.heap.size = g := ⟨_, rfl⟩
  rw [hg] at H hlv ⊢
  clear hg
  have hl : Hid ((⟨kd, 0, 0, -1, 0, false, none, 0, 0, 0, fun _ => zE⟩ : Ac).ln = 0) := (rfl : (0 : Nat) = 0)
  generalize (⟨kd, 0, 0, -1, 0, false, none, 0, 0, 0, fun _ => zE⟩ : Ac) = t at H hl
  go_wp2_with fail
  go_loopw [8] (fun i wr => ∃ (k : Nat) (t : Ac), k ≤ 6 ∧ i = .int .i64 k ∧ Hid (t.ln = 0) ∧ DA w p a len cap s g t wr) (fun i _ => 6 - (intOf i).toNat)
  case atStart => exact ⟨0, t, by omega, rfl, hl, H⟩
  case round =>
    clear H hl
    obtain ⟨k, t, hk6, rfl, hl, H⟩ := hrel
    go_upto_region 3 with fail
    go_cut [22] (fun sx wc => ∃ b : Bool, sx = .bool b ∧ (b = true → k < 6) ∧ DA w p a len cap s g t wc)
    case first =>
      obtain ⟨k0, k1, k2, k3, k4, k5, k6⟩ := H.cells
      by_cases hlt : k < 6
      · have y1 : (k : Int) < 6 := by omega
        go_wp2_with fail
        refine (specActFits_any t kind _).mono ?_
        rintro e v1 ⟨rfl, hb⟩
        replace H := H.grew hb
        clear k0 k1 k2 k3 k4 k5 k6 hb
        go_wp2_with fail
        go_meet
        case rel => exact ⟨_, rfl, fun _ => hlt, H⟩
      · have y1 : ¬ ((k : Int) < 6) := by omega
        clear k0 k1 k2 k3 k4 k5 k6
        go_wp2_with fail
        go_meet
        case rel => exact ⟨_, rfl, by simp, H⟩
    case rest =>
      clear H
      obtain ⟨b, rfl, hb6, H⟩ := hcut
      cases b
      case true =>
        have hlt := hb6 rfl
        go_wp2_with fail
        refine (l1Below_any p a len cap _ _ (hc.only H.only hB) hB H.cur).mono ?_
        rintro e y1_ ⟨x, n0_, n1_, rfl, ho, hk⟩
        have n2_ := n1_ (by omega)
        replace H := H.draw ho hk
        clear ho hk
        have i_x : inI64 x := by unfold inI64; omega
        clear n1_
        have i_x1 : inI64 (1 + x) := by unfold inI64; omega
        have kj0 := H.bg.cell 0
        simp at kj0
        have fj0 := H.bg.froz 0
        have H' := H.putKd i_x1
        clear H
        generalize hXy2_ : y1_.setCell ⟨g, 0, none⟩ (.int .i64 (1 + x)) = y2_ at H'
        have H := H'
        clear H'
        go_wp2_with fail
        clear kj0 fj0
        clear n0_ n2_ i_x i_x1
        go_roundw
        case rel => first | exact ⟨k + 1, { t with kd := 1 + x }, by omega, by go_num, hl, H⟩ | exact ⟨k + 1, by omega, by go_num, { t with kd := 1 + x }, hl, H⟩ | ((repeat apply Exists.intro); exact ⟨⟨k + 1, { t with kd := 1 + x }, by omega, by go_num, hl, H⟩, rfl⟩)
        case measure => simp [intOf]; omega
      case false =>
        obtain ⟨k0, k1, k2, k3, k4, k5, k6⟩ := H.cells
        go_wp2_with fail
        refine (specActFits_any t kind _).mono ?_
        rintro e v1 ⟨rfl, hb⟩
        replace H := H.grew hb
        clear k0 k1 k2 k3 k4 k5 k6
        clear hb
        go_upto_if 32 with fail
        go_cut [] (fun wc => ∃ t : Ac, Hid (t.ln = 0) ∧ DA w p a len cap s g t wc)
        case first =>
          cases hf : fiA t kind
          case true =>
            go_wp2_with fail
            go_meet
            case rel => exact ⟨_, hl, H⟩
          case false =>
            have i_11 : inI64 1 := by unfold inI64; omega
            have kj0 := H.bg.cell 0
            simp at kj0
            have fj0 := H.bg.froz 0
            have H' := H.putKd i_11
            clear H
            generalize hXy3_ : v1.setCell ⟨g, 0, none⟩ (.int .i64 1) = y3_ at H'
            have H := H'
            clear H'
            go_wp2_with fail
            go_meet
            case rel => exact ⟨{ t with kd := 1 }, hl, H⟩
        case rest =>
          clear H hl
          obtain ⟨t, hl, H⟩ := hcut
          have K0 : wc.cell? ⟨g, 0, none⟩ = some (.int .i64 t.kd) := H.cells.1
          go_upto_block 2 with fail
          clear K0
          go_cut [] (fun wc => ∃ t : Ac, DA w p a len cap s g t wc ∧ t.ln ≤ 2)
          case first =>
            have hz : Hid (t.ln = 0) := hl
            replace hl : t.ln ≤ 2 := by have := hz.out; omega
            cases h3 : (t.kd == 3)
            case true =>
              go_wp2_with fail
              refine (l1Int_new p a len cap [1, 2, 5, 2147483647] 3 _ (hc.only H.only hB) hB H.cur (by decide) (by decide)).mono ?_
              rintro e y4_ ⟨z, m_, rfl, ho, hk⟩
              have i_z : inI64 z := by simp at m_; unfold inI64; omega
              replace H := H.draw ho hk
              clear ho hk
              clear m_
              have kj1 := H.bg.cell 1
              simp at kj1
              have fj1 := H.bg.froz 1
              have H' := H.putNn i_z
              clear H
              go_wp2_with fail
              go_meet
              case rel => exact ⟨_, H', hl⟩
            case false =>
              cases h6 : (t.kd == 6)
              case true =>
                go_wp2_with fail
                refine (l1Once_any p a len cap _ _ (hc.only H.only hB) hB H.cur).mono ?_
                rintro e y5_ ⟨b, rfl, ho, hk⟩
                replace H := H.draw ho hk
                clear ho hk
                cases b with
                | true =>
                  go_wp2_with fail
                  refine (l1Below_any p a len cap _ _ (hc.only H.only hB) hB H.cur).mono ?_
                  rintro e y6_ ⟨x, n0_, n1_, rfl, ho, hk⟩
                  have n2_ := n1_ (by omega)
                  replace H := H.draw ho hk
                  clear ho hk
                  have i_x : inI64 x := by unfold inI64; omega
                  clear n0_ n1_ n2_
                  have kj3 := H.bg.cell 3
                  simp at kj3
                  have fj3 := H.bg.froz 3
                  have H' := H.putSi i_x
                  clear H
                  go_wp2_with fail
                  go_meet
                  case rel => exact ⟨_, H', hl⟩
                | false =>
                  have X0 := H.bx.cell 0
                  have X1 := H.bx.cell 1
                  have X2 := H.bx.cell 2
                  have X3 := H.bx.cell 3
                  simp at X0 X1 X2 X3
                  go_wp2_with fail
                  refine (l6Id_any p a len cap s _ (hc.only H.only hB) hB H.cur hs (hrw.only H.only hC) hC).mono ?_
                  rintro e y7_ ⟨x, i_x, rfl, ho, hk⟩
                  replace H := H.draw ho hk
                  clear ho hk
                  clear X0 X1 X2 X3
                  have kj2 := H.bg.cell 2
                  simp at kj2
                  have fj2 := H.bg.froz 2
                  have H' := H.putPi i_x
                  clear H
                  go_wp2_with fail
                  go_meet
                  case rel => exact ⟨_, H', hl⟩
              case false =>
                cases h7 : (t.kd == 7)
                case true =>
                  go_wp2_with fail
                  refine (l1Int_new p a len cap [1, 4, 3, 2] 3 _ (hc.only H.only hB) hB H.cur (by decide) (by decide)).mono ?_
                  rintro e y8_ ⟨z, m_, rfl, ho, hk⟩
                  have i_z : inI64 z := by simp at m_; unfold inI64; omega
                  replace H := H.draw ho hk
                  clear ho hk
                  clear m_
                  have kj4 := H.bg.cell 4
                  simp at kj4
                  have fj4 := H.bg.froz 4
                  have H' := H.putZo i_z
                  clear H
                  go_wp2_with fail
                  go_meet
                  case rel => exact ⟨_, H', hl⟩
                case false =>
                  cases h8 : (t.kd == 8)
                  case true =>
                    go_wp2_with fail
                    refine (l1Below_any p a len cap _ _ (hc.only H.only hB) hB H.cur).mono ?_
                    rintro e y9_ ⟨x, n0_, n1_, rfl, ho, hk⟩
                    have n2_ := n1_ (by omega)
                    replace H := H.draw ho hk
                    clear ho hk
                    have i_x : inI64 x := by unfold inI64; omega
                    clear n0_ n1_ n2_
                    have kj1 := H.bg.cell 1
                    simp at kj1
                    have fj1 := H.bg.froz 1
                    have H' := H.putNn i_x
                    clear H
                    generalize hXy10_ : y9_.setCell ⟨g, 1, none⟩ (.int .i64 x) = y10_ at H'
                    have H := H'
                    clear H'
                    go_wp2_with fail
                    clear kj1 fj1
                    refine (l1Once_any p a len cap _ _ (hc.only H.only hB) hB H.cur).mono ?_
                    rintro e y11_ ⟨b, rfl, ho, hk⟩
                    replace H := H.draw ho hk
                    clear ho hk
                    have kj5 := H.bg.cell 5
                    simp at kj5
                    have fj5 := H.bg.froz 5
                    have H' := H.putBe b
                    clear H
                    go_wp2_with fail
                    go_meet
                    case rel => exact ⟨_, H', hl⟩
                  case false =>
                    cases h9 : (t.kd == 9)
                    case false =>
                      go_wp2_with fail
                      go_meet
                      case rel => exact ⟨_, H, hl⟩
                    case true =>
                      go_wp2_with fail
                      refine (l1Below_any p a len cap _ _ (hc.only H.only hB) hB H.cur).mono ?_
                      rintro e y12_ ⟨x, n0_, n1_, rfl, ho, hk⟩
                      have n2_ := n1_ (by omega)
                      replace H := H.draw ho hk
                      clear ho hk
                      have i_x : inI64 x := by unfold inI64; omega
                      clear n1_
                      obtain ⟨n, hn⟩ := Int.eq_ofNat_of_zero_le n0_
                      subst hn
                      have hn2 : n ≤ 1 := by omega
                      have hz0_ := hz.out
                      go_wp2_with fail
                      clear hl hz i_x n0_ n2_ h3 h6 h7 h8 h9
                      go_loopw [9] (fun i wr => ∃ (k : Nat) (t : Ac), i = .int .i64 k ∧ k + t.ln ≤ 2 ∧ DA w p a len cap s g t wr) (fun i _ => (intOf i).toNat)
                      case atStart => exact ⟨1 + n, t, by go_num, by omega, H⟩
                      case round =>
                        clear H hz0_ hn2
                        obtain ⟨k, t, rfl, hkt, H⟩ := hrel
                        by_cases hk0 : k = 0
                        · subst hk0
                          have y0 : ¬ ((0 : Nat) : Int) > 0 := by simp
                          go_wp2_with fail
                          go_meet
                          case rel => exact ⟨_, H, by omega⟩
                        have y0 : (k : Int) > 0 := by omega
                        have y1 : inI64 ((k : Int) - 1) := by unfold inI64; omega
                        have X0 := H.bx.cell 0
                        have X1 := H.bx.cell 1
                        have X2 := H.bx.cell 2
                        have X3 := H.bx.cell 3
                        simp at X0 X1 X2 X3
                        go_wp2_with fail
                        refine (l6Draw_any p a len cap s _ (hc.only H.only hB) hB H.cur hs (hrw.only H.only hC) hC).mono ?_
                        rintro e y13_ ⟨q, qwf, rfl, ho, hk⟩
                        replace H := H.draw ho hk
                        clear ho hk X0 X1 X2 X3
                        have hgb : g < y13_.heap.size := H.bg.lt
                        have hne : some y13_.heap.size ≠ (Value.slice t.la t.ln t.lcap).ownBlock := fun e => by have := (World.ownsRow.lt H.rw _ e.symm).2; omega
                        have bV := boxR_new y13_ 39 #[.int .i64 q.kd, .int .i64 q.sr, .int .i64 q.pi, .int .i64 q.si, .int .i64 q.nn, .int .i64 q.zo, .bool q.be]
                        have H' := H.alloc (.cells #[.int .i64 q.kd, .int .i64 q.sr, .int .i64 q.pi, .int .i64 q.si, .int .i64 q.nn, .int .i64 q.zo, .bool q.be] 39)
                        clear H
                        have H := H'
                        clear H'
                        generalize hV : y13_.alloc (.cells #[.int .i64 q.kd, .int .i64 q.sr, .int .i64 q.pi, .int .i64 q.si, .int .i64 q.nn, .int .i64 q.zo, .bool q.be] 39) = V at bV H
                        obtain ⟨ge, hge⟩ : ∃ ge, y13_.heap.size = ge := ⟨_, rfl⟩
                        rw [hge] at bV hgb hne
                        have hpv : p < ge := by have := H.pr; have := H.rg; omega
                        have m0 := bV.cell 0
                        simp at m0
                        cases q1 : (q.kd == 2)
                        case true =>
                          have q2 : (q.kd != 2) = false := by rw [bne, q1]; rfl
                          go_upto_region 27 with fail
                          clear m0
                          have bW := bV
                          clear bV
                          have xwf := qwf
                          generalize q = x at bW xwf
                          obtain ⟨k0, k1, k2, k3, k4, k5, k6⟩ := H.cells
                          have Z := bW.cell 0
                          have z0 := bW.cell 0
                          have z1 := bW.cell 1
                          have z2 := bW.cell 2
                          have z3 := bW.cell 3
                          have z4 := bW.cell 4
                          have z5 := bW.cell 5
                          have z6 := bW.cell 6
                          simp at z0 z1 z2 z3 z4 z5 z6
                          clear Z
                          go_wp2_with (at_builtin; refine wpList_append_own _ rfl (.tmp 88) (.tmp 90) 28 rfl w.heap.size 39 i0 (.agg #[.int .i64 0, .int .i64 0, .int .i64 0, .int .i64 0, .int .i64 0, .int .i64 0, .bool false]) 7 56 Tryz.underlying28 hi hz0 hz1 hz2 rfl (by decide) _ _ _ rfl (World.ownsRow.alloc H.rw _) ⟨V.heap.size, 0, none⟩ 1 1 (evC x) rfl rfl (cells_new _ _ _) (by intro u hu; simp [evC] at hu; rcases hu with rfl | rfl | rfl | rfl | rfl | rfl | rfl <;> rfl) (by unfold maxLen; omega) (by omega) (by have := H.only.size; simp; omega) ?_)
                          intro v4 w4 hown4 hgr4 hnil4
                          obtain ⟨la', cap', rfl, hc4, bg4, H4⟩ := H.app x xwf hown4 hgr4
                          have f6 := bg4.froz 6
                          have c6 := bg4.cell 6
                          simp at c6
                          clear hown4 hgr4 hnil4 hc4 bg4 bW H k0 k1 k2 k3 k4 k5 k6 z0 z1 z2 z3 z4 z5 z6
                          go_wp2_with fail
                          go_roundw
                          case rel => first | exact ⟨k - 1, { t with la := la', ln := t.ln + 1, lcap := cap', es := snoc t.ln t.es x }, by go_num, by simp only; omega, H4⟩ | ((repeat apply Exists.intro); exact ⟨⟨k - 1, { t with la := la', ln := t.ln + 1, lcap := cap', es := snoc t.ln t.es x }, by go_num, by simp only; omega, H4⟩, rfl⟩)
                          case measure => simp [intOf]; omega
                        case false =>
                          have q2 : (q.kd != 2) = true := by rw [bne, q1]; rfl
                          go_wp2_with fail
                          refine (l1Once_any p a len cap _ _ (hc.only H.only hB) hB H.cur).mono ?_
                          rintro e y14_ ⟨b, rfl, ho, hk⟩
                          replace H := H.draw ho hk
                          replace bV := bV.onlyR ho (by omega)
                          clear ho hk m0
                          cases b
                          case false =>
                            go_upto_region 27 with fail
                            have bW := bV
                            clear bV
                            have xwf := qwf
                            generalize q = x at bW xwf
                            obtain ⟨k0, k1, k2, k3, k4, k5, k6⟩ := H.cells
                            have Z := bW.cell 0
                            have z0 := bW.cell 0
                            have z1 := bW.cell 1
                            have z2 := bW.cell 2
                            have z3 := bW.cell 3
                            have z4 := bW.cell 4
                            have z5 := bW.cell 5
                            have z6 := bW.cell 6
                            simp at z0 z1 z2 z3 z4 z5 z6
                            clear Z
                            go_wp2_with (at_builtin; refine wpList_append_own _ rfl (.tmp 88) (.tmp 90) 28 rfl w.heap.size 39 i0 (.agg #[.int .i64 0, .int .i64 0, .int .i64 0, .int .i64 0, .int .i64 0, .int .i64 0, .bool false]) 7 56 Tryz.underlying28 hi hz0 hz1 hz2 rfl (by decide) _ _ _ rfl (World.ownsRow.alloc H.rw _) ⟨y14_.heap.size, 0, none⟩ 1 1 (evC x) rfl rfl (cells_new _ _ _) (by intro u hu; simp [evC] at hu; rcases hu with rfl | rfl | rfl | rfl | rfl | rfl | rfl <;> rfl) (by unfold maxLen; omega) (by omega) (by have := H.only.size; simp; omega) ?_)
                            intro v4 w4 hown4 hgr4 hnil4
                            obtain ⟨la', cap', rfl, hc4, bg4, H4⟩ := H.app x xwf hown4 hgr4
                            have f6 := bg4.froz 6
                            have c6 := bg4.cell 6
                            simp at c6
                            clear hown4 hgr4 hnil4 hc4 bg4 bW H k0 k1 k2 k3 k4 k5 k6 z0 z1 z2 z3 z4 z5 z6
                            go_wp2_with fail
                            go_roundw
                            case rel => first | exact ⟨k - 1, { t with la := la', ln := t.ln + 1, lcap := cap', es := snoc t.ln t.es x }, by go_num, by simp only; omega, H4⟩ | ((repeat apply Exists.intro); exact ⟨⟨k - 1, { t with la := la', ln := t.ln + 1, lcap := cap', es := snoc t.ln t.es x }, by go_num, by simp only; omega, H4⟩, rfl⟩)
                            case measure => simp [intOf]; omega
                          case true =>
                            have m4 := bV.cell 4
                            have f4 := bV.froz 4
                            simp at m4
                            have bW := bV.put 4 (.int .i64 (-1))
                            have H' := H.putE 4 hgb hne (.int .i64 (-1))
                            clear H
                            have H := H'
                            clear H'
                            have xwf : (⟨q.kd, q.sr, q.pi, q.si, -1, q.zo, q.be⟩ : Ev).wf := by have k := ev_at qwf; exact ev_wf k.1 k.2.1 k.2.2.1 k.2.2.2.1 (by unfold inI64; omega) k.2.2.2.2.2
                            generalize hU : y14_.setCell ⟨ge, 4, none⟩ (.int .i64 (-1)) = U at bW H
                            go_upto_region 27 with fail
                            clear m4 f4
                            change BoxR U ge 39 #[.int .i64 (⟨q.kd, q.sr, q.pi, q.si, -1, q.zo, q.be⟩ : Ev).kd, .int .i64 (⟨q.kd, q.sr, q.pi, q.si, -1, q.zo, q.be⟩ : Ev).sr, .int .i64 (⟨q.kd, q.sr, q.pi, q.si, -1, q.zo, q.be⟩ : Ev).pi, .int .i64 (⟨q.kd, q.sr, q.pi, q.si, -1, q.zo, q.be⟩ : Ev).si, .int .i64 (⟨q.kd, q.sr, q.pi, q.si, -1, q.zo, q.be⟩ : Ev).nn, .int .i64 (⟨q.kd, q.sr, q.pi, q.si, -1, q.zo, q.be⟩ : Ev).zo, .bool (⟨q.kd, q.sr, q.pi, q.si, -1, q.zo, q.be⟩ : Ev).be] at bW
                            generalize (⟨q.kd, q.sr, q.pi, q.si, -1, q.zo, q.be⟩ : Ev) = x at bW xwf
                            obtain ⟨k0, k1, k2, k3, k4, k5, k6⟩ := H.cells
                            have Z := bW.cell 0
                            have z0 := bW.cell 0
                            have z1 := bW.cell 1
                            have z2 := bW.cell 2
                            have z3 := bW.cell 3
                            have z4 := bW.cell 4
                            have z5 := bW.cell 5
                            have z6 := bW.cell 6
                            simp at z0 z1 z2 z3 z4 z5 z6
                            clear Z
                            go_wp2_with (at_builtin; refine wpList_append_own _ rfl (.tmp 88) (.tmp 90) 28 rfl w.heap.size 39 i0 (.agg #[.int .i64 0, .int .i64 0, .int .i64 0, .int .i64 0, .int .i64 0, .int .i64 0, .bool false]) 7 56 Tryz.underlying28 hi hz0 hz1 hz2 rfl (by decide) _ _ _ rfl (World.ownsRow.alloc H.rw _) ⟨U.heap.size, 0, none⟩ 1 1 (evC x) rfl rfl (cells_new _ _ _) (by intro u hu; simp [evC] at hu; rcases hu with rfl | rfl | rfl | rfl | rfl | rfl | rfl <;> rfl) (by unfold maxLen; omega) (by omega) (by have := H.only.size; simp; omega) ?_)
                            intro v4 w4 hown4 hgr4 hnil4
                            obtain ⟨la', cap', rfl, hc4, bg4, H4⟩ := H.app x xwf hown4 hgr4
                            have f6 := bg4.froz 6
                            have c6 := bg4.cell 6
                            simp at c6
                            clear hown4 hgr4 hnil4 hc4 bg4 bW H k0 k1 k2 k3 k4 k5 k6 z0 z1 z2 z3 z4 z5 z6
                            go_wp2_with fail
                            go_roundw
                            case rel => first | exact ⟨k - 1, { t with la := la', ln := t.ln + 1, lcap := cap', es := snoc t.ln t.es x }, by go_num, by simp only; omega, H4⟩ | ((repeat apply Exists.intro); exact ⟨⟨k - 1, { t with la := la', ln := t.ln + 1, lcap := cap', es := snoc t.ln t.es x }, by go_num, by simp only; omega, H4⟩, rfl⟩)
                            case measure => simp [intOf]; omega
          case rest =>
            clear H hl
            obtain ⟨t, H, hl⟩ := hcut
            obtain ⟨k0, k1, k2, k3, k4, k5, k6⟩ := H.cells
            go_wp2_with (refine wpList_store_row rfl 30 (.tmp 6) _ rfl (w.heap.size + 1) _ (by rfl) (by rfl) _ _ H.br (by kernel_rfl) (by rfl) (by simp [Value.oneCell']) ?_)
            (try simp only [Exit.inBlock, Exit.then]); refine bodyPost_ret (results_cell_row rfl _ _ (w.heap.size + 1) _ _ _ _ rfl (setRow_heap _ _ _ _ _ _ H.br) Tryz.underlying30 rfl (by kernel_rfl)) rfl ?_
            exact ⟨_, H.wf, hl, rfl, H.only.setRow (by omega) _, H.cur.setRow (by omega) _, row_setRow' H.rw (own_ne H.rw H.br (by decide)) _⟩
end Go.Proofs.YtodfdfncdoliiadGreat
