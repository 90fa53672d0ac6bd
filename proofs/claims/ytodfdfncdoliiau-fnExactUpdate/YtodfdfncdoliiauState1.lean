/-
  Words for a state: its sides, rows of structs (RdE, OwnE), and how a law's own state is opened. Written by tools/state1.gen.py. Own work.
-/
import Derived.Test.YtodfdfncdoliiauGPiece22
import Derived.Deep.Slices
namespace Go.Proofs.Ytodfdfncdoliiau
open Go.ChangeShapes Go.WideShapes Go.ChangeAt Go.RowKit
set_option maxRecDepth 100000

structure Sd where
  (li po : Int)
  (lo : Bool)
def Sd.wf (s : Sd) : Prop := (Lit.int .i64 s.li).wf = true ∧ (Lit.int .i64 s.po).wf = true
/-- the cells of a piece, of a side -/
def pcC (p : Pc) : List Value := [.int .i64 p.id, .int .i64 p.ow, .int .i64 p.si, .int .i64 p.zo, .int .i64 p.st, .int .i64 p.po, .int .i64 p.to, .int .i64 p.tr, .int .i64 p.pl, .int .i64 p.mi, .int .i64 p.ma, .bool p.de, .bool p.be]
def sdC (s : Sd) : List Value := [.int .i64 s.li, .int .i64 s.po, .bool s.lo]
/-- the slice at 'a', of n elements of m cells each, reads f, in block b; C: an element's cells -/
def RdE {α : Type} (C : α → List Value) (m : Nat) (w : World) (b : Nat) (a : Option Addr) (n : Nat) (f : Nat → α) : Prop :=
  n = 0 ∨ ∃ off : Nat, a = some ⟨b, off, none⟩ ∧ ∀ i, i < n → ∀ j v, (C (f i))[j]? = some v → w.cell? ⟨b, off + i * m + j, none⟩ = some v
def OwnE {α : Type} (C : α → List Value) (m : Nat) (w : World) (B b : Nat) (a : Option Addr) (n : Nat) (f : Nat → α) : Prop := B ≤ b ∧ b < w.heap.size ∧ RdE C m w b a n f ∧ Free w b
section
variable {α : Type} {C : α → List Value} {m : Nat} {w w' : World} {b B : Nat} {a : Option Addr} {n : Nat} {f g : Nat → α}
theorem RdE.same (h : RdE C m w b a n f) (e : w'.heap[b]? = w.heap[b]?) : RdE C m w' b a n f := by
  rcases h with h | ⟨off, ha, hc⟩
  · exact .inl h
  · exact .inr ⟨off, ha, fun i hi j v hv => (World.cell?_of_block (w := w) (a := ⟨b, off + i * m + j, none⟩) e).trans (hc i hi j v hv)⟩
theorem RdE.congr (h : RdE C m w b a n f) (e : ∀ i, i < n → f i = g i) : RdE C m w b a n g := by
  rcases h with h | ⟨off, ha, hc⟩
  · exact .inl h
  · exact .inr ⟨off, ha, fun i hi => by rw [← e i hi]; exact hc i hi⟩
theorem RdE.lt (h : RdE C m w b a n f) (hn : 0 < n) (hC : ∀ x, C x ≠ []) : b < w.heap.size := by
  rcases h with h | ⟨off, ha, hc⟩
  · omega
  · cases e : C (f 0) with
    | nil => exact absurd e (hC _)
    | cons v l => exact World.block_lt_of_cell? w _ (hc 0 hn 0 v (by rw [e]; rfl))
theorem RdE.grew (h : RdE C m w b a n f) (hC : ∀ x, C x ≠ []) (hb : Below w.heap.size w w') : RdE C m w' b a n f := by
  by_cases hn : 0 < n
  · exact h.same (hb.block b (h.lt hn hC))
  · exact .inl (by omega)
theorem RdE.first (h : RdE C m w b a n f) {k : Nat} (hk : k ≤ n) : RdE C m w b a k f := by
  rcases h with h | ⟨off, ha, hc⟩
  · exact .inl (by omega)
  · exact .inr ⟨off, ha, fun i hi => hc i (by omega)⟩
theorem OwnE.same (h : OwnE C m w B b a n f) (e : w'.heap[b]? = w.heap[b]?) (hs : w.heap.size ≤ w'.heap.size) : OwnE C m w' B b a n f := ⟨h.1, Nat.lt_of_lt_of_le h.2.1 hs, h.2.2.1.same e, h.2.2.2.same e⟩
theorem OwnE.grew (h : OwnE C m w B b a n f) (hb : Below w.heap.size w w') : OwnE C m w' B b a n f := h.same (hb.block b h.2.1) hb.size
theorem OwnE.rd (h : OwnE C m w B b a n f) : RdE C m w b a n f := h.2.2.1
end
theorem pcC_ne (p : Pc) : pcC p ≠ [] := by unfold pcC; simp
theorem sdC_ne (s : Sd) : sdC s ≠ [] := by unfold sdC; simp
section
variable {H : Type} {enc : TypeId × Value → H} {P : Program} {w : World} {base : Nat} {spare : TypeId → Bool} {held : Bool}
/-- a struct whose fields are of one cell each, in a row: each field's reading -/
theorem open_cells1 {t : TypeId} {fs : Array Field} {cs : List Value} {x : DataW H × List MemPlace} {fuel : Nat} (hs : P.underlying t = some (.struct fs)) (hone : Deep.oneCellFields P fs = true)
    (h : DataW.trod enc P w base spare held fuel t cs = some x) : ∀ (i : Nat) (f : Field) (c : Value), fs[i]? = some f → cs[i]? = some c → ∃ n y, DataW.trod enc P w base spare held n f.type [c] = some y := by
  obtain ⟨xs, n, _, _, _, hlen, hx⟩ := DataW.trod_struct hs h
  intro i f c hfi hci
  obtain ⟨o, k⟩ := Deep.hone_of hone i f hfi
  have h1 := hx i f hfi
  have hi : i < xs.length := by rw [hlen]; exact (Array.getElem?_eq_some_iff.1 hfi).1
  rw [List.getElem?_eq_getElem hi, o, k] at h1
  have hc : (cs.drop i).take 1 = [c] := by
    obtain ⟨hl, rfl⟩ := List.getElem?_eq_some_iff.1 hci
    rw [List.drop_eq_getElem_cons hl]; rfl
  rw [hc] at h1
  exact ⟨n, _, h1⟩
end

theorem list3 {α : Type} : ∀ {l : List α}, l.length = 3 → ∃ a b c, l = [a, b, c]
  | [a, b, c], _ => ⟨a, b, c, rfl⟩
theorem piece_of_cells {H : Type} {enc : TypeId × Value → H} {w : World} {base : Nat} {spare : TypeId → Bool} {held : Bool} {cs : List Value} {x : DataW H × List MemPlace} {fuel : Nat} (h : DataW.trod enc Try.prog w base spare held fuel 132 cs = some x) (hl : cs.length = 13) : ∃ q : Pc, cs = pcC q ∧ q.wf := by
  have hf := open_cells1 Try.underlying132 (by kernel_rfl) h
  obtain ⟨c0, c1, c2, c3, c4, c5, c6, c7, c8, c9, c10, c11, c12, rfl⟩ := list13 (l := cs) hl
  obtain ⟨n0, y0, t0⟩ := hf 0 _ c0 rfl rfl
  obtain ⟨a0, e0, _, u0⟩ := DataW.trod_int Try.underlying3 t0
  obtain ⟨n1, y1, t1⟩ := hf 1 _ c1 rfl rfl
  obtain ⟨a1, e1, _, u1⟩ := DataW.trod_int Try.underlying3 t1
  obtain ⟨n2, y2, t2⟩ := hf 2 _ c2 rfl rfl
  obtain ⟨a2, e2, _, u2⟩ := DataW.trod_int Try.underlying3 t2
  obtain ⟨n3, y3, t3⟩ := hf 3 _ c3 rfl rfl
  obtain ⟨a3, e3, _, u3⟩ := DataW.trod_int Try.underlying3 t3
  obtain ⟨n4, y4, t4⟩ := hf 4 _ c4 rfl rfl
  obtain ⟨a4, e4, _, u4⟩ := DataW.trod_int Try.underlying3 t4
  obtain ⟨n5, y5, t5⟩ := hf 5 _ c5 rfl rfl
  obtain ⟨a5, e5, _, u5⟩ := DataW.trod_int Try.underlying3 t5
  obtain ⟨n6, y6, t6⟩ := hf 6 _ c6 rfl rfl
  obtain ⟨a6, e6, _, u6⟩ := DataW.trod_int Try.underlying3 t6
  obtain ⟨n7, y7, t7⟩ := hf 7 _ c7 rfl rfl
  obtain ⟨a7, e7, _, u7⟩ := DataW.trod_int Try.underlying3 t7
  obtain ⟨n8, y8, t8⟩ := hf 8 _ c8 rfl rfl
  obtain ⟨a8, e8, _, u8⟩ := DataW.trod_int Try.underlying3 t8
  obtain ⟨n9, y9, t9⟩ := hf 9 _ c9 rfl rfl
  obtain ⟨a9, e9, _, u9⟩ := DataW.trod_int Try.underlying3 t9
  obtain ⟨n10, y10, t10⟩ := hf 10 _ c10 rfl rfl
  obtain ⟨a10, e10, _, u10⟩ := DataW.trod_int Try.underlying3 t10
  obtain ⟨n11, y11, t11⟩ := hf 11 _ c11 rfl rfl
  obtain ⟨a11, e11, _⟩ := DataW.trod_bool Try.underlying4 t11
  obtain ⟨n12, y12, t12⟩ := hf 12 _ c12 rfl rfl
  obtain ⟨a12, e12, _⟩ := DataW.trod_bool Try.underlying4 t12
  simp only [List.cons.injEq, and_true] at e0 e1 e2 e3 e4 e5 e6 e7 e8 e9 e10 e11 e12
  subst e0 e1 e2 e3 e4 e5 e6 e7 e8 e9 e10 e11 e12
  refine ⟨⟨a0, a1, a2, a3, a4, a5, a6, a7, a8, a9, a10, a11, a12⟩, rfl, fun x hx => ?_⟩
  simp only [List.mem_cons, List.mem_nil_iff, or_false] at hx
  rcases hx with rfl | rfl | rfl | rfl | rfl | rfl | rfl | rfl | rfl | rfl | rfl <;> assumption
theorem side_of_cells {H : Type} {enc : TypeId × Value → H} {w : World} {base : Nat} {spare : TypeId → Bool} {held : Bool} {cs : List Value} {x : DataW H × List MemPlace} {fuel : Nat} (h : DataW.trod enc Try.prog w base spare held fuel 136 cs = some x) (hl : cs.length = 3) : ∃ q : Sd, cs = sdC q ∧ q.wf := by
  have hf := open_cells1 Try.underlying136 (by kernel_rfl) h
  obtain ⟨c0, c1, c2, rfl⟩ := list3 (l := cs) hl
  obtain ⟨n0, y0, t0⟩ := hf 0 _ c0 rfl rfl
  obtain ⟨a0, e0, _, u0⟩ := DataW.trod_int Try.underlying3 t0
  obtain ⟨n1, y1, t1⟩ := hf 1 _ c1 rfl rfl
  obtain ⟨a1, e1, _, u1⟩ := DataW.trod_int Try.underlying3 t1
  obtain ⟨n2, y2, t2⟩ := hf 2 _ c2 rfl rfl
  obtain ⟨a2, e2, _⟩ := DataW.trod_bool Try.underlying4 t2
  simp only [List.cons.injEq, and_true] at e0 e1 e2
  subst e0 e1 e2
  exact ⟨⟨a0, a1, a2⟩, rfl, u0, u1⟩
theorem open_pieces {H : Type} {enc : TypeId × Value → H} {w : World} {base : Nat} {spare : TypeId → Bool} {held : Bool} {v : Value} {x : DataW H × List MemPlace} {fuel : Nat} (h : DataW.trod enc Try.prog w base spare held fuel 54 [v] = some x) :
    ∃ (a : Option Addr) (len cap b : Nat) (f : Nat → Pc), v = .slice a len cap ∧ len ≤ cap ∧ cap ≤ maxLen ∧ RdE pcC 13 w b a len f ∧ (∀ i, i < len → (f i).wf) ∧ (a = none → len = 0) := by
  rcases Deep.open_slice Try.underlying54 h with ⟨hcs, _⟩ | ⟨a, len, cap, m, k, D, Pl, hcs, _, hl, hm, hmm, _, hx⟩
  · simp at hcs
    exact ⟨none, 0, 0, 0, fun _ => ⟨0, 0, 0, 0, 0, 0, 0, 0, 0, 0, 0, false, false⟩, hcs, Nat.le_refl _, Nat.zero_le _, .inl rfl, fun i hi => by omega, fun _ => rfl⟩
  · simp at hcs
    have hce : (Try.prog).cellsOf 132 = 13 := by kernel_rfl
    have hlm : len ≤ m := by rw [hmm]; split <;> omega
    have each : ∀ i, i < m → ∃ q : Pc, (∀ j u, (pcC q)[j]? = some u → w.cell? ((a.add (i * 13)).add j) = some u) ∧ q.wf := by
      intro i hi
      obtain ⟨cs', h1, h2⟩ := hx i hi
      rw [hce] at h1
      obtain ⟨_, hlen, hcell⟩ := World.cells?_some h1
      obtain ⟨q, rfl, hq⟩ := piece_of_cells h2 hlen
      refine ⟨q, fun j u hu => ?_, hq⟩
      have hj : j < 13 := by rw [← hlen]; exact (List.getElem?_eq_some_iff.1 hu).1
      rw [hcell j hj]; exact hu
    have hin : Inhabited Pc := ⟨⟨0, 0, 0, 0, 0, 0, 0, 0, 0, 0, 0, false, false⟩⟩
    obtain ⟨q, hq⟩ := Deep.choose_lt each
    by_cases h0 : len = 0
    · exact ⟨some a, len, cap, 0, q, hcs, hl, hm, .inl h0, fun i hi => by omega, fun e => by cases e⟩
    · obtain ⟨b, off, spot⟩ := a
      have c0 := (hq 0 (by omega)).1 0 _ rfl
      have hspot : spot = none := by
        have := World.cell?_spot c0
        simpa [Addr.add] using this
      subst hspot
      refine ⟨some ⟨b, off, none⟩, len, cap, b, q, hcs, hl, hm, .inr ⟨off, rfl, fun i hi j u hu => ?_⟩, fun i hi => (hq i (by omega)).2, fun e => by cases e⟩
      have := (hq i (by omega)).1 j u hu
      rw [Go.WideShapes.add_plain, Go.WideShapes.add_plain] at this
      exact this
theorem open_sides {H : Type} {enc : TypeId × Value → H} {w : World} {base : Nat} {spare : TypeId → Bool} {held : Bool} {v : Value} {x : DataW H × List MemPlace} {fuel : Nat} (h : DataW.trod enc Try.prog w base spare held fuel 55 [v] = some x) :
    ∃ (a : Option Addr) (len cap b : Nat) (f : Nat → Sd), v = .slice a len cap ∧ len ≤ cap ∧ cap ≤ maxLen ∧ RdE sdC 3 w b a len f ∧ (∀ i, i < len → (f i).wf) ∧ (a = none → len = 0) := by
  rcases Deep.open_slice Try.underlying55 h with ⟨hcs, _⟩ | ⟨a, len, cap, m, k, D, Pl, hcs, _, hl, hm, hmm, _, hx⟩
  · simp at hcs
    exact ⟨none, 0, 0, 0, fun _ => ⟨0, 0, false⟩, hcs, Nat.le_refl _, Nat.zero_le _, .inl rfl, fun i hi => by omega, fun _ => rfl⟩
  · simp at hcs
    have hce : (Try.prog).cellsOf 136 = 3 := by kernel_rfl
    have hlm : len ≤ m := by rw [hmm]; split <;> omega
    have each : ∀ i, i < m → ∃ q : Sd, (∀ j u, (sdC q)[j]? = some u → w.cell? ((a.add (i * 3)).add j) = some u) ∧ q.wf := by
      intro i hi
      obtain ⟨cs', h1, h2⟩ := hx i hi
      rw [hce] at h1
      obtain ⟨_, hlen, hcell⟩ := World.cells?_some h1
      obtain ⟨q, rfl, hq⟩ := side_of_cells h2 hlen
      refine ⟨q, fun j u hu => ?_, hq⟩
      have hj : j < 3 := by rw [← hlen]; exact (List.getElem?_eq_some_iff.1 hu).1
      rw [hcell j hj]; exact hu
    have hin : Inhabited Sd := ⟨⟨0, 0, false⟩⟩
    obtain ⟨q, hq⟩ := Deep.choose_lt each
    by_cases h0 : len = 0
    · exact ⟨some a, len, cap, 0, q, hcs, hl, hm, .inl h0, fun i hi => by omega, fun e => by cases e⟩
    · obtain ⟨b, off, spot⟩ := a
      have c0 := (hq 0 (by omega)).1 0 _ rfl
      have hspot : spot = none := by
        have := World.cell?_spot c0
        simpa [Addr.add] using this
      subst hspot
      refine ⟨some ⟨b, off, none⟩, len, cap, b, q, hcs, hl, hm, .inr ⟨off, rfl, fun i hi j u hu => ?_⟩, fun i hi => (hq i (by omega)).2, fun e => by cases e⟩
      have := (hq i (by omega)).1 j u hu
      rw [Go.WideShapes.add_plain, Go.WideShapes.add_plain] at this
      exact this
/-- a state as it came in -/
structure Stt where
  (pa : Option Addr)
  (pn pcap pb : Nat)
  (ps : Nat → Pc)
  (sa : Option Addr)
  (sn scap sb : Nat)
  (ss : Nat → Sd)
  (ac cl : Int)
def Stt.ok (s : Stt) (w : World) : Prop := s.pn ≤ s.pcap ∧ s.pcap ≤ maxLen ∧ RdE pcC 13 w s.pb s.pa s.pn s.ps ∧ s.sn ≤ s.scap ∧ s.scap ≤ maxLen ∧ RdE sdC 3 w s.sb s.sa s.sn s.ss ∧ (Lit.int .i64 s.ac).wf = true ∧ (Lit.int .i64 s.cl).wf = true ∧ (∀ i, i < s.pn → (s.ps i).wf) ∧ (∀ i, i < s.sn → (s.ss i).wf)
theorem list4 {α : Type} : ∀ {l : List α}, l.length = 4 → ∃ a b c d, l = [a, b, c, d]
  | [a, b, c, d], _ => ⟨a, b, c, d, rfl⟩
theorem open_state {H : Type} {enc : TypeId × Value → H} {w : World} {base : Nat} {spare : TypeId → Bool} {held : Bool} {r : Reach} {b0 : Nat} {v : Value} {d : DataW H} {p : List MemPlace} (hv : Value.okWide Try.prog w r b0 57 v) (h : DataW.Trod enc Try.prog w base spare held 57 v d p) :
    ∃ s : Stt, v = .agg #[.slice s.pa s.pn s.pcap, .slice s.sa s.sn s.scap, .int .i64 s.ac, .int .i64 s.cl] ∧ s.ok w := by
  obtain ⟨cs, rfl, hl, hf⟩ := open_struct1 Try.underlying57 (by kernel_rfl) (by kernel_rfl) hv h
  obtain ⟨c0, c1, c2, c3, rfl⟩ := list4 (l := cs) hl
  obtain ⟨n0, y0, t0⟩ := hf 0 _ c0 rfl rfl
  obtain ⟨n1, y1, t1⟩ := hf 1 _ c1 rfl rfl
  obtain ⟨n2, y2, t2⟩ := hf 2 _ c2 rfl rfl
  obtain ⟨n3, y3, t3⟩ := hf 3 _ c3 rfl rfl
  obtain ⟨pa, pn, pcap, pb, ps, rfl, p1, p2, p3, p4, _⟩ := open_pieces t0
  obtain ⟨sa, sn, scap, sb, ss, rfl, s1, s2, s3, s4, _⟩ := open_sides t1
  obtain ⟨a2, e2, _, u2⟩ := DataW.trod_int Try.underlying3 t2
  obtain ⟨a3, e3, _, u3⟩ := DataW.trod_int Try.underlying3 t3
  simp only [List.cons.injEq, and_true] at e2 e3
  subst e2 e3
  exact ⟨⟨pa, pn, pcap, pb, ps, sa, sn, scap, sb, ss, a2, a3⟩, rfl, p1, p2, p3, s1, s2, s3, u2, u3, p4, s4⟩
end Go.Proofs.Ytodfdfncdoliiau
