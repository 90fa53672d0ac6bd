/-
  Words for a state: its sides, rows of structs (RdE, OwnE), and how a law's own state is opened. Written by tools/state1.gen.py. Own work.
-/
import Derived.Test.YtodfdfncdoliiauGreatGRow2
import Derived.Deep.Slices
namespace Go.Proofs.YtodfdfncdoliiauGreat
open Go.ChangeShapes Go.WideShapes Go.ChangeAt Go.RowKit
set_option maxRecDepth 100000

structure Sd where
  (li po : Int)
  (lo : Bool)
def Sd.wf (s : Sd) : Prop := (Lit.int .i64 s.li).wf = true ∧ (Lit.int .i64 s.po).wf = true
/-- the cells of a piece, of a side -/
def pcC (p : Pc) : List Value := [.int .i64 p.id, .int .i64 p.ow, .int .i64 p.si, .int .i64 p.zo, .int .i64 p.st, .int .i64 p.po, .int .i64 p.to, .int .i64 p.tr, .int .i64 p.pl, .int .i64 p.mi, .int .i64 p.ma, .bool p.de, .bool p.be]
def sdC (s : Sd) : List Value := [.int .i64 s.li, .int .i64 s.po, .bool s.lo]
/-- the slice at 'a', of n elements of m cells each, reads f, in block b; C: an element's cells -/
def RdE {α : Type} (C : α → List Value) (m : Nat) (w : World) (b : Nat) (a : Option Addr) (n : Nat) (f : Nat → α) : Prop :=
  n = 0 ∨ ∃ off : Nat, a = some ⟨b, off, none⟩ ∧ ∀ i, i < n → ∀ j v, (C (f i))[j]? = some v → w.cell? ⟨b, off + i * m + j, none⟩ = some v
def OwnE {α : Type} (C : α → List Value) (m : Nat) (w : World) (B b : Nat) (a : Option Addr) (n : Nat) (f : Nat → α) : Prop := B ≤ b ∧ b < w.heap.size ∧ RdE C m w b a n f ∧ Free w b
section
variable {α : Type} {C : α → List Value} {m : Nat} {w w' : World} {b B : Nat} {a : Option Addr} {n : Nat} {f g : Nat → α}
theorem RdE.same (h : RdE C m w b a n f) (e : w'.heap[b]? = w.heap[b]?) : RdE C m w' b a n f := by
  rcases h with h | ⟨off, ha, hc⟩
  · exact .inl h
  · exact .inr ⟨off, ha, fun i hi j v hv => (World.cell?_of_block (w := w) (a := ⟨b, off + i * m + j, none⟩) e).trans (hc i hi j v hv)⟩
theorem RdE.congr (h : RdE C m w b a n f) (e : ∀ i, i < n → f i = g i) : RdE C m w b a n g := by
  rcases h with h | ⟨off, ha, hc⟩
  · exact .inl h
  · exact .inr ⟨off, ha, fun i hi => by rw [← e i hi]; exact hc i hi⟩
theorem RdE.lt (h : RdE C m w b a n f) (hn : 0 < n) (hC : ∀ x, C x ≠ []) : b < w.heap.size := by
  rcases h with h | ⟨off, ha, hc⟩
  · omega
  · cases e : C (f 0) with
    | nil => exact absurd e (hC _)
    | cons v l => exact World.block_lt_of_cell? w _ (hc 0 hn 0 v (by rw [e]; rfl))
theorem RdE.grew (h : RdE C m w b a n f) (hC : ∀ x, C x ≠ []) (hb : Below w.heap.size w w') : RdE C m w' b a n f := by
  by_cases hn : 0 < n
  · exact h.same (hb.block b (h.lt hn hC))
  · exact .inl (by omega)
theorem RdE.first (h : RdE C m w b a n f) {k : Nat} (hk : k ≤ n) : RdE C m w b a k f := by
  rcases h with h | ⟨off, ha, hc⟩
  · exact .inl (by omega)
  · exact .inr ⟨off, ha, fun i hi => hc i (by omega)⟩
theorem OwnE.same (h : OwnE C m w B b a n f) (e : w'.heap[b]? = w.heap[b]?) (hs : w.heap.size ≤ w'.heap.size) : OwnE C m w' B b a n f := ⟨h.1, Nat.lt_of_lt_of_le h.2.1 hs, h.2.2.1.same e, h.2.2.2.same e⟩
theorem OwnE.grew (h : OwnE C m w B b a n f) (hb : Below w.heap.size w w') : OwnE C m w' B b a n f := h.same (hb.block b h.2.1) hb.size
theorem OwnE.rd (h : OwnE C m w B b a n f) : RdE C m w b a n f := h.2.2.1
end
theorem pcC_ne (p : Pc) : pcC p ≠ [] := by unfold pcC; simp
theorem sdC_ne (s : Sd) : sdC s ≠ [] := by unfold sdC; simp
section
variable {H : Type} {enc : TypeId × Value → H} {P : Program} {w : World} {base : Nat} {spare : TypeId → Bool} {held : Bool}
/-- a struct whose fields are of one cell each, in a row: each field's reading -/
theorem open_cells1 {t : TypeId} {fs : Array Field} {cs : List Value} {x : DataW H × List MemPlace} {fuel : Nat} (hs : P.underlying t = some (.struct fs)) (hone : Deep.oneCellFields P fs = true)
    (h : DataW.trod enc P w base spare held fuel t cs = some x) : ∀ (i : Nat) (f : Field) (c : Value), fs[i]? = some f → cs[i]? = some c → ∃ n y, DataW.trod enc P w base spare held n f.type [c] = some y := by
  obtain ⟨xs, n, _, _, _, hlen, hx⟩ := DataW.trod_struct hs h
  intro i f c hfi hci
  obtain ⟨o, k⟩ := Deep.hone_of hone i f hfi
  have h1 := hx i f hfi
  have hi : i < xs.length := by rw [hlen]; exact (Array.getElem?_eq_some_iff.1 hfi).1
  rw [List.getElem?_eq_getElem hi, o, k] at h1
  have hc : (cs.drop i).take 1 = [c] := by
    obtain ⟨hl, rfl⟩ := List.getElem?_eq_some_iff.1 hci
    rw [List.drop_eq_getElem_cons hl]; rfl
  rw [hc] at h1
  exact ⟨n, _, h1⟩
end

theorem list3 {α : Type} : ∀ {l : List α}, l.length = 3 → ∃ a b c, l = [a, b, c]
  | [a, b, c], _ => ⟨a, b, c, rfl⟩
/-- a state as it came in -/
structure Stt where
  (pa : Option Addr)
  (pn pcap pb : Nat)
  (ps : Nat → Pc)
  (sa : Option Addr)
  (sn scap sb : Nat)
  (ss : Nat → Sd)
  (ac cl : Int)
def Stt.ok (s : Stt) (w : World) : Prop := s.pn ≤ s.pcap ∧ s.pcap ≤ maxLen ∧ RdE pcC 13 w s.pb s.pa s.pn s.ps ∧ s.sn ≤ s.scap ∧ s.scap ≤ maxLen ∧ RdE sdC 3 w s.sb s.sa s.sn s.ss ∧ (Lit.int .i64 s.ac).wf = true ∧ (Lit.int .i64 s.cl).wf = true ∧ (∀ i, i < s.pn → (s.ps i).wf) ∧ (∀ i, i < s.sn → (s.ss i).wf)
theorem list4 {α : Type} : ∀ {l : List α}, l.length = 4 → ∃ a b c d, l = [a, b, c, d]
  | [a, b, c, d], _ => ⟨a, b, c, d, rfl⟩
end Go.Proofs.YtodfdfncdoliiauGreat
