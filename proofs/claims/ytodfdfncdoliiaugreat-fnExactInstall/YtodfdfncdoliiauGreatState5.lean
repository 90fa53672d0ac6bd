/-
  The laws' own helpers over states: szState, toState, eqState. Own work.
-/
import Derived.Test.YtodfdfncdoliiauGreatGRegBelow3
namespace Go.Proofs.YtodfdfncdoliiauGreat
open Go.ChangeShapes Go.WideShapes Go.ChangeAt Go.RowKit
set_option maxRecDepth 100000
/-- block b holds these cells -/
def BoxR (w : World) (b t : Nat) (cs : Array Value) : Prop := w.heap[b]? = some (.cells cs t (0, 0))
theorem BoxR.lt {w : World} {b t : Nat} {cs : Array Value} (h : BoxR w b t cs) : b < w.heap.size := (Array.getElem?_eq_some_iff.1 h).1
theorem BoxR.grew {w w' : World} {b t : Nat} {cs : Array Value} (h : BoxR w b t cs) (hb : Below w.heap.size w w') : BoxR w' b t cs := (hb.block b h.lt).trans h
theorem BoxR.alloc {w : World} {b t : Nat} {cs : Array Value} (h : BoxR w b t cs) (o : Obj) : BoxR (w.alloc o) b t cs := (Below.heap_alloc w o b h.lt).trans h
theorem BoxR.cell {w : World} {b t : Nat} {cs : Array Value} (h : BoxR w b t cs) (j : Nat) : w.cell? ⟨b, j, none⟩ = cs[j]? := cell_of_row w b j _ t (0, 0) h
theorem BoxR.froz {w : World} {b t : Nat} {cs : Array Value} (h : BoxR w b t cs) (j : Nat) : w.frozen? ⟨b, j, none⟩ = false := frozen_of_row w b j _ t h
theorem BoxR.put {w : World} {b t : Nat} {cs : Array Value} (h : BoxR w b t cs) (j : Nat) (v : Value) : BoxR (w.setCell ⟨b, j, none⟩ v) b t (cs.setIfInBounds j v) := Go.heap_setCell_same w b j _ t v h
theorem BoxR.other {w : World} {b t : Nat} {cs : Array Value} (h : BoxR w b t cs) {q : Addr} (hq : b ≠ q.block) (v : Value) : BoxR (w.setCell q v) b t cs := (Below.heap_setCell w q v b hq).trans h
theorem boxR_new (w : World) (t : Nat) (cs : Array Value) : BoxR (w.alloc (.cells cs t)) w.heap.size t cs := heap_alloc_new w _
theorem OwnE.setCell {α : Type} {C : α → List Value} {m : Nat} {w : World} {B b : Nat} {a : Option Addr} {n : Nat} {f : Nat → α} (h : OwnE C m w B b a n f) {q : Addr} (hq : b ≠ q.block) (v : Value) : OwnE C m (w.setCell q v) B b a n f :=
  h.same (Below.heap_setCell w q v b hq) (by simp [World.setCell])
theorem OwnE.setRow {α : Type} {C : α → List Value} {m : Nat} {w : World} {B b : Nat} {a : Option Addr} {n : Nat} {f : Nat → α} (h : OwnE C m w B b a n f) {g : Nat} (hg : b ≠ g) (cs : Array Value) : OwnE C m (w.setRow g cs) B b a n f :=
  h.same (by unfold World.setRow; simp only [Array.getElem?_modify]; rw [if_neg (Ne.symm hg)]) (by simp [World.setRow])
/-- what is left of a measure behind a state -/
def szS (pn sn : Nat) (x : Int) : Int := if x - pn - sn < 0 then -1 else x - pn - sn
/-- a state whose rows lie whole in blocks of the call's own -/
def ownSt (s : Stt) (p pc q qc : Nat) : Stt := ⟨some ⟨p, 0, none⟩, s.pn, pc, p, s.ps, some ⟨q, 0, none⟩, s.sn, qc, q, s.ss, s.ac, s.cl⟩
def OwnS (w : World) (B : Nat) (s : Stt) (p q : Nat) : Prop := OwnE pcC 13 w B p (some ⟨p, 0, none⟩) s.pn s.ps ∧ OwnE sdC 3 w B q (some ⟨q, 0, none⟩) s.sn s.ss ∧ p ≠ q
theorem OwnS.grew {w w' : World} {B : Nat} {s : Stt} {p q : Nat} (h : OwnS w B s p q) (hb : Below w.heap.size w w') : OwnS w' B s p q := ⟨h.1.grew hb, h.2.1.grew hb, h.2.2⟩
end Go.Proofs.YtodfdfncdoliiauGreat
