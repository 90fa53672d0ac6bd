/-
  A region that draws its order, whose operations read elder memory or call functions that make new memory alone and answer one value: one walk serves every order (RegTail's law, the worlds being all those in which what was there lies as it lay). Chapter 4: the specification's SamePiece, HasTrait, PowerOf, ToughOf, Moved. The laws' own helpers over states: eqSide, eqPieceS, eqSideS, szState, toState, eqState. Written by tools/state4.gen.py. The laws' own helpers over states: szState, toState, eqState. Own work.
-/
import Derived.Test.YtodfdfncdoliiatRegTail
import Derived.Test.YtodfdfncdoliiatGPiece22
import Derived.BigQuiet
import Derived.Test.YtodfdfncdoliiatNum
import Derived.Test.YtodfdfncdoliiatGState32
namespace Go.Proofs.Ytodfdfncdoliiat
open Go.ChangeShapes Go.WideShapes Go.ChangeAt Go.RowKit
set_option maxRecDepth 100000
/-- a world in which all that W holds lies as it lay -/
structure BW (W : World) where
  u : World
  h : Below W.heap.size W u
theorem bw_ne (W : World) : Nonempty (BW W) := ⟨⟨W, Below.refl _ _⟩⟩
theorem quiet_below {P : Program} {f : FuncId} {args : Array Value} {W : World} {x : BW W} {v : Value} (h : Calls P f args x.u fun e w' => e = .returned v ∧ Below x.u.heap.size x.u w') :
    Calls P f args x.u fun e w'' => e = .returned v ∧ ∃ y : BW W, w'' = y.u :=
  h.mono fun _ w' ⟨he, hb⟩ => ⟨he, ⟨w', x.h.trans (hb.mono x.h.size)⟩, rfl⟩
theorem quiet_below_same {P : Program} {f : FuncId} {args : Array Value} {W : World} {x : BW W} {v : Value} (h : Calls P f args x.u fun e w' => e = .returned v ∧ w' = x.u) :
    Calls P f args x.u fun e w'' => e = .returned v ∧ ∃ y : BW W, w'' = y.u :=
  h.mono fun _ _ ⟨he, hb⟩ => ⟨he, x, hb⟩
theorem BW.cell {W : World} {p : Addr} {v : Value} (x : BW W) (h : W.cell? p = some v) : x.u.cell? p = some v := (x.h.cell (World.block_lt_of_cell? W p h)).trans h
theorem wp_region_below_lit (k : Nat) {P : Program} {id : Nat} {a : Act} {w W : World} {l : List Oper} {Q : Exit → Act → World → Prop} (hm : P.follows .mixedOrders = true) (hB : tailB l.toArray k = true) (hk : k ≤ l.length)
    (hW : Below W.heap.size W w) (hQ : ∀ c (d : Option Tmp) v a w, Q (.panic c) (a.put d v) w → Q (.panic c) a w)
    (h : wpQuiet P l.toArray (fun w' => ∃ x : BW W, w' = x.u) (fun a' => ∀ w', (∃ x : BW W, w' = x.u) → wpList P l.toArray Q (l.drop k) a' w') (l.take k) a) : (Code.region id l.toArray true).wp P Q a w :=
  wp_region_tail (C := fun w' => ∃ x : BW W, w' = x.u) hm (l.take k) (l.drop k) (by simp) (by rw [List.length_take, Nat.min_eq_left hk]; exact hB) ⟨⟨_, below_drewN hW 1⟩, rfl⟩ hQ h
end Go.Proofs.Ytodfdfncdoliiat
namespace Go.Proofs.Ytodfdfncdoliiat
open Go.ChangeShapes Go.WideShapes Go.ChangeAt Go.RowKit
set_option maxRecDepth 100000

/-- whether two pieces are the same in all their parts -/
def smP (p q : Pc) : Bool := decide (p.id = q.id) && decide (p.ow = q.ow) && decide (p.si = q.si) && decide (p.zo = q.zo) && decide (p.st = q.st) && decide (p.po = q.po) && decide (p.to = q.to) && decide (p.tr = q.tr) && decide (p.pl = q.pl) && decide (p.mi = q.mi) && decide (p.ma = q.ma) && (p.de == q.de) && (p.be == q.be)
/-- how strong it is, how tough -/
def pwP (p : Pc) : Int := ls (pl p.po p.pl) p.mi
def tgP (p : Pc) : Int := ls (pl p.to p.pl) p.mi
/-- it, elsewhere -/
def mvP (p : Pc) (z s : Int) : Pc := ⟨p.id, p.ow, p.ow, z, s, p.po, p.to, p.tr, 0, 0, 0, false, false⟩
/-- whether t is one of the traits -/
def isT (t : Int) : Bool := decide (t = 1) || decide (t = 2) || decide (t = 4) || decide (t = 8) || decide (t = 16) || decide (t = 32)
/-- whether t is among its traits -/
def htP (p : Pc) (t : Int) : Bool := isT t && (bits .and .i64 p.tr t != 0)
theorem htP_is {p : Pc} {t : Int} (h : isT t = true) : htP p t = (bits .and .i64 p.tr t != 0) := by unfold htP; rw [h]; rfl
theorem smP_self (p : Pc) : smP p p = true := by unfold smP; simp
end Go.Proofs.Ytodfdfncdoliiat
namespace Go.Proofs.Ytodfdfncdoliiat
open Go.ChangeShapes Go.WideShapes Go.ChangeAt Go.RowKit
set_option maxRecDepth 100000
/-- how much is left: the laws' own measure -/
def szN (n : Nat) (x : Int) : Int := if x - n < 0 then -1 else x - n
end Go.Proofs.Ytodfdfncdoliiat
namespace Go.Proofs.Ytodfdfncdoliiat
open Go.ChangeShapes Go.WideShapes Go.ChangeAt Go.RowKit
set_option maxRecDepth 100000
/-- block b holds these cells -/
def BoxR (w : World) (b t : Nat) (cs : Array Value) : Prop := w.heap[b]? = some (.cells cs t (0, 0))
theorem BoxR.lt {w : World} {b t : Nat} {cs : Array Value} (h : BoxR w b t cs) : b < w.heap.size := (Array.getElem?_eq_some_iff.1 h).1
theorem BoxR.grew {w w' : World} {b t : Nat} {cs : Array Value} (h : BoxR w b t cs) (hb : Below w.heap.size w w') : BoxR w' b t cs := (hb.block b h.lt).trans h
theorem BoxR.alloc {w : World} {b t : Nat} {cs : Array Value} (h : BoxR w b t cs) (o : Obj) : BoxR (w.alloc o) b t cs := (Below.heap_alloc w o b h.lt).trans h
theorem BoxR.cell {w : World} {b t : Nat} {cs : Array Value} (h : BoxR w b t cs) (j : Nat) : w.cell? ⟨b, j, none⟩ = cs[j]? := cell_of_row w b j _ t (0, 0) h
theorem BoxR.froz {w : World} {b t : Nat} {cs : Array Value} (h : BoxR w b t cs) (j : Nat) : w.frozen? ⟨b, j, none⟩ = false := frozen_of_row w b j _ t h
theorem BoxR.put {w : World} {b t : Nat} {cs : Array Value} (h : BoxR w b t cs) (j : Nat) (v : Value) : BoxR (w.setCell ⟨b, j, none⟩ v) b t (cs.setIfInBounds j v) := Go.heap_setCell_same w b j _ t v h
theorem BoxR.other {w : World} {b t : Nat} {cs : Array Value} (h : BoxR w b t cs) {q : Addr} (hq : b ≠ q.block) (v : Value) : BoxR (w.setCell q v) b t cs := (Below.heap_setCell w q v b hq).trans h
theorem boxR_new (w : World) (t : Nat) (cs : Array Value) : BoxR (w.alloc (.cells cs t)) w.heap.size t cs := heap_alloc_new w _
theorem OwnE.setCell {α : Type} {C : α → List Value} {m : Nat} {w : World} {B b : Nat} {a : Option Addr} {n : Nat} {f : Nat → α} (h : OwnE C m w B b a n f) {q : Addr} (hq : b ≠ q.block) (v : Value) : OwnE C m (w.setCell q v) B b a n f :=
  h.same (Below.heap_setCell w q v b hq) (by simp [World.setCell])
theorem OwnE.setRow {α : Type} {C : α → List Value} {m : Nat} {w : World} {B b : Nat} {a : Option Addr} {n : Nat} {f : Nat → α} (h : OwnE C m w B b a n f) {g : Nat} (hg : b ≠ g) (cs : Array Value) : OwnE C m (w.setRow g cs) B b a n f :=
  h.same (by unfold World.setRow; simp only [Array.getElem?_modify]; rw [if_neg (Ne.symm hg)]) (by simp [World.setRow])
/-- what is left of a measure behind a state -/
def szS (pn sn : Nat) (x : Int) : Int := if x - pn - sn < 0 then -1 else x - pn - sn
/-- a state whose rows lie whole in blocks of the call's own -/
def ownSt (s : Stt) (p pc q qc : Nat) : Stt := ⟨some ⟨p, 0, none⟩, s.pn, pc, p, s.ps, some ⟨q, 0, none⟩, s.sn, qc, q, s.ss, s.ac, s.cl⟩
def OwnS (w : World) (B : Nat) (s : Stt) (p q : Nat) : Prop := OwnE pcC 13 w B p (some ⟨p, 0, none⟩) s.pn s.ps ∧ OwnE sdC 3 w B q (some ⟨q, 0, none⟩) s.sn s.ss ∧ p ≠ q
theorem OwnS.grew {w w' : World} {B : Nat} {s : Stt} {p q : Nat} (h : OwnS w B s p q) (hb : Below w.heap.size w w') : OwnS w' B s p q := ⟨h.1.grew hb, h.2.1.grew hb, h.2.2⟩
end Go.Proofs.Ytodfdfncdoliiat
