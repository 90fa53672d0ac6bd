/-
  A region that draws its order, whose operations read elder memory or call functions that make new memory alone and answer one value: one walk serves every order (RegTail's law, the worlds being all those in which what was there lies as it lay). Chapter 4: the specification's SamePiece, HasTrait, PowerOf, ToughOf, Moved. The laws' own helpers over states: eqSide, eqPieceS, eqSideS, szState, toState, eqState. Written by tools/state4.gen.py. Own work.
-/
import Derived.Test.YtodfdfncdoliiadGSeg2
import Derived.Test.YtodfdfncdoliiadGRow3
import Derived.BigQuiet
import Derived.Test.YtodfdfncdoliiadGEvA3
import Derived.Test.YtodfdfncdoliiadState3
namespace Go.Proofs.Ytodfdfncdoliiad
open Go.ChangeShapes Go.WideShapes Go.ChangeAt Go.RowKit
set_option maxRecDepth 100000
/-- a world in which all that W holds lies as it lay -/
structure BW (W : World) where
  u : World
  h : Below W.heap.size W u
theorem bw_ne (W : World) : Nonempty (BW W) := ⟨⟨W, Below.refl _ _⟩⟩
theorem quiet_below {P : Program} {f : FuncId} {args : Array Value} {W : World} {x : BW W} {v : Value} (h : Calls P f args x.u fun e w' => e = .returned v ∧ Below x.u.heap.size x.u w') :
    Calls P f args x.u fun e w'' => e = .returned v ∧ ∃ y : BW W, w'' = y.u :=
  h.mono fun _ w' ⟨he, hb⟩ => ⟨he, ⟨w', x.h.trans (hb.mono x.h.size)⟩, rfl⟩
theorem quiet_below_same {P : Program} {f : FuncId} {args : Array Value} {W : World} {x : BW W} {v : Value} (h : Calls P f args x.u fun e w' => e = .returned v ∧ w' = x.u) :
    Calls P f args x.u fun e w'' => e = .returned v ∧ ∃ y : BW W, w'' = y.u :=
  h.mono fun _ _ ⟨he, hb⟩ => ⟨he, x, hb⟩
theorem BW.cell {W : World} {p : Addr} {v : Value} (x : BW W) (h : W.cell? p = some v) : x.u.cell? p = some v := (x.h.cell (World.block_lt_of_cell? W p h)).trans h
theorem wp_region_below_lit (k : Nat) {P : Program} {id : Nat} {a : Act} {w W : World} {l : List Oper} {Q : Exit → Act → World → Prop} (hm : P.follows .mixedOrders = true) (hB : tailB l.toArray k = true) (hk : k ≤ l.length)
    (hW : Below W.heap.size W w) (hQ : ∀ c (d : Option Tmp) v a w, Q (.panic c) (a.put d v) w → Q (.panic c) a w)
    (h : wpQuiet P l.toArray (fun w' => ∃ x : BW W, w' = x.u) (fun a' => ∀ w', (∃ x : BW W, w' = x.u) → wpList P l.toArray Q (l.drop k) a' w') (l.take k) a) : (Code.region id l.toArray true).wp P Q a w :=
  wp_region_tail (C := fun w' => ∃ x : BW W, w' = x.u) hm (l.take k) (l.drop k) (by simp) (by rw [List.length_take, Nat.min_eq_left hk]; exact hB) ⟨⟨_, below_drewN hW 1⟩, rfl⟩ hQ h
end Go.Proofs.Ytodfdfncdoliiad
namespace Go.Proofs.Ytodfdfncdoliiad
open Go.ChangeShapes Go.WideShapes Go.ChangeAt Go.RowKit
set_option maxRecDepth 100000

/-- whether two pieces are the same in all their parts -/
def smP (p q : Pc) : Bool := decide (p.id = q.id) && decide (p.ow = q.ow) && decide (p.si = q.si) && decide (p.zo = q.zo) && decide (p.st = q.st) && decide (p.po = q.po) && decide (p.to = q.to) && decide (p.tr = q.tr) && decide (p.pl = q.pl) && decide (p.mi = q.mi) && decide (p.ma = q.ma) && (p.de == q.de) && (p.be == q.be)
/-- how strong it is, how tough -/
def pwP (p : Pc) : Int := ls (pl p.po p.pl) p.mi
def tgP (p : Pc) : Int := ls (pl p.to p.pl) p.mi
/-- it, elsewhere -/
def mvP (p : Pc) (z s : Int) : Pc := ⟨p.id, p.ow, p.ow, z, s, p.po, p.to, p.tr, 0, 0, 0, false, false⟩
/-- whether t is one of the traits -/
def isT (t : Int) : Bool := decide (t = 1) || decide (t = 2) || decide (t = 4) || decide (t = 8) || decide (t = 16) || decide (t = 32)
/-- whether t is among its traits -/
def htP (p : Pc) (t : Int) : Bool := isT t && (bits .and .i64 p.tr t != 0)
theorem htP_is {p : Pc} {t : Int} (h : isT t = true) : htP p t = (bits .and .i64 p.tr t != 0) := by unfold htP; rw [h]; rfl
theorem smP_self (p : Pc) : smP p p = true := by unfold smP; simp
end Go.Proofs.Ytodfdfncdoliiad
namespace Go.Proofs.Ytodfdfncdoliiad
open Go.ChangeShapes Go.WideShapes Go.ChangeAt Go.RowKit
set_option maxRecDepth 100000
/-- how much is left: the laws' own measure -/
def szN (n : Nat) (x : Int) : Int := if x - n < 0 then -1 else x - n
end Go.Proofs.Ytodfdfncdoliiad
