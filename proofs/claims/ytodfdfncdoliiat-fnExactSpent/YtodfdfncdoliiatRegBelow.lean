/-
  A region that draws its order, whose operations read elder memory or call functions that make new memory alone and answer one value: one walk serves every order (RegTail's law, the worlds being all those in which what was there lies as it lay). Own work.
-/
import Derived.Test.YtodfdfncdoliiatRegTail
import Derived.Test.YtodfdfncdoliiatRowLaw
import Derived.BigQuiet
namespace Go.Proofs.Ytodfdfncdoliiat
open Go.ChangeShapes Go.WideShapes Go.ChangeAt Go.RowKit
set_option maxRecDepth 100000
/-- a world in which all that W holds lies as it lay -/
structure BW (W : World) where
  u : World
  h : Below W.heap.size W u
theorem bw_ne (W : World) : Nonempty (BW W) := ⟨⟨W, Below.refl _ _⟩⟩
theorem quiet_below {P : Program} {f : FuncId} {args : Array Value} {W : World} {x : BW W} {v : Value} (h : Calls P f args x.u fun e w' => e = .returned v ∧ Below x.u.heap.size x.u w') :
    Calls P f args x.u fun e w'' => e = .returned v ∧ ∃ y : BW W, w'' = y.u :=
  h.mono fun _ w' ⟨he, hb⟩ => ⟨he, ⟨w', x.h.trans (hb.mono x.h.size)⟩, rfl⟩
theorem quiet_below_same {P : Program} {f : FuncId} {args : Array Value} {W : World} {x : BW W} {v : Value} (h : Calls P f args x.u fun e w' => e = .returned v ∧ w' = x.u) :
    Calls P f args x.u fun e w'' => e = .returned v ∧ ∃ y : BW W, w'' = y.u :=
  h.mono fun _ _ ⟨he, hb⟩ => ⟨he, x, hb⟩
theorem BW.cell {W : World} {p : Addr} {v : Value} (x : BW W) (h : W.cell? p = some v) : x.u.cell? p = some v := (x.h.cell (World.block_lt_of_cell? W p h)).trans h
theorem wp_region_below_lit (k : Nat) {P : Program} {id : Nat} {a : Act} {w W : World} {l : List Oper} {Q : Exit → Act → World → Prop} (hm : P.follows .mixedOrders = true) (hB : tailB l.toArray k = true) (hk : k ≤ l.length)
    (hW : Below W.heap.size W w) (hQ : ∀ c (d : Option Tmp) v a w, Q (.panic c) (a.put d v) w → Q (.panic c) a w)
    (h : wpQuiet P l.toArray (fun w' => ∃ x : BW W, w' = x.u) (fun a' => ∀ w', (∃ x : BW W, w' = x.u) → wpList P l.toArray Q (l.drop k) a' w') (l.take k) a) : (Code.region id l.toArray true).wp P Q a w :=
  wp_region_tail (C := fun w' => ∃ x : BW W, w' = x.u) hm (l.take k) (l.drop k) (by simp) (by rw [List.length_take, Nat.min_eq_left hk]; exact hB) ⟨⟨_, below_drewN hW 1⟩, rfl⟩ hQ h
end Go.Proofs.Ytodfdfncdoliiat
