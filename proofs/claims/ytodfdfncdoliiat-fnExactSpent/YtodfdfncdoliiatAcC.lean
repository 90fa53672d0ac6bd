/-
  Chapter 9: the specification's Parts (paN, paF: how many, which). Written by tools/ac.gen.py. Own work.
-/
import Derived.Test.YtodfdfncdoliiatAcB
import Derived.Test.YtodfdfncdoliiatState8
import Derived.Test.YtodfdfncdoliiatStAt
namespace Go.Proofs.Ytodfdfncdoliiat
open Go.ChangeShapes Go.WideShapes Go.ChangeAt Go.RowKit
set_option maxRecDepth 100000
set_option linter.unusedVariables false
set_option linter.unusedSimpArgs false

theorem owns_kept9 {w w' : World} {B : Nat} {e : TypeId} {m : Nat} {v : Value} {n : Nat} {xs : List Value} (h : w.ownsRow B e m v n xs) (hb : Below w.heap.size w w') : w'.ownsRow B e m v n xs := h.kept (row := none) ⟨hb.os, hb.tape, hb.output, hb.size, fun k hk _ => hb.block k hk⟩ (by cases v.ownBlock <;> simp)
/-- the parts of an act for a thing: how many, which -/
def paN (a : Ac) : Nat := if a.kd = 9 then a.ln else 0
def paF (a : Ac) (e : Ev) : Nat → Ev := fun i => if (a.es i).nn = -1 then { a.es i with nn := up e.nn 2147483647 } else a.es i
theorem paF_yes {a : Ac} {e : Ev} {k : Nat} (h : ((a.es k).nn == -1) = true) : paF a e k = { a.es k with nn := up e.nn 2147483647 } := by unfold paF; simp_all
theorem paF_no {a : Ac} {e : Ev} {k : Nat} (h : ((a.es k).nn == -1) = false) : paF a e k = a.es k := by unfold paF; simp_all
end Go.Proofs.Ytodfdfncdoliiat
