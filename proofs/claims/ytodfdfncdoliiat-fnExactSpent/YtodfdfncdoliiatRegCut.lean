/-
  A region that draws its order, cut off from what follows: its orders meet again. 'vs': which slots hold what behind it. Own work.
-/
import Derived.Test.YtodfdfncdoliiatRows
import Derived.WalkKit
import Derived.Deep.RegionWith
import Derived.Shelf.RegionOpenPlain
namespace Go.Proofs.Ytodfdfncdoliiat
def puts (a : Act) (vs : List (Nat × Value)) : Act := vs.foldl (fun a x => a.put (some x.1) x.2) a
theorem wp_cutP {P : Program} {c : Go.Code} {a : Act} {w : World} {K : Act → World → Prop} {Q : Exit → Act → World → Prop} (vs : Nat → Nat → List (Nat × Value)) (F : Nat → Nat → World → Prop)
    (h : c.wp P (Exit.then (fun a' u => ∃ q k, a' = puts a (vs q k) ∧ F q k u) Q) a w) (hk : ∀ q k u, F q k u → K (puts a (vs q k)) u) : c.wp P (Exit.then K Q) a w := by
  refine wp_mono h fun e a' u hq => ?_
  cases e
  case normal => obtain ⟨q, k, rfl, hf⟩ := hq; exact hk q k u hf
  all_goals exact hq
end Go.Proofs.Ytodfdfncdoliiat
