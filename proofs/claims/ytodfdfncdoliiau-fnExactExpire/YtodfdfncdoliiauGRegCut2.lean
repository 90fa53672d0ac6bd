/-
  A region that draws its order, cut off from what follows: its orders meet again. 'vs': which slots hold what behind it. Chapter 11, the program: what tableOf has built so far (TS). Written by tools/tai.gen.py. Own work.
-/
import Derived.Test.YtodfdfncdoliiauRows
import Derived.WalkKit
import Derived.Deep.RegionWith
import Derived.Shelf.RegionOpenPlain
import Derived.Test.YtodfdfncdoliiauMaB
import Derived.Test.YtodfdfncdoliiauGTaE2
import Derived.Test.YtodfdfncdoliiauGAcL3
import Derived.Deep.DeepCutAuto
import Derived.Deep.CutBlock
import Derived.Laws.OwnMore
namespace Go.Proofs.Ytodfdfncdoliiau
def puts (a : Act) (vs : List (Nat × Value)) : Act := vs.foldl (fun a x => a.put (some x.1) x.2) a
theorem wp_cutP {P : Program} {c : Go.Code} {a : Act} {w : World} {K : Act → World → Prop} {Q : Exit → Act → World → Prop} (vs : Nat → Nat → List (Nat × Value)) (F : Nat → Nat → World → Prop)
    (h : c.wp P (Exit.then (fun a' u => ∃ q k, a' = puts a (vs q k) ∧ F q k u) Q) a w) (hk : ∀ q k u, F q k u → K (puts a (vs q k)) u) : c.wp P (Exit.then K Q) a w := by
  refine wp_mono h fun e a' u hq => ?_
  cases e
  case normal => obtain ⟨q, k, rfl, hf⟩ := hq; exact hk q k u hf
  all_goals exact hq
end Go.Proofs.Ytodfdfncdoliiau
namespace Go.Proofs.Ytodfdfncdoliiau
open Go.ChangeShapes Go.WideShapes Go.ChangeAt Go.RowKit
set_option maxRecDepth 100000
set_option linter.unusedVariables false
set_option linter.unusedSimpArgs false

/-- a region that draws its order, cut off from what follows; what it answers is one of many -/
theorem wp_cutR {β : Type} {P : Program} {c : Go.Code} {a : Act} {w : World} {K : Act → World → Prop} {Q : Exit → Act → World → Prop} (vs : β → List (Nat × Value)) (F : β → World → Prop)
    (h : c.wp P (Exit.then (fun a' u => ∃ x, a' = puts a (vs x) ∧ F x u) Q) a w) (hk : ∀ x u, F x u → K (puts a (vs x)) u) : c.wp P (Exit.then K Q) a w := by
  refine wp_mono h fun e a' u hq => ?_
  cases e
  case normal => obtain ⟨x, rfl, hf⟩ := hq; exact hk x u hf
  all_goals exact hq
/-- .. and where it is a block's last -/
theorem wp_cutQ {β : Type} {P : Program} {c : Go.Code} {a : Act} {w : World} {Q : Exit → Act → World → Prop} (vs : β → List (Nat × Value)) (F : β → World → Prop)
    (h : c.wp P (Exit.then (fun a' u => ∃ x, a' = puts a (vs x) ∧ F x u) Q) a w) (hk : ∀ x u, F x u → Q .normal (puts a (vs x)) u) : c.wp P Q a w := by
  refine wp_mono h fun e a' u hq => ?_
  cases e
  case normal => obtain ⟨x, rfl, hf⟩ := hq; exact hk x u hf
  all_goals exact hq
/-- an effect as a value -/
def efV (e : Ef) : Value := (.agg #[.int .i64 e.id, .int .i64 e.si, .int .i64 e.sr, .int .i64 e.cl, .int .i64 e.pt.kd, .int .i64 e.pt.wh, .int .i64 e.pt.sr, .int .i64 e.pt.tr, .int .i64 e.pt.pi, .int .i64 e.pt.le, .int .i64 e.pt.zo, .int .i64 e.gd.kd, .int .i64 e.gd.nn, .int .i64 e.ac.kd, .int .i64 e.ac.nn, .int .i64 e.ac.pi, .int .i64 e.ac.si, .int .i64 e.ac.zo, .bool e.ac.be, .slice e.ac.la e.ac.ln e.ac.lcap, .int .i64 e.un, .int .i64 e.le])
/-- how many of an Id are among the first k -/
def cntI (f : Nat → Ef) (id : Int) : Nat → Nat
  | 0 => 0
  | k + 1 => cntI f id k + (if (f k).id = id then 1 else 0)
theorem cntI_le (f : Nat → Ef) (id : Int) : ∀ k, cntI f id k ≤ k
  | 0 => Nat.le_refl _
  | k + 1 => by have := cntI_le f id k; unfold cntI; split <;> omega
/-- the mark of the i-th -/
def mkAt (f : Nat → Ef) (i : Nat) : Int × Int := ((f i).id, (cntI f (f i).id i : Int))
/-- the first k by their marks -/
def tabM (f : Nat → Ef) : Nat → Int × Int → Option Ef
  | 0 => fun _ => none
  | k + 1 => fun x => if x = mkAt f k then some (f k) else tabM f k x
def valM (M : Int × Int → Option Ef) : Int × Int → Option Value := fun x => (M x).map efV
def manyM (f : Nat → Ef) (k : Nat) : Int → Option Value := fun id => if cntI f id k = 0 then none else some (.int .i64 (cntI f id k : Int))
theorem tabM_put (f : Nat → Ef) (k : Nat) : putM (valM (tabM f k)) (mkAt f k) (efV (f k)) = valM (tabM f (k + 1)) := by
  funext x
  unfold putM valM
  by_cases h : x = mkAt f k
  · rw [if_pos h]; unfold tabM; rw [if_pos h]; rfl
  · rw [if_neg h]; conv => rhs; unfold tabM
    rw [if_neg h]
theorem manyM_get (f : Nat → Ef) (k : Nat) (id : Int) : (manyM f k id).getD (.int .i64 0) = .int .i64 (cntI f id k : Int) := by
  unfold manyM
  by_cases h : cntI f id k = 0
  · rw [if_pos h, h]; rfl
  · rw [if_neg h]; rfl
theorem manyM_put (f : Nat → Ef) (k : Nat) : putM (manyM f k) (f k).id (.int .i64 ((cntI f (f k).id k : Int) + 1)) = manyM f (k + 1) := by
  funext id
  unfold putM manyM
  by_cases h : id = (f k).id
  · subst h
    rw [if_pos rfl]
    have : cntI f (f k).id (k + 1) = cntI f (f k).id k + 1 := by unfold cntI; rw [if_pos rfl]; cases k <;> rfl
    rw [this, if_neg (by omega)]
    congr 1
  · rw [if_neg h]
    have : cntI f id (k + 1) = cntI f id k := by conv => lhs; unfold cntI
                                                 rw [if_neg (fun e => h e.symm)]; rfl
    rw [this]
theorem MapB.apart {α : Type} {enc : α → Value} {w : World} {b c t : Nat} {M : α → Option Value} {cs : Array Value} {x : Nat × Nat} (h : MapB enc w b M) (hc : w.heap[c]? = some (.cells cs t x)) : c ≠ b := by
  obtain ⟨es, cl, hb, _⟩ := h
  intro e
  subst e
  rw [hb] at hc
  cases hc
theorem BoxR.wrote {w w' : World} {b c t : Nat} {cs : Array Value} (h : BoxR w c t cs) (W : Wrote w w' b) : BoxR w' c t cs := by
  have hne : c ≠ b := by
    obtain ⟨es, cl, es', cl', hb, _⟩ := W
    intro e
    subst e
    unfold BoxR at h
    rw [hb] at h
    cases h
  exact (W.other hne).trans h
/-- what tableOf has built of the first k1 (the map), k2 (how many of each), k3 (the order) -/
structure TS (w : World) (f : Nat → Ef) (n mb qb tb nb k1 k2 k3 : Nat) (u : World) : Prop where
  b : Below w.heap.size w u
  rx : BoxR u w.heap.size 80 #[.map none, .slice none 0 0]
  tx : BoxR u tb 80 #[.map (some mb), .slice (some ⟨qb, 0, none⟩) n n]
  me : MapB encMk u mb (valM (tabM f k1))
  mn : MapB encI u nb (manyM f k2)
  ro : u.heap[qb]? = some (.cells (valsE mkC n (tilE k3 (mkAt f) (fun _ => (0, 0)))).toArray 84 (0, 0))
  l : w.heap.size < tb ∧ w.heap.size < mb ∧ w.heap.size < nb ∧ w.heap.size < qb
  ne : mb ≠ nb ∧ tb ≠ qb
section
variable {w : World} {f : Nat → Ef} {n mb qb tb nb k1 k2 k3 : Nat} {u u' : World}
theorem TS.grew (h : TS w f n mb qb tb nb k1 k2 k3 u) (hb : Below u.heap.size u u') : TS w f n mb qb tb nb k1 k2 k3 u' :=
  ⟨below_app h.b hb h.b.size, h.rx.grew hb, h.tx.grew hb, h.me.grew hb, h.mn.grew hb, (hb.block _ (lt_row h.ro)).trans h.ro, h.l, h.ne⟩
theorem TS.many {k2' : Nat} (h : TS w f n mb qb tb nb k1 k2 k3 u) (W : Wrote u u' nb) (m : MapB encI u' nb (manyM f k2')) : TS w f n mb qb tb nb k1 k2' k3 u' :=
  ⟨h.b.trans (W.below (Nat.le_of_lt h.l.2.2.1)), h.rx.wrote W, h.tx.wrote W, h.me.same (W.other h.ne.1), m, (W.other (h.mn.apart h.ro)).trans h.ro, h.l, h.ne⟩
theorem TS.put {k1' : Nat} (h : TS w f n mb qb tb nb k1 k2 k3 u) (W : Wrote u u' mb) (m : MapB encMk u' mb (valM (tabM f k1'))) : TS w f n mb qb tb nb k1' k2 k3 u' :=
  ⟨h.b.trans (W.below (Nat.le_of_lt h.l.2.1)), h.rx.wrote W, h.tx.wrote W, m, h.mn.same (W.other (fun e => h.ne.1 e.symm)), (W.other (h.me.apart h.ro)).trans h.ro, h.l, h.ne⟩
theorem TS.row (h : TS w f n mb qb tb nb k1 k2 k3 u) (hk : k3 < n) : TS w f n mb qb tb nb k1 k2 (k3 + 1) (u.setCells qb (k3 * 2) (mkC (mkAt f k3))) := by
  have hq := row_putE mkC_len h.ro k3 (mkAt f k3) hk
  rw [tilE_step] at hq
  exact ⟨below_setCells' (Nat.le_of_lt h.l.2.2.2) _ _ _ h.b, h.rx.otherL (Nat.ne_of_lt h.l.2.2.2) _ _, h.tx.otherL h.ne.2 _ _, h.me.same (setCells_other (fun e => h.me.apart h.ro e.symm) _ _ _), h.mn.same (setCells_other (fun e => h.mn.apart h.ro e.symm) _ _ _), hq, h.l, h.ne⟩
end
end Go.Proofs.Ytodfdfncdoliiau
