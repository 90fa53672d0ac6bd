/-
  Chapter 5: two states held against each other: the specification's SameState; the library's Equal at pieces, the program's rowAt, sameSides, SameState. States as functions answer them, and the laws' own steps over them: which stay when another is marked (Away), which are alike (Alike). Own work.
-/
import Derived.Test.YtodfdfncdoliiadGGuC2
import Derived.Test.YtodfdfncdoliiadGState52
import Derived.Laws.CopyRow
import Derived.Lib.SlBuf
import Derived.Test.YtodfdfncdoliiadGState62
import Derived.Test.YtodfdfncdoliiadGRegCut3
namespace Go.Proofs.Ytodfdfncdoliiad
open Go.ChangeShapes Go.WideShapes Go.ChangeAt Go.RowKit
set_option maxRecDepth 100000
set_option linter.unusedVariables false
theorem allf_no {n k : Nat} {f : Nat → Bool} (hk : k < n) (h : f k = false) : (List.range n).all f = false := by rw [List.all_eq_false]; exact ⟨k, List.mem_range.2 hk, by simp [h]⟩
theorem allf_yes {n : Nat} {f : Nat → Bool} (h : ∀ k, k < n → f k = true) : (List.range n).all f = true := by rw [List.all_eq_true]; exact fun k hk => h k (List.mem_range.1 hk)
def eqR (n m : Nat) (f g : Nat → Pc) : Bool := decide (n = m) && (List.range n).all (fun i => smP (f i) (g i))
def eqD (n m : Nat) (f g : Nat → Sd) : Bool := decide (n = m) && (List.range n).all (fun i => smD (f i) (g i))
/-- whether two states are the same -/
def smS (s t : Stt) : Bool := decide (s.ac = t.ac) && decide (s.cl = t.cl) && eqD s.sn t.sn s.ss t.ss && eqR s.pn t.pn s.ps t.ps
end Go.Proofs.Ytodfdfncdoliiad
namespace Go.Proofs.Ytodfdfncdoliiad
open Go.ChangeShapes Go.WideShapes Go.ChangeAt Go.RowKit
set_option maxRecDepth 100000
set_option linter.unusedVariables false
structure Alike (t s : Stt) : Prop where
  pn : t.pn = s.pn
  ps : t.ps = s.ps
  sn : t.sn = s.sn
  ss : t.ss = s.ss
  ac : t.ac = s.ac
  cl : t.cl = s.cl
/-- what a function answers that answers a state like s -/
def Ans (s : Stt) (w : World) (e : Ending) (w' : World) : Prop := ∃ t : Stt, e = .returned (.agg #[.slice t.pa t.pn t.pcap, .slice t.sa t.sn t.scap, .int .i64 t.ac, .int .i64 t.cl]) ∧ Below w.heap.size w w' ∧ OwnT w' w.heap.size t ∧ Alike t s
theorem StPost.ans {N : Nat} {F : Nat → Pc} {M : Nat} {G : Nat → Sd} {ac cl : Int} {w : World} {e : Ending} {w' : World} (s : Stt) (h : StPost N F M G ac cl w e w') (h1 : s.pn = N) (h2 : s.ps = F) (h3 : s.sn = M) (h4 : s.ss = G) (h5 : s.ac = ac) (h6 : s.cl = cl) : Ans s w e w' := by
  obtain ⟨pa, pcap, pb, sa, scap, sb, h, hb, ho⟩ := h
  exact ⟨_, h, hb, ho, h1.symm, h2.symm, h3.symm, h4.symm, h5.symm, h6.symm⟩
theorem okT {t s : Stt} {w w0 : World} {B : Nat} (h : OwnT w B t) (a : Alike t s) (hs : s.ok w0) : t.ok w := by
  obtain ⟨_, _, _, _, _, _, e1, e2, e3, e4⟩ := hs
  refine ⟨h.pc, h.pm, h.p.rd, h.sc, h.sm, h.s.rd, by rw [a.ac]; exact e1, by rw [a.cl]; exact e2, ?_, ?_⟩
  · rw [a.pn, a.ps]; exact e3
  · rw [a.sn, a.ss]; exact e4
theorem stt_grew {s : Stt} {w w' : World} (h : s.ok w) (hb : Below w.heap.size w w') : s.ok w' := ⟨h.1, h.2.1, h.2.2.1.grew pcC_ne hb, h.2.2.2.1, h.2.2.2.2.1, h.2.2.2.2.2.1.grew sdC_ne hb, h.2.2.2.2.2.2⟩
/-- block b is none of this state's -/
def Away (b : Nat) (u : Stt) : Prop := (u.pn ≠ 0 → b ≠ u.pb) ∧ (u.sn ≠ 0 → b ≠ u.sb)
theorem away_old {w : World} {C b : Nat} {u : Stt} (k : OwnT w C u) (hb : b < C) : Away b u :=
  ⟨fun h => by have := (k.p.lt h).1; omega, fun h => by have := (k.s.lt h).1; omega⟩
theorem away_new {w : World} {C b : Nat} {u : Stt} (k : OwnT w C u) (hb : w.heap.size ≤ b) : Away b u :=
  ⟨fun h => by have := (k.p.lt h).2; omega, fun h => by have := (k.s.lt h).2; omega⟩
def Apart (t u : Stt) : Prop := (t.pn ≠ 0 → Away t.pb u) ∧ (t.sn ≠ 0 → Away t.sb u)
theorem apart_old {w w' : World} {B C : Nat} {t u : Stt} (h : OwnT w B t) (k : OwnT w' C u) (hC : w.heap.size ≤ C) : Apart t u :=
  ⟨fun e => away_old k (by have := (h.p.lt e).2; omega), fun e => away_old k (by have := (h.s.lt e).2; omega)⟩
theorem apart_new {w w' : World} {B C : Nat} {t u : Stt} (h : OwnT w B t) (k : OwnT w' C u) (hC : w'.heap.size ≤ B) : Apart t u :=
  ⟨fun e => away_new k (by have := (h.p.lt e).1; omega), fun e => away_new k (by have := (h.s.lt e).1; omega)⟩
theorem BoxR.marked {w w' : World} {b t : Nat} {cs : Array Value} {u : Stt} (h : BoxR w b t cs) (ho : Only2 u.pb u.sb (nz u.pn) (nz u.sn) w w') (a : Away b u) : BoxR w' b t cs := h.only2 ho (fun e => a.1 (nz_t e)) (fun e => a.2 (nz_t e))
theorem Own.marked {k : IntKind} {w w' : World} {B b n : Nat} {ad : Option Addr} {f : Nat → Int} {u : Stt} (h : Own k w B b ad n f) (ho : Only2 u.pb u.sb (nz u.pn) (nz u.sn) w w') (a : Away b u) : Own k w' B b ad n f := h.same (ho.block b h.2.1 (fun e => a.1 (nz_t e)) (fun e => a.2 (nz_t e))) ho.size
theorem OwnT.marked {w w' : World} {B : Nat} {t u : Stt} (h : OwnT w B t) (ho : Only2 u.pb u.sb (nz u.pn) (nz u.sn) w w') (a : Apart t u) : OwnT w' B t :=
  h.only2 ho (fun e => ⟨fun x => (a.1 e).1 (nz_t x), fun x => (a.1 e).2 (nz_t x)⟩) (fun e => ⟨fun x => (a.2 e).1 (nz_t x), fun x => (a.2 e).2 (nz_t x)⟩)
theorem below_marked {w w1 w' : World} {B C : Nat} {u : Stt} (h : Below B w w1) (k : OwnT w1 C u) (ho : Only2 u.pb u.sb (nz u.pn) (nz u.sn) w1 w') (hB : B ≤ C) (hs : B ≤ w1.heap.size) : Below B w w' :=
  h.trans (ho.below hs (fun e => by have := (k.p.lt (nz_t e)).1; omega) (fun e => by have := (k.s.lt (nz_t e)).1; omega))
theorem stt_marked {s u : Stt} {w w1 w' : World} {C : Nat} (h : s.ok w) (hb : Below w.heap.size w w1) (k : OwnT w1 C u) (ho : Only2 u.pb u.sb (nz u.pn) (nz u.sn) w1 w') (hB : w.heap.size ≤ C) : s.ok w' :=
  stt_grew h (below_marked hb k ho hB hb.size)
/-- a region that draws its order, cut off from what follows; what it answers is one of many -/
theorem wp_cutT {β : Type} {P : Program} {c : Go.Code} {a : Act} {w : World} {K : Act → World → Prop} {Q : Exit → Act → World → Prop} (vs : β → List (Nat × Value)) (F : β → World → Prop)
    (h : c.wp P (Exit.then (fun a' u => ∃ x, a' = puts a (vs x) ∧ F x u) Q) a w) (hk : ∀ x u, F x u → K (puts a (vs x)) u) : c.wp P (Exit.then K Q) a w := by
  refine wp_mono h fun e a' u hq => ?_
  cases e
  case normal => obtain ⟨x, rfl, hf⟩ := hq; exact hk x u hf
  all_goals exact hq
theorem alike_okS {t s : Stt} (a : Alike t s) : okS t = okS s := by
  obtain ⟨_, _, _, _, _, _, _, _, _, _, _, _⟩ := t
  obtain ⟨_, _, _, _, _, _, _, _, _, _, _, _⟩ := s
  obtain ⟨e1, e2, e3, e4, e5, e6⟩ := a
  simp only at e1 e2 e3 e4 e5 e6
  subst e1 e2 e3 e4 e5 e6
  rfl
theorem alike_smS {t s t' s' : Stt} (a : Alike t s) (b : Alike t' s') : smS t t' = smS s s' := by unfold smS; rw [a.ac, a.cl, a.sn, a.ss, a.pn, a.ps, b.ac, b.cl, b.sn, b.ss, b.pn, b.ps]
theorem Alike.refl (s : Stt) : Alike s s := ⟨rfl, rfl, rfl, rfl, rfl, rfl⟩
theorem OwnT.onlyR {w w' : World} {B p : Nat} {t : Stt} (h : OwnT w B t) (ho : Only p w w') (a : Away p t) : OwnT w' B t := by
  refine ⟨h.p.same (fun hn => ?_) ho.size, h.s.same (fun hn => ?_) ho.size, h.ne, h.pc, h.pm, h.sc, h.sm⟩
  · exact ho.block _ (h.p.lt hn).2 (a.1 hn).symm
  · exact ho.block _ (h.s.lt hn).2 (a.2 hn).symm
theorem BoxR.onlyR {w w' : World} {b t p : Nat} {cs : Array Value} (h : BoxR w b t cs) (ho : Only p w w') (a : b ≠ p) : BoxR w' b t cs := (ho.block b h.lt a).trans h
theorem szS_le {p q : Nat} {x : Int} (h : ¬ x - (p : Int) - (q : Int) < 0) : szS p q x = x - p - q := by unfold szS; rw [if_neg h]
theorem szS_no {p q : Nat} {x : Int} (h : x - (p : Int) - (q : Int) < 0) : szS p q x = -1 := by unfold szS; rw [if_pos h]
end Go.Proofs.Ytodfdfncdoliiad
