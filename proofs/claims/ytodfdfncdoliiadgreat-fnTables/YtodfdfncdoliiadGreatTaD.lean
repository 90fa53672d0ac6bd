/-
  Chapter 11: rows of effects: how a law marks one (markEffectS), reads it again (heldEffectS). Written by tools/tab.gen.py. Own work.
-/
import Derived.Test.YtodfdfncdoliiadGreatGTaB7
import Derived.Test.YtodfdfncdoliiadGreatGState52
namespace Go.Proofs.YtodfdfncdoliiadGreat
open Go.ChangeShapes Go.WideShapes Go.ChangeAt Go.RowKit
set_option maxRecDepth 100000
set_option linter.unusedVariables false
set_option linter.unusedSimpArgs false

/-- nothing but the blocks of S has changed, of those that were there -/
structure OnlyS (S : Nat → Prop) (w w' : World) : Prop where
  os : w'.os = w.os
  tape : w'.tape = w.tape
  output : w'.output = w.output
  size : w.heap.size ≤ w'.heap.size
  block : ∀ k, k < w.heap.size → ¬ S k → w'.heap[k]? = w.heap[k]?
theorem OnlyS.refl (S : Nat → Prop) (w : World) : OnlyS S w w := ⟨rfl, rfl, rfl, Nat.le_refl _, fun _ _ _ => rfl⟩
theorem OnlyS.trans {S : Nat → Prop} {a b c : World} (h : OnlyS S a b) (k : OnlyS S b c) : OnlyS S a c :=
  ⟨k.os.trans h.os, k.tape.trans h.tape, k.output.trans h.output, Nat.le_trans h.size k.size, fun i hi hs => (k.block i (Nat.lt_of_lt_of_le hi h.size) hs).trans (h.block i hi hs)⟩
theorem OnlyS.only {S : Nat → Prop} {p : Nat} {a b : World} (h : Only p a b) (hp : S p) : OnlyS S a b := ⟨h.os, h.tape, h.output, h.size, fun k hk hs => h.block k hk (fun e => hs (e ▸ hp))⟩
theorem OnlyS.below {S : Nat → Prop} {B : Nat} {w w' : World} (h : OnlyS S w w') (hS : ∀ k, S k → B ≤ k) (hB : B ≤ w.heap.size) : Below B w w' :=
  ⟨h.os, h.tape, h.output, h.size, fun k hk => h.block k (Nat.lt_of_lt_of_le hk hB) (fun hs => by have := hS k hs; omega)⟩
theorem OnlyS.box {S : Nat → Prop} {w w' : World} {b t : Nat} {cs : Array Value} (h : OnlyS S w w') (hb : BoxR w b t cs) (hs : ¬ S b) : BoxR w' b t cs := (h.block b hb.lt hs).trans hb
/-- the blocks of a table -/
def OfT (b n : Nat) (f : Nat → Ef) (k : Nat) : Prop := k = b ∨ ∃ i, i < n ∧ k = (f i).ac.lb
theorem RdE.keep {w w' : World} {a : Addr} {v : Value} (hb : Below w.heap.size w w') (h : w.cell? a = some v) : w'.cell? a = some v := (World.cell?_of_block (w := w) (a := a) (hb.block a.block (World.block_lt_of_cell? w _ h))).trans h
theorem OwnTb.onlyS {S : Nat → Prop} {w w' : World} {B : Nat} {t : Tb} (h : OwnTb w B t) (ho : OnlyS S w w') (hs : ∀ k, S k → ¬ OfT t.b t.n t.f k) : OwnTb w' B t := by
  have hb : ¬ S t.b := fun k => hs _ k (.inl rfl)
  have hl : ∀ i, i < t.n → ¬ S (t.f i).ac.lb := fun i hi k => hs _ k (.inr ⟨i, hi, rfl⟩)
  exact ⟨h.1, h.2.1, h.2.2.1.same (ho.block _ h.2.2.1.2.1 hb) ho.size, fun i hi => ⟨⟨(h.2.2.2.1 i hi).1.1, (h.2.2.2.1 i hi).1.2.1, (h.2.2.2.1 i hi).1.2.2.same (ho.block _ (h.2.2.2.1 i hi).1.2.2.2.1 (hl i hi)) ho.size⟩, (h.2.2.2.1 i hi).2⟩, h.2.2.2.2⟩
theorem OwnE.putPart {α : Type} {C : α → List Value} {m : Nat} (hm : ∀ x, (C x).length = m) {w : World} {B b off n : Nat} {f : Nat → α} (h : OwnE C m w B b (some ⟨b, off, none⟩) n f) (k : Nat) (hk : k < n) (j0 o : Nat) (L : List Value) (ho : o = off + k * m + j0) (hL : j0 + L.length ≤ m) (x : α)
    (h1 : ∀ j v, j0 ≤ j → j < j0 + L.length → (C x)[j]? = some v → L[j - j0]? = some v) (h2 : ∀ j v, (j < j0 ∨ j0 + L.length ≤ j) → (C x)[j]? = some v → (C (f k))[j]? = some v) :
    OwnE C m (w.setCells b o L) B b (some ⟨b, off, none⟩) n (fun i => if i = k then x else f i) := by
  subst ho
  obtain ⟨g1, g2, g3, g4⟩ := h
  refine ⟨g1, by rw [size_setCells]; exact g2, ?_, fun i => (frozen_setCells _ _ _ _ _).trans (g4 i)⟩
  rcases g3 with g3 | ⟨o, e, hc⟩
  · exact .inl g3
  · simp only [Option.some.injEq, Addr.mk.injEq, and_true, true_and] at e
    subst e
    refine .inr ⟨off, rfl, fun i hi j v hv => ?_⟩
    have hjm : j < m := by rw [← hm (if i = k then x else f i)]; exact (List.getElem?_eq_some_iff.1 hv).1
    by_cases hik : i = k
    · subst hik
      simp only [if_true] at hv
      by_cases hin : j0 ≤ j ∧ j < j0 + L.length
      · have := cell_setCells_in b L (off + i * m + j0) w (fun j' hj' => by
          have hj2 : j0 + j' < (C (f i)).length := by rw [hm]; omega
          have := hc i hi (j0 + j') _ (List.getElem?_eq_getElem hj2)
          rw [show off + i * m + j0 + j' = off + i * m + (j0 + j') by omega, this]
          rfl) (j - j0) v (h1 j v hin.1 hin.2 hv)
        rw [show off + i * m + j = off + i * m + j0 + (j - j0) by omega]
        exact this
      · rw [cell_setCells_other b L (off + i * m + j0) w _ (by right; dsimp only; omega)]
        exact hc i hi j v (h2 j v (by omega) hv)
    · simp only [if_neg hik] at hv
      rw [cell_setCells_other b L (off + k * m + j0) w _ ?_]
      · exact hc i hi j v hv
      · rcases Nat.lt_or_gt_of_ne hik with h3 | h3
        · have : (i + 1) * m ≤ k * m := Nat.mul_le_mul_right m h3
          rw [Nat.succ_mul] at this
          right; left; show off + i * m + j < off + k * m + j0; omega
        · have : (k + 1) * m ≤ i * m := Nat.mul_le_mul_right m h3
          rw [Nat.succ_mul] at this
          right; right; show off + k * m + j0 + L.length ≤ off + i * m + j; omega
theorem OwnTb.part {w : World} {B b off n cap : Nat} {f : Nat → Ef} (h : OwnTb w B ⟨some ⟨b, off, none⟩, n, cap, b, f⟩) (k : Nat) (hk : k < n) (j0 o : Nat) (L : List Value) (ho : o = off + k * 22 + j0) (hL : j0 + L.length ≤ 22) (x : Ef)
    (h1 : ∀ j v, j0 ≤ j → j < j0 + L.length → (efC x)[j]? = some v → L[j - j0]? = some v) (h2 : ∀ j v, (j < j0 ∨ j0 + L.length ≤ j) → (efC x)[j]? = some v → (efC (f k))[j]? = some v)
    (e1 : x.ac.la = (f k).ac.la) (e2 : x.ac.ln = (f k).ac.ln) (e3 : x.ac.lcap = (f k).ac.lcap) (e4 : x.ac.lb = (f k).ac.lb) (e5 : x.ac.es = (f k).ac.es) :
    OwnTb (w.setCells b o L) B ⟨some ⟨b, off, none⟩, n, cap, b, fun i => if i = k then x else f i⟩ := by
  obtain ⟨c1, c2, c3, c4, c5⟩ := h
  dsimp only at c1 c2 c3 c4 c5
  refine ⟨c1, c2, c3.putPart efC_len k hk j0 o L ho hL x h1 h2, fun i hi => ?_, fun i j hij hj => ?_⟩
  · dsimp only at hi ⊢
    by_cases hik : i = k
    · subst hik
      simp only [if_true]
      refine ⟨?_, by rw [e4]; exact (c4 i hi).2⟩
      have := OwnA.setL (c4 i hi).1 (c4 i hi).2 o L
      refine ⟨by rw [e2, e3]; exact this.1, by rw [e3]; exact this.2.1, by rw [e4, e1, e2, e5]; exact this.2.2⟩
    · simp only [if_neg hik]
      exact ⟨OwnA.setL (c4 i hi).1 (c4 i hi).2 o L, (c4 i hi).2⟩
  · have hj' : j < n := hj
    have hlb : ∀ i, (if i = k then x else f i).ac.lb = (f i).ac.lb := fun i => by
      by_cases hik : i = k
      · subst hik; simp only [if_true]; exact e4
      · simp only [if_neg hik]
    show (if i = k then x else f i).ac.lb ≠ (if j = k then x else f j).ac.lb
    rw [hlb, hlb]
    exact c5 i j hij hj
theorem OwnTb.ne {w : World} {B : Nat} {t : Tb} (h : OwnTb w B t) {i j : Nat} (hi : i < t.n) (hj : j < t.n) (hij : i ≠ j) : (t.f i).ac.lb ≠ (t.f j).ac.lb := by
  rcases Nat.lt_or_gt_of_ne hij with h1 | h1
  · exact h.2.2.2.2 i j h1 hj
  · exact fun e => h.2.2.2.2 j i h1 hi e.symm
theorem OwnTb.list {w w' : World} {B b n cap : Nat} {p : Option Addr} {f : Nat → Ef} (h : OwnTb w B ⟨p, n, cap, b, f⟩) (k : Nat) (hk : k < n) (ho : Only (f k).ac.lb w w') (x : Ef) (hx : efC x = efC (f k)) (e4 : x.ac.lb = (f k).ac.lb)
    (hE : OwnE evC 7 w' B (f k).ac.lb (f k).ac.la (f k).ac.ln x.ac.es) : OwnTb w' B ⟨p, n, cap, b, fun i => if i = k then x else f i⟩ := by
  have hne := fun i j hi hj hij => h.ne (i := i) (j := j) hi hj hij
  obtain ⟨c1, c2, c3, c4, c5⟩ := h
  dsimp only at c1 c2 c3 c4 c5 hne
  have hs : x.ac.la = (f k).ac.la ∧ x.ac.ln = (f k).ac.ln ∧ x.ac.lcap = (f k).ac.lcap := by
    unfold efC at hx
    simp only [List.cons.injEq, Value.slice.injEq, and_true] at hx
    obtain ⟨_, _, _, _, _, _, _, _, _, _, _, _, _, _, _, _, _, _, _, h9, _⟩ := hx
    exact h9
  refine ⟨c1, c2, ?_, fun i hi => ?_, fun i j hij hj => ?_⟩
  · refine ((c3.onlyE ho (Ne.symm (c4 k hk).2)) : OwnE efC 22 w' B b p n f) |> fun r => ⟨r.1, r.2.1, ?_, r.2.2.2⟩
    rcases r.2.2.1 with q | ⟨off, q1, q2⟩
    · exact .inl q
    · refine .inr ⟨off, q1, fun i hi j v hv => q2 i hi j v ?_⟩
      dsimp only at hv
      by_cases hik : i = k
      · subst hik; simp only [if_true] at hv; rw [← hx]; exact hv
      · simp only [if_neg hik] at hv; exact hv
  · dsimp only at hi ⊢
    by_cases hik : i = k
    · subst hik
      simp only [if_true]
      refine ⟨⟨by rw [hs.2.1, hs.2.2]; exact (c4 i hi).1.1, by rw [hs.2.2]; exact (c4 i hi).1.2.1, by rw [e4, hs.1, hs.2.1]; exact hE⟩, by rw [e4]; exact (c4 i hi).2⟩
    · simp only [if_neg hik]
      exact ⟨⟨(c4 i hi).1.1, (c4 i hi).1.2.1, (c4 i hi).1.2.2.onlyE ho (hne i k hi hk hik)⟩, (c4 i hi).2⟩
  · have hj' : j < n := hj
    have hlb : ∀ i, (if i = k then x else f i).ac.lb = (f i).ac.lb := fun i => by
      by_cases hik : i = k
      · subst hik; simp only [if_true]; exact e4
      · simp only [if_neg hik]
    show (if i = k then x else f i).ac.lb ≠ (if j = k then x else f j).ac.lb
    rw [hlb, hlb]
    exact c5 i j hij hj
/-- what is marked from number X on: its first 19 fields; with its list; all -/
def mkF1 (x : Ef) (X : Int) : Ef := ⟨X, X + 1, X + 1 + 1, X + 1 + 1 + 1, ⟨X + 1 + 1 + 1 + 1, X + 1 + 1 + 1 + 1 + 1, X + 1 + 1 + 1 + 1 + 1 + 1, X + 1 + 1 + 1 + 1 + 1 + 1 + 1, X + 1 + 1 + 1 + 1 + 1 + 1 + 1 + 1, X + 1 + 1 + 1 + 1 + 1 + 1 + 1 + 1 + 1, X + 1 + 1 + 1 + 1 + 1 + 1 + 1 + 1 + 1 + 1⟩, ⟨X + 1 + 1 + 1 + 1 + 1 + 1 + 1 + 1 + 1 + 1 + 1, X + 1 + 1 + 1 + 1 + 1 + 1 + 1 + 1 + 1 + 1 + 1 + 1⟩, ⟨X + 1 + 1 + 1 + 1 + 1 + 1 + 1 + 1 + 1 + 1 + 1 + 1 + 1, X + 1 + 1 + 1 + 1 + 1 + 1 + 1 + 1 + 1 + 1 + 1 + 1 + 1 + 1, X + 1 + 1 + 1 + 1 + 1 + 1 + 1 + 1 + 1 + 1 + 1 + 1 + 1 + 1 + 1, X + 1 + 1 + 1 + 1 + 1 + 1 + 1 + 1 + 1 + 1 + 1 + 1 + 1 + 1 + 1 + 1, X + 1 + 1 + 1 + 1 + 1 + 1 + 1 + 1 + 1 + 1 + 1 + 1 + 1 + 1 + 1 + 1 + 1, (X + 1 + 1 + 1 + 1 + 1 + 1 + 1 + 1 + 1 + 1 + 1 + 1 + 1 + 1 + 1 + 1 + 1 + 1) % 3 == 0, x.ac.la, x.ac.ln, x.ac.lcap, x.ac.lb, x.ac.es⟩, x.un, x.le⟩
def mkF2 (x : Ef) (X : Int) : Ef := ⟨X, X + 1, X + 1 + 1, X + 1 + 1 + 1, ⟨X + 1 + 1 + 1 + 1, X + 1 + 1 + 1 + 1 + 1, X + 1 + 1 + 1 + 1 + 1 + 1, X + 1 + 1 + 1 + 1 + 1 + 1 + 1, X + 1 + 1 + 1 + 1 + 1 + 1 + 1 + 1, X + 1 + 1 + 1 + 1 + 1 + 1 + 1 + 1 + 1, X + 1 + 1 + 1 + 1 + 1 + 1 + 1 + 1 + 1 + 1⟩, ⟨X + 1 + 1 + 1 + 1 + 1 + 1 + 1 + 1 + 1 + 1 + 1, X + 1 + 1 + 1 + 1 + 1 + 1 + 1 + 1 + 1 + 1 + 1 + 1⟩, ⟨X + 1 + 1 + 1 + 1 + 1 + 1 + 1 + 1 + 1 + 1 + 1 + 1 + 1, X + 1 + 1 + 1 + 1 + 1 + 1 + 1 + 1 + 1 + 1 + 1 + 1 + 1 + 1, X + 1 + 1 + 1 + 1 + 1 + 1 + 1 + 1 + 1 + 1 + 1 + 1 + 1 + 1 + 1, X + 1 + 1 + 1 + 1 + 1 + 1 + 1 + 1 + 1 + 1 + 1 + 1 + 1 + 1 + 1 + 1, X + 1 + 1 + 1 + 1 + 1 + 1 + 1 + 1 + 1 + 1 + 1 + 1 + 1 + 1 + 1 + 1 + 1, (X + 1 + 1 + 1 + 1 + 1 + 1 + 1 + 1 + 1 + 1 + 1 + 1 + 1 + 1 + 1 + 1 + 1 + 1) % 3 == 0, x.ac.la, x.ac.ln, x.ac.lcap, x.ac.lb, fun i => mkE (X + 1 + 1 + 1 + 1 + 1 + 1 + 1 + 1 + 1 + 1 + 1 + 1 + 1 + 1 + 1 + 1 + 1 + 1 + 1 + 7 * i)⟩, x.un, x.le⟩
def mkF (x : Ef) (X : Int) : Ef := ⟨X, X + 1, X + 1 + 1, X + 1 + 1 + 1, ⟨X + 1 + 1 + 1 + 1, X + 1 + 1 + 1 + 1 + 1, X + 1 + 1 + 1 + 1 + 1 + 1, X + 1 + 1 + 1 + 1 + 1 + 1 + 1, X + 1 + 1 + 1 + 1 + 1 + 1 + 1 + 1, X + 1 + 1 + 1 + 1 + 1 + 1 + 1 + 1 + 1, X + 1 + 1 + 1 + 1 + 1 + 1 + 1 + 1 + 1 + 1⟩, ⟨X + 1 + 1 + 1 + 1 + 1 + 1 + 1 + 1 + 1 + 1 + 1, X + 1 + 1 + 1 + 1 + 1 + 1 + 1 + 1 + 1 + 1 + 1 + 1⟩, ⟨X + 1 + 1 + 1 + 1 + 1 + 1 + 1 + 1 + 1 + 1 + 1 + 1 + 1, X + 1 + 1 + 1 + 1 + 1 + 1 + 1 + 1 + 1 + 1 + 1 + 1 + 1 + 1, X + 1 + 1 + 1 + 1 + 1 + 1 + 1 + 1 + 1 + 1 + 1 + 1 + 1 + 1 + 1, X + 1 + 1 + 1 + 1 + 1 + 1 + 1 + 1 + 1 + 1 + 1 + 1 + 1 + 1 + 1 + 1, X + 1 + 1 + 1 + 1 + 1 + 1 + 1 + 1 + 1 + 1 + 1 + 1 + 1 + 1 + 1 + 1 + 1, (X + 1 + 1 + 1 + 1 + 1 + 1 + 1 + 1 + 1 + 1 + 1 + 1 + 1 + 1 + 1 + 1 + 1 + 1) % 3 == 0, x.ac.la, x.ac.ln, x.ac.lcap, x.ac.lb, fun i => mkE (X + 1 + 1 + 1 + 1 + 1 + 1 + 1 + 1 + 1 + 1 + 1 + 1 + 1 + 1 + 1 + 1 + 1 + 1 + 1 + 7 * i)⟩, X + 1 + 1 + 1 + 1 + 1 + 1 + 1 + 1 + 1 + 1 + 1 + 1 + 1 + 1 + 1 + 1 + 1 + 1 + 1 + 7 * (x.ac.ln : Int), X + 1 + 1 + 1 + 1 + 1 + 1 + 1 + 1 + 1 + 1 + 1 + 1 + 1 + 1 + 1 + 1 + 1 + 1 + 1 + 7 * (x.ac.ln : Int) + 1⟩
def mkN (f : Nat → Ef) (k0 : Int) : Nat → Int
  | 0 => k0
  | i + 1 => mkN f k0 i + 21 + 7 * ((f i).ac.ln : Int)
theorem mkN_rng (f : Nat → Ef) (k0 : Int) (n : Nat) (hl : ∀ i, i < n → (f i).ac.ln ≤ 1048577) : ∀ i, i ≤ n → k0 ≤ mkN f k0 i ∧ mkN f k0 i ≤ k0 + 7340060 * (i : Int)
  | 0, _ => by simp [mkN]
  | i + 1, h => by
    have h1 := mkN_rng f k0 n hl i (by omega)
    have h2 := hl i (by omega)
    simp only [mkN]
    omega
def mkT (t : Tb) (k0 : Int) : Tb := ⟨t.p, t.n, t.cap, t.b, fun i => mkF (t.f i) (mkN t.f k0 i)⟩
theorem mk_one {w : World} {B b off n cap : Nat} {f : Nat → Ef} (h : OwnTb w B ⟨some ⟨b, off, none⟩, n, cap, b, f⟩) (k : Nat) (hk : k < n) (x : Ef) (hx : f k = x) (X : Int) : OwnTb (w.setCells b (off + k * 22) [.int .i64 (X), .int .i64 (X + 1), .int .i64 (X + 1 + 1), .int .i64 (X + 1 + 1 + 1), .int .i64 (X + 1 + 1 + 1 + 1), .int .i64 (X + 1 + 1 + 1 + 1 + 1), .int .i64 (X + 1 + 1 + 1 + 1 + 1 + 1), .int .i64 (X + 1 + 1 + 1 + 1 + 1 + 1 + 1), .int .i64 (X + 1 + 1 + 1 + 1 + 1 + 1 + 1 + 1), .int .i64 (X + 1 + 1 + 1 + 1 + 1 + 1 + 1 + 1 + 1), .int .i64 (X + 1 + 1 + 1 + 1 + 1 + 1 + 1 + 1 + 1 + 1), .int .i64 (X + 1 + 1 + 1 + 1 + 1 + 1 + 1 + 1 + 1 + 1 + 1), .int .i64 (X + 1 + 1 + 1 + 1 + 1 + 1 + 1 + 1 + 1 + 1 + 1 + 1), .int .i64 (X + 1 + 1 + 1 + 1 + 1 + 1 + 1 + 1 + 1 + 1 + 1 + 1 + 1), .int .i64 (X + 1 + 1 + 1 + 1 + 1 + 1 + 1 + 1 + 1 + 1 + 1 + 1 + 1 + 1), .int .i64 (X + 1 + 1 + 1 + 1 + 1 + 1 + 1 + 1 + 1 + 1 + 1 + 1 + 1 + 1 + 1), .int .i64 (X + 1 + 1 + 1 + 1 + 1 + 1 + 1 + 1 + 1 + 1 + 1 + 1 + 1 + 1 + 1 + 1), .int .i64 (X + 1 + 1 + 1 + 1 + 1 + 1 + 1 + 1 + 1 + 1 + 1 + 1 + 1 + 1 + 1 + 1 + 1), .bool ((X + 1 + 1 + 1 + 1 + 1 + 1 + 1 + 1 + 1 + 1 + 1 + 1 + 1 + 1 + 1 + 1 + 1 + 1) % 3 == 0)]) B ⟨some ⟨b, off, none⟩, n, cap, b, fun i => if i = k then mkF1 x X else f i⟩ := by
  refine h.part k hk 0 (off + k * 22) _ rfl (by simp) _ ?_ ?_ (by rw [hx]; rfl) (by rw [hx]; rfl) (by rw [hx]; rfl) (by rw [hx]; rfl) (by rw [hx]; rfl)
  · exact by
        intro j v q1 q2 hv
        have hj : j < 22 := by rw [← efC_len (mkF1 x X)]; exact (List.getElem?_eq_some_iff.1 hv).1
        rcases (show j = 0 ∨ j = 1 ∨ j = 2 ∨ j = 3 ∨ j = 4 ∨ j = 5 ∨ j = 6 ∨ j = 7 ∨ j = 8 ∨ j = 9 ∨ j = 10 ∨ j = 11 ∨ j = 12 ∨ j = 13 ∨ j = 14 ∨ j = 15 ∨ j = 16 ∨ j = 17 ∨ j = 18 ∨ j = 19 ∨ j = 20 ∨ j = 21 by omega) with rfl | rfl | rfl | rfl | rfl | rfl | rfl | rfl | rfl | rfl | rfl | rfl | rfl | rfl | rfl | rfl | rfl | rfl | rfl | rfl | rfl | rfl <;> first | exact hv | (exfalso; simp at q1 q2 <;> omega)
  · rw [hx]; exact by
        intro j v q1 hv
        have hj : j < 22 := by rw [← efC_len (mkF1 x X)]; exact (List.getElem?_eq_some_iff.1 hv).1
        rcases (show j = 0 ∨ j = 1 ∨ j = 2 ∨ j = 3 ∨ j = 4 ∨ j = 5 ∨ j = 6 ∨ j = 7 ∨ j = 8 ∨ j = 9 ∨ j = 10 ∨ j = 11 ∨ j = 12 ∨ j = 13 ∨ j = 14 ∨ j = 15 ∨ j = 16 ∨ j = 17 ∨ j = 18 ∨ j = 19 ∨ j = 20 ∨ j = 21 by omega) with rfl | rfl | rfl | rfl | rfl | rfl | rfl | rfl | rfl | rfl | rfl | rfl | rfl | rfl | rfl | rfl | rfl | rfl | rfl | rfl | rfl | rfl <;> first | exact hv | (exfalso; simp at q1 <;> omega)
theorem mk_two {w w' : World} {B b off n cap : Nat} {f : Nat → Ef} (x : Ef) (X : Int) (k : Nat) (h : OwnTb w B ⟨some ⟨b, off, none⟩, n, cap, b, fun i => if i = k then mkF1 x X else f i⟩) (hk : k < n) (ho : Only x.ac.lb w w') (hE : OwnE evC 7 w' B x.ac.lb x.ac.la x.ac.ln (fun i => mkE (X + 1 + 1 + 1 + 1 + 1 + 1 + 1 + 1 + 1 + 1 + 1 + 1 + 1 + 1 + 1 + 1 + 1 + 1 + 1 + 7 * i))) : OwnTb w' B ⟨some ⟨b, off, none⟩, n, cap, b, fun i => if i = k then mkF2 x X else f i⟩ := by
  have h2 := OwnTb.list h k hk (by simp only [if_true]; exact ho) (mkF2 x X) (by simp only [if_true]; rfl) (by simp only [if_true]; rfl) (by simp only [if_true]; exact hE)
  have he : (fun i => if i = k then mkF2 x X else (fun i => if i = k then mkF1 x X else f i) i) = (fun i => if i = k then mkF2 x X else f i) := by funext i; by_cases hi : i = k <;> simp [hi]
  rw [he] at h2
  exact h2
theorem mk_three {w : World} {B b off n cap : Nat} {f : Nat → Ef} (x : Ef) (X : Int) (k : Nat) (h : OwnTb w B ⟨some ⟨b, off, none⟩, n, cap, b, fun i => if i = k then mkF2 x X else f i⟩) (hk : k < n) : OwnTb (w.setCells b (off + k * 22 + 20) [.int .i64 (X + 1 + 1 + 1 + 1 + 1 + 1 + 1 + 1 + 1 + 1 + 1 + 1 + 1 + 1 + 1 + 1 + 1 + 1 + 1 + 7 * (x.ac.ln : Int)), .int .i64 (X + 1 + 1 + 1 + 1 + 1 + 1 + 1 + 1 + 1 + 1 + 1 + 1 + 1 + 1 + 1 + 1 + 1 + 1 + 1 + 7 * (x.ac.ln : Int) + 1)]) B ⟨some ⟨b, off, none⟩, n, cap, b, fun i => if i = k then mkF x X else f i⟩ := by
  have h2 := OwnTb.part h k hk 20 (off + k * 22 + 20) [.int .i64 (X + 1 + 1 + 1 + 1 + 1 + 1 + 1 + 1 + 1 + 1 + 1 + 1 + 1 + 1 + 1 + 1 + 1 + 1 + 1 + 7 * (x.ac.ln : Int)), .int .i64 (X + 1 + 1 + 1 + 1 + 1 + 1 + 1 + 1 + 1 + 1 + 1 + 1 + 1 + 1 + 1 + 1 + 1 + 1 + 1 + 7 * (x.ac.ln : Int) + 1)] rfl (by simp) (mkF x X) ?_ ?_ (by simp only [if_true]; rfl) (by simp only [if_true]; rfl) (by simp only [if_true]; rfl) (by simp only [if_true]; rfl) (by simp only [if_true]; rfl)
  · have he : (fun i => if i = k then mkF x X else (fun i => if i = k then mkF2 x X else f i) i) = (fun i => if i = k then mkF x X else f i) := by funext i; by_cases hi : i = k <;> simp [hi]
    rw [he] at h2
    exact h2
  · exact by
        intro j v q1 q2 hv
        have hj : j < 22 := by rw [← efC_len (mkF x X)]; exact (List.getElem?_eq_some_iff.1 hv).1
        rcases (show j = 0 ∨ j = 1 ∨ j = 2 ∨ j = 3 ∨ j = 4 ∨ j = 5 ∨ j = 6 ∨ j = 7 ∨ j = 8 ∨ j = 9 ∨ j = 10 ∨ j = 11 ∨ j = 12 ∨ j = 13 ∨ j = 14 ∨ j = 15 ∨ j = 16 ∨ j = 17 ∨ j = 18 ∨ j = 19 ∨ j = 20 ∨ j = 21 by omega) with rfl | rfl | rfl | rfl | rfl | rfl | rfl | rfl | rfl | rfl | rfl | rfl | rfl | rfl | rfl | rfl | rfl | rfl | rfl | rfl | rfl | rfl <;> first | exact hv | (exfalso; simp at q1 q2 <;> omega)
  · simp only [if_true]; exact by
        intro j v q1 hv
        have hj : j < 22 := by rw [← efC_len (mkF x X)]; exact (List.getElem?_eq_some_iff.1 hv).1
        rcases (show j = 0 ∨ j = 1 ∨ j = 2 ∨ j = 3 ∨ j = 4 ∨ j = 5 ∨ j = 6 ∨ j = 7 ∨ j = 8 ∨ j = 9 ∨ j = 10 ∨ j = 11 ∨ j = 12 ∨ j = 13 ∨ j = 14 ∨ j = 15 ∨ j = 16 ∨ j = 17 ∨ j = 18 ∨ j = 19 ∨ j = 20 ∨ j = 21 by omega) with rfl | rfl | rfl | rfl | rfl | rfl | rfl | rfl | rfl | rfl | rfl | rfl | rfl | rfl | rfl | rfl | rfl | rfl | rfl | rfl | rfl | rfl <;> first | exact hv | (exfalso; simp at q1 <;> omega)
end Go.Proofs.YtodfdfncdoliiadGreat
