/-
  Chapter 11: rows of effects: how a law marks one (markEffectS), reads it again (heldEffectS). Written by tools/tab.gen.py. Own work.
-/
import Derived.Test.YtodfdfncdoliiauGreatGTaB2
import Derived.Test.YtodfdfncdoliiauGreatGStMark3
namespace Go.Proofs.YtodfdfncdoliiauGreat
open Go.ChangeShapes Go.WideShapes Go.ChangeAt Go.RowKit
set_option maxRecDepth 100000
set_option linter.unusedVariables false
set_option linter.unusedSimpArgs false

/-- nothing but the blocks of S has changed, of those that were there -/
structure OnlyS (S : Nat → Prop) (w w' : World) : Prop where
  os : w'.os = w.os
  tape : w'.tape = w.tape
  output : w'.output = w.output
  size : w.heap.size ≤ w'.heap.size
  block : ∀ k, k < w.heap.size → ¬ S k → w'.heap[k]? = w.heap[k]?
theorem OnlyS.refl (S : Nat → Prop) (w : World) : OnlyS S w w := ⟨rfl, rfl, rfl, Nat.le_refl _, fun _ _ _ => rfl⟩
theorem OnlyS.trans {S : Nat → Prop} {a b c : World} (h : OnlyS S a b) (k : OnlyS S b c) : OnlyS S a c :=
  ⟨k.os.trans h.os, k.tape.trans h.tape, k.output.trans h.output, Nat.le_trans h.size k.size, fun i hi hs => (k.block i (Nat.lt_of_lt_of_le hi h.size) hs).trans (h.block i hi hs)⟩
theorem OnlyS.only {S : Nat → Prop} {p : Nat} {a b : World} (h : Only p a b) (hp : S p) : OnlyS S a b := ⟨h.os, h.tape, h.output, h.size, fun k hk hs => h.block k hk (fun e => hs (e ▸ hp))⟩
theorem OnlyS.below {S : Nat → Prop} {B : Nat} {w w' : World} (h : OnlyS S w w') (hS : ∀ k, S k → B ≤ k) (hB : B ≤ w.heap.size) : Below B w w' :=
  ⟨h.os, h.tape, h.output, h.size, fun k hk => h.block k (Nat.lt_of_lt_of_le hk hB) (fun hs => by have := hS k hs; omega)⟩
theorem OnlyS.box {S : Nat → Prop} {w w' : World} {b t : Nat} {cs : Array Value} (h : OnlyS S w w') (hb : BoxR w b t cs) (hs : ¬ S b) : BoxR w' b t cs := (h.block b hb.lt hs).trans hb
/-- the blocks of a table -/
def OfT (b n : Nat) (f : Nat → Ef) (k : Nat) : Prop := k = b ∨ ∃ i, i < n ∧ k = (f i).ac.lb
theorem RdE.keep {w w' : World} {a : Addr} {v : Value} (hb : Below w.heap.size w w') (h : w.cell? a = some v) : w'.cell? a = some v := (World.cell?_of_block (w := w) (a := a) (hb.block a.block (World.block_lt_of_cell? w _ h))).trans h
theorem OwnTb.onlyS {S : Nat → Prop} {w w' : World} {B : Nat} {t : Tb} (h : OwnTb w B t) (ho : OnlyS S w w') (hs : ∀ k, S k → ¬ OfT t.b t.n t.f k) : OwnTb w' B t := by
  have hb : ¬ S t.b := fun k => hs _ k (.inl rfl)
  have hl : ∀ i, i < t.n → ¬ S (t.f i).ac.lb := fun i hi k => hs _ k (.inr ⟨i, hi, rfl⟩)
  exact ⟨h.1, h.2.1, h.2.2.1.same (ho.block _ h.2.2.1.2.1 hb) ho.size, fun i hi => ⟨⟨(h.2.2.2.1 i hi).1.1, (h.2.2.2.1 i hi).1.2.1, (h.2.2.2.1 i hi).1.2.2.same (ho.block _ (h.2.2.2.1 i hi).1.2.2.2.1 (hl i hi)) ho.size⟩, (h.2.2.2.1 i hi).2⟩, h.2.2.2.2⟩
theorem OwnE.putPart {α : Type} {C : α → List Value} {m : Nat} (hm : ∀ x, (C x).length = m) {w : World} {B b off n : Nat} {f : Nat → α} (h : OwnE C m w B b (some ⟨b, off, none⟩) n f) (k : Nat) (hk : k < n) (j0 o : Nat) (L : List Value) (ho : o = off + k * m + j0) (hL : j0 + L.length ≤ m) (x : α)
    (h1 : ∀ j v, j0 ≤ j → j < j0 + L.length → (C x)[j]? = some v → L[j - j0]? = some v) (h2 : ∀ j v, (j < j0 ∨ j0 + L.length ≤ j) → (C x)[j]? = some v → (C (f k))[j]? = some v) :
    OwnE C m (w.setCells b o L) B b (some ⟨b, off, none⟩) n (fun i => if i = k then x else f i) := by
  subst ho
  obtain ⟨g1, g2, g3, g4⟩ := h
  refine ⟨g1, by rw [size_setCells]; exact g2, ?_, fun i => (frozen_setCells _ _ _ _ _).trans (g4 i)⟩
  rcases g3 with g3 | ⟨o, e, hc⟩
  · exact .inl g3
  · simp only [Option.some.injEq, Addr.mk.injEq, and_true, true_and] at e
    subst e
    refine .inr ⟨off, rfl, fun i hi j v hv => ?_⟩
    have hjm : j < m := by rw [← hm (if i = k then x else f i)]; exact (List.getElem?_eq_some_iff.1 hv).1
    by_cases hik : i = k
    · subst hik
      simp only [if_true] at hv
      by_cases hin : j0 ≤ j ∧ j < j0 + L.length
      · have := cell_setCells_in b L (off + i * m + j0) w (fun j' hj' => by
          have hj2 : j0 + j' < (C (f i)).length := by rw [hm]; omega
          have := hc i hi (j0 + j') _ (List.getElem?_eq_getElem hj2)
          rw [show off + i * m + j0 + j' = off + i * m + (j0 + j') by omega, this]
          rfl) (j - j0) v (h1 j v hin.1 hin.2 hv)
        rw [show off + i * m + j = off + i * m + j0 + (j - j0) by omega]
        exact this
      · rw [cell_setCells_other b L (off + i * m + j0) w _ (by right; dsimp only; omega)]
        exact hc i hi j v (h2 j v (by omega) hv)
    · simp only [if_neg hik] at hv
      rw [cell_setCells_other b L (off + k * m + j0) w _ ?_]
      · exact hc i hi j v hv
      · rcases Nat.lt_or_gt_of_ne hik with h3 | h3
        · have : (i + 1) * m ≤ k * m := Nat.mul_le_mul_right m h3
          rw [Nat.succ_mul] at this
          right; left; show off + i * m + j < off + k * m + j0; omega
        · have : (k + 1) * m ≤ i * m := Nat.mul_le_mul_right m h3
          rw [Nat.succ_mul] at this
          right; right; show off + k * m + j0 + L.length ≤ off + i * m + j; omega
theorem OwnTb.part {w : World} {B b off n cap : Nat} {f : Nat → Ef} (h : OwnTb w B ⟨some ⟨b, off, none⟩, n, cap, b, f⟩) (k : Nat) (hk : k < n) (j0 o : Nat) (L : List Value) (ho : o = off + k * 22 + j0) (hL : j0 + L.length ≤ 22) (x : Ef)
    (h1 : ∀ j v, j0 ≤ j → j < j0 + L.length → (efC x)[j]? = some v → L[j - j0]? = some v) (h2 : ∀ j v, (j < j0 ∨ j0 + L.length ≤ j) → (efC x)[j]? = some v → (efC (f k))[j]? = some v)
    (e1 : x.ac.la = (f k).ac.la) (e2 : x.ac.ln = (f k).ac.ln) (e3 : x.ac.lcap = (f k).ac.lcap) (e4 : x.ac.lb = (f k).ac.lb) (e5 : x.ac.es = (f k).ac.es) :
    OwnTb (w.setCells b o L) B ⟨some ⟨b, off, none⟩, n, cap, b, fun i => if i = k then x else f i⟩ := by
  obtain ⟨c1, c2, c3, c4, c5⟩ := h
  dsimp only at c1 c2 c3 c4 c5
  refine ⟨c1, c2, c3.putPart efC_len k hk j0 o L ho hL x h1 h2, fun i hi => ?_, fun i j hij hj => ?_⟩
  · dsimp only at hi ⊢
    by_cases hik : i = k
    · subst hik
      simp only [if_true]
      refine ⟨?_, by rw [e4]; exact (c4 i hi).2⟩
      have := OwnA.setL (c4 i hi).1 (c4 i hi).2 o L
      refine ⟨by rw [e2, e3]; exact this.1, by rw [e3]; exact this.2.1, by rw [e4, e1, e2, e5]; exact this.2.2⟩
    · simp only [if_neg hik]
      exact ⟨OwnA.setL (c4 i hi).1 (c4 i hi).2 o L, (c4 i hi).2⟩
  · have hj' : j < n := hj
    have hlb : ∀ i, (if i = k then x else f i).ac.lb = (f i).ac.lb := fun i => by
      by_cases hik : i = k
      · subst hik; simp only [if_true]; exact e4
      · simp only [if_neg hik]
    show (if i = k then x else f i).ac.lb ≠ (if j = k then x else f j).ac.lb
    rw [hlb, hlb]
    exact c5 i j hij hj
theorem OwnTb.ne {w : World} {B : Nat} {t : Tb} (h : OwnTb w B t) {i j : Nat} (hi : i < t.n) (hj : j < t.n) (hij : i ≠ j) : (t.f i).ac.lb ≠ (t.f j).ac.lb := by
  rcases Nat.lt_or_gt_of_ne hij with h1 | h1
  · exact h.2.2.2.2 i j h1 hj
  · exact fun e => h.2.2.2.2 j i h1 hi e.symm
theorem OwnTb.list {w w' : World} {B b n cap : Nat} {p : Option Addr} {f : Nat → Ef} (h : OwnTb w B ⟨p, n, cap, b, f⟩) (k : Nat) (hk : k < n) (ho : Only (f k).ac.lb w w') (x : Ef) (hx : efC x = efC (f k)) (e4 : x.ac.lb = (f k).ac.lb)
    (hE : OwnE evC 7 w' B (f k).ac.lb (f k).ac.la (f k).ac.ln x.ac.es) : OwnTb w' B ⟨p, n, cap, b, fun i => if i = k then x else f i⟩ := by
  have hne := fun i j hi hj hij => h.ne (i := i) (j := j) hi hj hij
  obtain ⟨c1, c2, c3, c4, c5⟩ := h
  dsimp only at c1 c2 c3 c4 c5 hne
  have hs : x.ac.la = (f k).ac.la ∧ x.ac.ln = (f k).ac.ln ∧ x.ac.lcap = (f k).ac.lcap := by
    unfold efC at hx
    simp only [List.cons.injEq, Value.slice.injEq, and_true] at hx
    obtain ⟨_, _, _, _, _, _, _, _, _, _, _, _, _, _, _, _, _, _, _, h9, _⟩ := hx
    exact h9
  refine ⟨c1, c2, ?_, fun i hi => ?_, fun i j hij hj => ?_⟩
  · refine ((c3.onlyE ho (Ne.symm (c4 k hk).2)) : OwnE efC 22 w' B b p n f) |> fun r => ⟨r.1, r.2.1, ?_, r.2.2.2⟩
    rcases r.2.2.1 with q | ⟨off, q1, q2⟩
    · exact .inl q
    · refine .inr ⟨off, q1, fun i hi j v hv => q2 i hi j v ?_⟩
      dsimp only at hv
      by_cases hik : i = k
      · subst hik; simp only [if_true] at hv; rw [← hx]; exact hv
      · simp only [if_neg hik] at hv; exact hv
  · dsimp only at hi ⊢
    by_cases hik : i = k
    · subst hik
      simp only [if_true]
      refine ⟨⟨by rw [hs.2.1, hs.2.2]; exact (c4 i hi).1.1, by rw [hs.2.2]; exact (c4 i hi).1.2.1, by rw [e4, hs.1, hs.2.1]; exact hE⟩, by rw [e4]; exact (c4 i hi).2⟩
    · simp only [if_neg hik]
      exact ⟨⟨(c4 i hi).1.1, (c4 i hi).1.2.1, (c4 i hi).1.2.2.onlyE ho (hne i k hi hk hik)⟩, (c4 i hi).2⟩
  · have hj' : j < n := hj
    have hlb : ∀ i, (if i = k then x else f i).ac.lb = (f i).ac.lb := fun i => by
      by_cases hik : i = k
      · subst hik; simp only [if_true]; exact e4
      · simp only [if_neg hik]
    show (if i = k then x else f i).ac.lb ≠ (if j = k then x else f j).ac.lb
    rw [hlb, hlb]
    exact c5 i j hij hj
/-- what is marked from number X on: its first 19 fields; with its list; all -/
def mkF1 (x : Ef) (X : Int) : Ef := ⟨X, X + 1, X + 1 + 1, X + 1 + 1 + 1, ⟨X + 1 + 1 + 1 + 1, X + 1 + 1 + 1 + 1 + 1, X + 1 + 1 + 1 + 1 + 1 + 1, X + 1 + 1 + 1 + 1 + 1 + 1 + 1, X + 1 + 1 + 1 + 1 + 1 + 1 + 1 + 1, X + 1 + 1 + 1 + 1 + 1 + 1 + 1 + 1 + 1, X + 1 + 1 + 1 + 1 + 1 + 1 + 1 + 1 + 1 + 1⟩, ⟨X + 1 + 1 + 1 + 1 + 1 + 1 + 1 + 1 + 1 + 1 + 1, X + 1 + 1 + 1 + 1 + 1 + 1 + 1 + 1 + 1 + 1 + 1 + 1⟩, ⟨X + 1 + 1 + 1 + 1 + 1 + 1 + 1 + 1 + 1 + 1 + 1 + 1 + 1, X + 1 + 1 + 1 + 1 + 1 + 1 + 1 + 1 + 1 + 1 + 1 + 1 + 1 + 1, X + 1 + 1 + 1 + 1 + 1 + 1 + 1 + 1 + 1 + 1 + 1 + 1 + 1 + 1 + 1, X + 1 + 1 + 1 + 1 + 1 + 1 + 1 + 1 + 1 + 1 + 1 + 1 + 1 + 1 + 1 + 1, X + 1 + 1 + 1 + 1 + 1 + 1 + 1 + 1 + 1 + 1 + 1 + 1 + 1 + 1 + 1 + 1 + 1, (X + 1 + 1 + 1 + 1 + 1 + 1 + 1 + 1 + 1 + 1 + 1 + 1 + 1 + 1 + 1 + 1 + 1 + 1) % 3 == 0, x.ac.la, x.ac.ln, x.ac.lcap, x.ac.lb, x.ac.es⟩, x.un, x.le⟩
def mkF2 (x : Ef) (X : Int) : Ef := ⟨X, X + 1, X + 1 + 1, X + 1 + 1 + 1, ⟨X + 1 + 1 + 1 + 1, X + 1 + 1 + 1 + 1 + 1, X + 1 + 1 + 1 + 1 + 1 + 1, X + 1 + 1 + 1 + 1 + 1 + 1 + 1, X + 1 + 1 + 1 + 1 + 1 + 1 + 1 + 1, X + 1 + 1 + 1 + 1 + 1 + 1 + 1 + 1 + 1, X + 1 + 1 + 1 + 1 + 1 + 1 + 1 + 1 + 1 + 1⟩, ⟨X + 1 + 1 + 1 + 1 + 1 + 1 + 1 + 1 + 1 + 1 + 1, X + 1 + 1 + 1 + 1 + 1 + 1 + 1 + 1 + 1 + 1 + 1 + 1⟩, ⟨X + 1 + 1 + 1 + 1 + 1 + 1 + 1 + 1 + 1 + 1 + 1 + 1 + 1, X + 1 + 1 + 1 + 1 + 1 + 1 + 1 + 1 + 1 + 1 + 1 + 1 + 1 + 1, X + 1 + 1 + 1 + 1 + 1 + 1 + 1 + 1 + 1 + 1 + 1 + 1 + 1 + 1 + 1, X + 1 + 1 + 1 + 1 + 1 + 1 + 1 + 1 + 1 + 1 + 1 + 1 + 1 + 1 + 1 + 1, X + 1 + 1 + 1 + 1 + 1 + 1 + 1 + 1 + 1 + 1 + 1 + 1 + 1 + 1 + 1 + 1 + 1, (X + 1 + 1 + 1 + 1 + 1 + 1 + 1 + 1 + 1 + 1 + 1 + 1 + 1 + 1 + 1 + 1 + 1 + 1) % 3 == 0, x.ac.la, x.ac.ln, x.ac.lcap, x.ac.lb, fun i => mkE (X + 1 + 1 + 1 + 1 + 1 + 1 + 1 + 1 + 1 + 1 + 1 + 1 + 1 + 1 + 1 + 1 + 1 + 1 + 1 + 7 * i)⟩, x.un, x.le⟩
def mkF (x : Ef) (X : Int) : Ef := ⟨X, X + 1, X + 1 + 1, X + 1 + 1 + 1, ⟨X + 1 + 1 + 1 + 1, X + 1 + 1 + 1 + 1 + 1, X + 1 + 1 + 1 + 1 + 1 + 1, X + 1 + 1 + 1 + 1 + 1 + 1 + 1, X + 1 + 1 + 1 + 1 + 1 + 1 + 1 + 1, X + 1 + 1 + 1 + 1 + 1 + 1 + 1 + 1 + 1, X + 1 + 1 + 1 + 1 + 1 + 1 + 1 + 1 + 1 + 1⟩, ⟨X + 1 + 1 + 1 + 1 + 1 + 1 + 1 + 1 + 1 + 1 + 1, X + 1 + 1 + 1 + 1 + 1 + 1 + 1 + 1 + 1 + 1 + 1 + 1⟩, ⟨X + 1 + 1 + 1 + 1 + 1 + 1 + 1 + 1 + 1 + 1 + 1 + 1 + 1, X + 1 + 1 + 1 + 1 + 1 + 1 + 1 + 1 + 1 + 1 + 1 + 1 + 1 + 1, X + 1 + 1 + 1 + 1 + 1 + 1 + 1 + 1 + 1 + 1 + 1 + 1 + 1 + 1 + 1, X + 1 + 1 + 1 + 1 + 1 + 1 + 1 + 1 + 1 + 1 + 1 + 1 + 1 + 1 + 1 + 1, X + 1 + 1 + 1 + 1 + 1 + 1 + 1 + 1 + 1 + 1 + 1 + 1 + 1 + 1 + 1 + 1 + 1, (X + 1 + 1 + 1 + 1 + 1 + 1 + 1 + 1 + 1 + 1 + 1 + 1 + 1 + 1 + 1 + 1 + 1 + 1) % 3 == 0, x.ac.la, x.ac.ln, x.ac.lcap, x.ac.lb, fun i => mkE (X + 1 + 1 + 1 + 1 + 1 + 1 + 1 + 1 + 1 + 1 + 1 + 1 + 1 + 1 + 1 + 1 + 1 + 1 + 1 + 7 * i)⟩, X + 1 + 1 + 1 + 1 + 1 + 1 + 1 + 1 + 1 + 1 + 1 + 1 + 1 + 1 + 1 + 1 + 1 + 1 + 1 + 7 * (x.ac.ln : Int), X + 1 + 1 + 1 + 1 + 1 + 1 + 1 + 1 + 1 + 1 + 1 + 1 + 1 + 1 + 1 + 1 + 1 + 1 + 1 + 7 * (x.ac.ln : Int) + 1⟩
def mkN (f : Nat → Ef) (k0 : Int) : Nat → Int
  | 0 => k0
  | i + 1 => mkN f k0 i + 21 + 7 * ((f i).ac.ln : Int)
theorem mkN_rng (f : Nat → Ef) (k0 : Int) (n : Nat) (hl : ∀ i, i < n → (f i).ac.ln ≤ 1048577) : ∀ i, i ≤ n → k0 ≤ mkN f k0 i ∧ mkN f k0 i ≤ k0 + 7340060 * (i : Int)
  | 0, _ => by simp [mkN]
  | i + 1, h => by
    have h1 := mkN_rng f k0 n hl i (by omega)
    have h2 := hl i (by omega)
    simp only [mkN]
    omega
def mkT (t : Tb) (k0 : Int) : Tb := ⟨t.p, t.n, t.cap, t.b, fun i => mkF (t.f i) (mkN t.f k0 i)⟩
theorem mk_one {w : World} {B b off n cap : Nat} {f : Nat → Ef} (h : OwnTb w B ⟨some ⟨b, off, none⟩, n, cap, b, f⟩) (k : Nat) (hk : k < n) (x : Ef) (hx : f k = x) (X : Int) : OwnTb (w.setCells b (off + k * 22) [.int .i64 (X), .int .i64 (X + 1), .int .i64 (X + 1 + 1), .int .i64 (X + 1 + 1 + 1), .int .i64 (X + 1 + 1 + 1 + 1), .int .i64 (X + 1 + 1 + 1 + 1 + 1), .int .i64 (X + 1 + 1 + 1 + 1 + 1 + 1), .int .i64 (X + 1 + 1 + 1 + 1 + 1 + 1 + 1), .int .i64 (X + 1 + 1 + 1 + 1 + 1 + 1 + 1 + 1), .int .i64 (X + 1 + 1 + 1 + 1 + 1 + 1 + 1 + 1 + 1), .int .i64 (X + 1 + 1 + 1 + 1 + 1 + 1 + 1 + 1 + 1 + 1), .int .i64 (X + 1 + 1 + 1 + 1 + 1 + 1 + 1 + 1 + 1 + 1 + 1), .int .i64 (X + 1 + 1 + 1 + 1 + 1 + 1 + 1 + 1 + 1 + 1 + 1 + 1), .int .i64 (X + 1 + 1 + 1 + 1 + 1 + 1 + 1 + 1 + 1 + 1 + 1 + 1 + 1), .int .i64 (X + 1 + 1 + 1 + 1 + 1 + 1 + 1 + 1 + 1 + 1 + 1 + 1 + 1 + 1), .int .i64 (X + 1 + 1 + 1 + 1 + 1 + 1 + 1 + 1 + 1 + 1 + 1 + 1 + 1 + 1 + 1), .int .i64 (X + 1 + 1 + 1 + 1 + 1 + 1 + 1 + 1 + 1 + 1 + 1 + 1 + 1 + 1 + 1 + 1), .int .i64 (X + 1 + 1 + 1 + 1 + 1 + 1 + 1 + 1 + 1 + 1 + 1 + 1 + 1 + 1 + 1 + 1 + 1), .bool ((X + 1 + 1 + 1 + 1 + 1 + 1 + 1 + 1 + 1 + 1 + 1 + 1 + 1 + 1 + 1 + 1 + 1 + 1) % 3 == 0)]) B ⟨some ⟨b, off, none⟩, n, cap, b, fun i => if i = k then mkF1 x X else f i⟩ := by
  refine h.part k hk 0 (off + k * 22) _ rfl (by simp) _ ?_ ?_ (by rw [hx]; rfl) (by rw [hx]; rfl) (by rw [hx]; rfl) (by rw [hx]; rfl) (by rw [hx]; rfl)
  · exact by
        intro j v q1 q2 hv
        have hj : j < 22 := by rw [← efC_len (mkF1 x X)]; exact (List.getElem?_eq_some_iff.1 hv).1
        rcases (show j = 0 ∨ j = 1 ∨ j = 2 ∨ j = 3 ∨ j = 4 ∨ j = 5 ∨ j = 6 ∨ j = 7 ∨ j = 8 ∨ j = 9 ∨ j = 10 ∨ j = 11 ∨ j = 12 ∨ j = 13 ∨ j = 14 ∨ j = 15 ∨ j = 16 ∨ j = 17 ∨ j = 18 ∨ j = 19 ∨ j = 20 ∨ j = 21 by omega) with rfl | rfl | rfl | rfl | rfl | rfl | rfl | rfl | rfl | rfl | rfl | rfl | rfl | rfl | rfl | rfl | rfl | rfl | rfl | rfl | rfl | rfl <;> first | exact hv | (exfalso; simp at q1 q2 <;> omega)
  · rw [hx]; exact by
        intro j v q1 hv
        have hj : j < 22 := by rw [← efC_len (mkF1 x X)]; exact (List.getElem?_eq_some_iff.1 hv).1
        rcases (show j = 0 ∨ j = 1 ∨ j = 2 ∨ j = 3 ∨ j = 4 ∨ j = 5 ∨ j = 6 ∨ j = 7 ∨ j = 8 ∨ j = 9 ∨ j = 10 ∨ j = 11 ∨ j = 12 ∨ j = 13 ∨ j = 14 ∨ j = 15 ∨ j = 16 ∨ j = 17 ∨ j = 18 ∨ j = 19 ∨ j = 20 ∨ j = 21 by omega) with rfl | rfl | rfl | rfl | rfl | rfl | rfl | rfl | rfl | rfl | rfl | rfl | rfl | rfl | rfl | rfl | rfl | rfl | rfl | rfl | rfl | rfl <;> first | exact hv | (exfalso; simp at q1 <;> omega)
theorem mk_two {w w' : World} {B b off n cap : Nat} {f : Nat → Ef} (x : Ef) (X : Int) (k : Nat) (h : OwnTb w B ⟨some ⟨b, off, none⟩, n, cap, b, fun i => if i = k then mkF1 x X else f i⟩) (hk : k < n) (ho : Only x.ac.lb w w') (hE : OwnE evC 7 w' B x.ac.lb x.ac.la x.ac.ln (fun i => mkE (X + 1 + 1 + 1 + 1 + 1 + 1 + 1 + 1 + 1 + 1 + 1 + 1 + 1 + 1 + 1 + 1 + 1 + 1 + 1 + 7 * i))) : OwnTb w' B ⟨some ⟨b, off, none⟩, n, cap, b, fun i => if i = k then mkF2 x X else f i⟩ := by
  have h2 := OwnTb.list h k hk (by simp only [if_true]; exact ho) (mkF2 x X) (by simp only [if_true]; rfl) (by simp only [if_true]; rfl) (by simp only [if_true]; exact hE)
  have he : (fun i => if i = k then mkF2 x X else (fun i => if i = k then mkF1 x X else f i) i) = (fun i => if i = k then mkF2 x X else f i) := by funext i; by_cases hi : i = k <;> simp [hi]
  rw [he] at h2
  exact h2
theorem mk_three {w : World} {B b off n cap : Nat} {f : Nat → Ef} (x : Ef) (X : Int) (k : Nat) (h : OwnTb w B ⟨some ⟨b, off, none⟩, n, cap, b, fun i => if i = k then mkF2 x X else f i⟩) (hk : k < n) : OwnTb (w.setCells b (off + k * 22 + 20) [.int .i64 (X + 1 + 1 + 1 + 1 + 1 + 1 + 1 + 1 + 1 + 1 + 1 + 1 + 1 + 1 + 1 + 1 + 1 + 1 + 1 + 7 * (x.ac.ln : Int)), .int .i64 (X + 1 + 1 + 1 + 1 + 1 + 1 + 1 + 1 + 1 + 1 + 1 + 1 + 1 + 1 + 1 + 1 + 1 + 1 + 1 + 7 * (x.ac.ln : Int) + 1)]) B ⟨some ⟨b, off, none⟩, n, cap, b, fun i => if i = k then mkF x X else f i⟩ := by
  have h2 := OwnTb.part h k hk 20 (off + k * 22 + 20) [.int .i64 (X + 1 + 1 + 1 + 1 + 1 + 1 + 1 + 1 + 1 + 1 + 1 + 1 + 1 + 1 + 1 + 1 + 1 + 1 + 1 + 7 * (x.ac.ln : Int)), .int .i64 (X + 1 + 1 + 1 + 1 + 1 + 1 + 1 + 1 + 1 + 1 + 1 + 1 + 1 + 1 + 1 + 1 + 1 + 1 + 1 + 7 * (x.ac.ln : Int) + 1)] rfl (by simp) (mkF x X) ?_ ?_ (by simp only [if_true]; rfl) (by simp only [if_true]; rfl) (by simp only [if_true]; rfl) (by simp only [if_true]; rfl) (by simp only [if_true]; rfl)
  · have he : (fun i => if i = k then mkF x X else (fun i => if i = k then mkF2 x X else f i) i) = (fun i => if i = k then mkF x X else f i) := by funext i; by_cases hi : i = k <;> simp [hi]
    rw [he] at h2
    exact h2
  · exact by
        intro j v q1 q2 hv
        have hj : j < 22 := by rw [← efC_len (mkF x X)]; exact (List.getElem?_eq_some_iff.1 hv).1
        rcases (show j = 0 ∨ j = 1 ∨ j = 2 ∨ j = 3 ∨ j = 4 ∨ j = 5 ∨ j = 6 ∨ j = 7 ∨ j = 8 ∨ j = 9 ∨ j = 10 ∨ j = 11 ∨ j = 12 ∨ j = 13 ∨ j = 14 ∨ j = 15 ∨ j = 16 ∨ j = 17 ∨ j = 18 ∨ j = 19 ∨ j = 20 ∨ j = 21 by omega) with rfl | rfl | rfl | rfl | rfl | rfl | rfl | rfl | rfl | rfl | rfl | rfl | rfl | rfl | rfl | rfl | rfl | rfl | rfl | rfl | rfl | rfl <;> first | exact hv | (exfalso; simp at q1 q2 <;> omega)
  · simp only [if_true]; exact by
        intro j v q1 hv
        have hj : j < 22 := by rw [← efC_len (mkF x X)]; exact (List.getElem?_eq_some_iff.1 hv).1
        rcases (show j = 0 ∨ j = 1 ∨ j = 2 ∨ j = 3 ∨ j = 4 ∨ j = 5 ∨ j = 6 ∨ j = 7 ∨ j = 8 ∨ j = 9 ∨ j = 10 ∨ j = 11 ∨ j = 12 ∨ j = 13 ∨ j = 14 ∨ j = 15 ∨ j = 16 ∨ j = 17 ∨ j = 18 ∨ j = 19 ∨ j = 20 ∨ j = 21 by omega) with rfl | rfl | rfl | rfl | rfl | rfl | rfl | rfl | rfl | rfl | rfl | rfl | rfl | rfl | rfl | rfl | rfl | rfl | rfl | rfl | rfl | rfl <;> first | exact hv | (exfalso; simp at q1 <;> omega)
set_option maxHeartbeats 8000000 in
theorem markEffectS_any (t : Tb) (k0 : Int) (w : World) {B : Nat} (hn : t.n ≤ 1048577) (hl : ∀ i, i < t.n → (t.f i).ac.ln ≤ 1048577) (hk0 : 0 ≤ k0) (hk1 : k0 ≤ 70368744177664) (h : OwnTb w B t) :
    Calls Tryz.prog 12 #[.slice t.p t.n t.cap, .int .i64 k0] w fun e w' => e = .returned (.int .i64 (mkN t.f k0 t.n)) ∧ OnlyS (OfT t.b t.n t.f) w w' ∧ OwnTb w' B (mkT t k0) := by
  obtain ⟨p, n, cap, b, f⟩ := t
  unfold mkT
  dsimp only at hn hl ⊢
  have RNG := fun i => mkN_rng f k0 n hl i
  go_enter Tryz.func12, Tryz.ntmps12
  go_wp2
  go_loopw [1, 5] (fun m i wr => ∃ k : Nat, k ≤ n ∧ i = .int .i64 k ∧ m = .int .i64 (mkN f k0 k) ∧ OnlyS (OfT b n f) w wr ∧ OwnTb wr B ⟨p, n, cap, b, tilE k (fun i => mkF (f i) (mkN f k0 i)) f⟩) (fun _ i _ => n - (intOf i).toNat)
  case atStart => exact ⟨0, Nat.zero_le _, rfl, rfl, OnlyS.refl _ _, by rw [tilE_zero]; exact h⟩
  case round =>
    clear h
    obtain ⟨k, hk, rfl, rfl, hb, hr⟩ := hrel
    by_cases hlt : k < n
    · rcases hr.2.2.1.rd with h3 | ⟨o1, hp, h3⟩
      · dsimp only at h3; omega
      dsimp only at hp h3
      subst hp
      have hT : tilE k (fun i => mkF (f i) (mkN f k0 i)) f k = f k := by unfold tilE; simp
      have hra : ∀ j v, (efC (f k))[j]? = some v → wr.cell? ⟨b, o1 + k * 22 + j, none⟩ = some v := by have := h3 k hlt; rw [hT] at this; exact this
      have oF : OwnF wr B (f k) ∧ (f k).ac.lb ≠ b := by have := hr.2.2.2.1 k hlt; dsimp only at this; rw [hT] at this; exact this
      have hlk := hl k hlt
      have hS : OfT b n f b := .inl rfl
      have hSk : OfT b n f (f k).ac.lb := .inr ⟨k, hlt, rfl⟩
      have hX := RNG k hk
      have HN : Hid (mkN f k0 (k + 1) = mkN f k0 k + 21 + 7 * ((f k).ac.ln : Int)) := (rfl : mkN f k0 (k + 1) = _)
      have HE : Hid (∀ x X, f k = x → mkN f k0 k = X → (fun i => if i = k then mkF x X else tilE k (fun i => mkF (f i) (mkN f k0 i)) f i) = tilE (k + 1) (fun i => mkF (f i) (mkN f k0 i)) f) := fun x X h1 h2 => by subst h1 h2; exact tilE_step k (fun i => mkF (f i) (mkN f k0 i)) f
      obtain ⟨x, hx⟩ : ∃ x, f k = x := ⟨_, rfl⟩
      obtain ⟨X, hXe⟩ : ∃ X, mkN f k0 k = X := ⟨_, rfl⟩
      rw [hx] at hra oF hlk hSk HN
      rw [hXe] at hX HN ⊢
      have H1 := mk_one hr k hlt x (by rw [hT]; exact hx) X
      have hb1 : OnlyS (OfT b n f) w (wr.setCells b (o1 + k * 22) [.int .i64 (X), .int .i64 (X + 1), .int .i64 (X + 1 + 1), .int .i64 (X + 1 + 1 + 1), .int .i64 (X + 1 + 1 + 1 + 1), .int .i64 (X + 1 + 1 + 1 + 1 + 1), .int .i64 (X + 1 + 1 + 1 + 1 + 1 + 1), .int .i64 (X + 1 + 1 + 1 + 1 + 1 + 1 + 1), .int .i64 (X + 1 + 1 + 1 + 1 + 1 + 1 + 1 + 1), .int .i64 (X + 1 + 1 + 1 + 1 + 1 + 1 + 1 + 1 + 1), .int .i64 (X + 1 + 1 + 1 + 1 + 1 + 1 + 1 + 1 + 1 + 1), .int .i64 (X + 1 + 1 + 1 + 1 + 1 + 1 + 1 + 1 + 1 + 1 + 1), .int .i64 (X + 1 + 1 + 1 + 1 + 1 + 1 + 1 + 1 + 1 + 1 + 1 + 1), .int .i64 (X + 1 + 1 + 1 + 1 + 1 + 1 + 1 + 1 + 1 + 1 + 1 + 1 + 1), .int .i64 (X + 1 + 1 + 1 + 1 + 1 + 1 + 1 + 1 + 1 + 1 + 1 + 1 + 1 + 1), .int .i64 (X + 1 + 1 + 1 + 1 + 1 + 1 + 1 + 1 + 1 + 1 + 1 + 1 + 1 + 1 + 1), .int .i64 (X + 1 + 1 + 1 + 1 + 1 + 1 + 1 + 1 + 1 + 1 + 1 + 1 + 1 + 1 + 1 + 1), .int .i64 (X + 1 + 1 + 1 + 1 + 1 + 1 + 1 + 1 + 1 + 1 + 1 + 1 + 1 + 1 + 1 + 1 + 1), .bool ((X + 1 + 1 + 1 + 1 + 1 + 1 + 1 + 1 + 1 + 1 + 1 + 1 + 1 + 1 + 1 + 1 + 1 + 1) % 3 == 0)]) := hb.trans (OnlyS.only (Only.setCells _ _ _ (Only.refl b wr)) hS)
      have HC : Hid (wr.setCells b (o1 + k * 22) [.int .i64 (X), .int .i64 (X + 1), .int .i64 (X + 1 + 1), .int .i64 (X + 1 + 1 + 1), .int .i64 (X + 1 + 1 + 1 + 1), .int .i64 (X + 1 + 1 + 1 + 1 + 1), .int .i64 (X + 1 + 1 + 1 + 1 + 1 + 1), .int .i64 (X + 1 + 1 + 1 + 1 + 1 + 1 + 1), .int .i64 (X + 1 + 1 + 1 + 1 + 1 + 1 + 1 + 1), .int .i64 (X + 1 + 1 + 1 + 1 + 1 + 1 + 1 + 1 + 1), .int .i64 (X + 1 + 1 + 1 + 1 + 1 + 1 + 1 + 1 + 1 + 1), .int .i64 (X + 1 + 1 + 1 + 1 + 1 + 1 + 1 + 1 + 1 + 1 + 1), .int .i64 (X + 1 + 1 + 1 + 1 + 1 + 1 + 1 + 1 + 1 + 1 + 1 + 1), .int .i64 (X + 1 + 1 + 1 + 1 + 1 + 1 + 1 + 1 + 1 + 1 + 1 + 1 + 1), .int .i64 (X + 1 + 1 + 1 + 1 + 1 + 1 + 1 + 1 + 1 + 1 + 1 + 1 + 1 + 1), .int .i64 (X + 1 + 1 + 1 + 1 + 1 + 1 + 1 + 1 + 1 + 1 + 1 + 1 + 1 + 1 + 1), .int .i64 (X + 1 + 1 + 1 + 1 + 1 + 1 + 1 + 1 + 1 + 1 + 1 + 1 + 1 + 1 + 1 + 1), .int .i64 (X + 1 + 1 + 1 + 1 + 1 + 1 + 1 + 1 + 1 + 1 + 1 + 1 + 1 + 1 + 1 + 1 + 1), .bool ((X + 1 + 1 + 1 + 1 + 1 + 1 + 1 + 1 + 1 + 1 + 1 + 1 + 1 + 1 + 1 + 1 + 1 + 1) % 3 == 0)] = (((((((((((((((((((wr.setCell ⟨b, o1 + k * 22, none⟩ (.int .i64 (X))).setCell ⟨b, o1 + k * 22 + 1, none⟩ (.int .i64 (X + 1))).setCell ⟨b, o1 + k * 22 + 2, none⟩ (.int .i64 (X + 1 + 1))).setCell ⟨b, o1 + k * 22 + 3, none⟩ (.int .i64 (X + 1 + 1 + 1))).setCell ⟨b, o1 + k * 22 + 4, none⟩ (.int .i64 (X + 1 + 1 + 1 + 1))).setCell ⟨b, o1 + k * 22 + 5, none⟩ (.int .i64 (X + 1 + 1 + 1 + 1 + 1))).setCell ⟨b, o1 + k * 22 + 6, none⟩ (.int .i64 (X + 1 + 1 + 1 + 1 + 1 + 1))).setCell ⟨b, o1 + k * 22 + 7, none⟩ (.int .i64 (X + 1 + 1 + 1 + 1 + 1 + 1 + 1))).setCell ⟨b, o1 + k * 22 + 8, none⟩ (.int .i64 (X + 1 + 1 + 1 + 1 + 1 + 1 + 1 + 1))).setCell ⟨b, o1 + k * 22 + 9, none⟩ (.int .i64 (X + 1 + 1 + 1 + 1 + 1 + 1 + 1 + 1 + 1))).setCell ⟨b, o1 + k * 22 + 10, none⟩ (.int .i64 (X + 1 + 1 + 1 + 1 + 1 + 1 + 1 + 1 + 1 + 1))).setCell ⟨b, o1 + k * 22 + 11, none⟩ (.int .i64 (X + 1 + 1 + 1 + 1 + 1 + 1 + 1 + 1 + 1 + 1 + 1))).setCell ⟨b, o1 + k * 22 + 12, none⟩ (.int .i64 (X + 1 + 1 + 1 + 1 + 1 + 1 + 1 + 1 + 1 + 1 + 1 + 1))).setCell ⟨b, o1 + k * 22 + 13, none⟩ (.int .i64 (X + 1 + 1 + 1 + 1 + 1 + 1 + 1 + 1 + 1 + 1 + 1 + 1 + 1))).setCell ⟨b, o1 + k * 22 + 14, none⟩ (.int .i64 (X + 1 + 1 + 1 + 1 + 1 + 1 + 1 + 1 + 1 + 1 + 1 + 1 + 1 + 1))).setCell ⟨b, o1 + k * 22 + 15, none⟩ (.int .i64 (X + 1 + 1 + 1 + 1 + 1 + 1 + 1 + 1 + 1 + 1 + 1 + 1 + 1 + 1 + 1))).setCell ⟨b, o1 + k * 22 + 16, none⟩ (.int .i64 (X + 1 + 1 + 1 + 1 + 1 + 1 + 1 + 1 + 1 + 1 + 1 + 1 + 1 + 1 + 1 + 1))).setCell ⟨b, o1 + k * 22 + 17, none⟩ (.int .i64 (X + 1 + 1 + 1 + 1 + 1 + 1 + 1 + 1 + 1 + 1 + 1 + 1 + 1 + 1 + 1 + 1 + 1))).setCell ⟨b, o1 + k * 22 + 18, none⟩ (.bool ((X + 1 + 1 + 1 + 1 + 1 + 1 + 1 + 1 + 1 + 1 + 1 + 1 + 1 + 1 + 1 + 1 + 1 + 1) % 3 == 0)))) := show _ = _ from rfl
      have oL : OwnA (wr.setCells b (o1 + k * 22) [.int .i64 (X), .int .i64 (X + 1), .int .i64 (X + 1 + 1), .int .i64 (X + 1 + 1 + 1), .int .i64 (X + 1 + 1 + 1 + 1), .int .i64 (X + 1 + 1 + 1 + 1 + 1), .int .i64 (X + 1 + 1 + 1 + 1 + 1 + 1), .int .i64 (X + 1 + 1 + 1 + 1 + 1 + 1 + 1), .int .i64 (X + 1 + 1 + 1 + 1 + 1 + 1 + 1 + 1), .int .i64 (X + 1 + 1 + 1 + 1 + 1 + 1 + 1 + 1 + 1), .int .i64 (X + 1 + 1 + 1 + 1 + 1 + 1 + 1 + 1 + 1 + 1), .int .i64 (X + 1 + 1 + 1 + 1 + 1 + 1 + 1 + 1 + 1 + 1 + 1), .int .i64 (X + 1 + 1 + 1 + 1 + 1 + 1 + 1 + 1 + 1 + 1 + 1 + 1), .int .i64 (X + 1 + 1 + 1 + 1 + 1 + 1 + 1 + 1 + 1 + 1 + 1 + 1 + 1), .int .i64 (X + 1 + 1 + 1 + 1 + 1 + 1 + 1 + 1 + 1 + 1 + 1 + 1 + 1 + 1), .int .i64 (X + 1 + 1 + 1 + 1 + 1 + 1 + 1 + 1 + 1 + 1 + 1 + 1 + 1 + 1 + 1), .int .i64 (X + 1 + 1 + 1 + 1 + 1 + 1 + 1 + 1 + 1 + 1 + 1 + 1 + 1 + 1 + 1 + 1), .int .i64 (X + 1 + 1 + 1 + 1 + 1 + 1 + 1 + 1 + 1 + 1 + 1 + 1 + 1 + 1 + 1 + 1 + 1), .bool ((X + 1 + 1 + 1 + 1 + 1 + 1 + 1 + 1 + 1 + 1 + 1 + 1 + 1 + 1 + 1 + 1 + 1 + 1) % 3 == 0)]) B x.ac := OwnA.setL oF.1 oF.2 _ _
      have k19 : (wr.setCells b (o1 + k * 22) [.int .i64 (X), .int .i64 (X + 1), .int .i64 (X + 1 + 1), .int .i64 (X + 1 + 1 + 1), .int .i64 (X + 1 + 1 + 1 + 1), .int .i64 (X + 1 + 1 + 1 + 1 + 1), .int .i64 (X + 1 + 1 + 1 + 1 + 1 + 1), .int .i64 (X + 1 + 1 + 1 + 1 + 1 + 1 + 1), .int .i64 (X + 1 + 1 + 1 + 1 + 1 + 1 + 1 + 1), .int .i64 (X + 1 + 1 + 1 + 1 + 1 + 1 + 1 + 1 + 1), .int .i64 (X + 1 + 1 + 1 + 1 + 1 + 1 + 1 + 1 + 1 + 1), .int .i64 (X + 1 + 1 + 1 + 1 + 1 + 1 + 1 + 1 + 1 + 1 + 1), .int .i64 (X + 1 + 1 + 1 + 1 + 1 + 1 + 1 + 1 + 1 + 1 + 1 + 1), .int .i64 (X + 1 + 1 + 1 + 1 + 1 + 1 + 1 + 1 + 1 + 1 + 1 + 1 + 1), .int .i64 (X + 1 + 1 + 1 + 1 + 1 + 1 + 1 + 1 + 1 + 1 + 1 + 1 + 1 + 1), .int .i64 (X + 1 + 1 + 1 + 1 + 1 + 1 + 1 + 1 + 1 + 1 + 1 + 1 + 1 + 1 + 1), .int .i64 (X + 1 + 1 + 1 + 1 + 1 + 1 + 1 + 1 + 1 + 1 + 1 + 1 + 1 + 1 + 1 + 1), .int .i64 (X + 1 + 1 + 1 + 1 + 1 + 1 + 1 + 1 + 1 + 1 + 1 + 1 + 1 + 1 + 1 + 1 + 1), .bool ((X + 1 + 1 + 1 + 1 + 1 + 1 + 1 + 1 + 1 + 1 + 1 + 1 + 1 + 1 + 1 + 1 + 1 + 1) % 3 == 0)]).cell? ⟨b, o1 + k * 22 + 19, none⟩ = some (.slice x.ac.la x.ac.ln x.ac.lcap) := by
        rw [cell_setCells_other b _ _ _ _ (by right; right; simp)]; exact hra 19 _ rfl
      have x1 : 0 ≤ X := by omega
      have x2 : X ≤ 140737488000000 := by omega
      have y1 : (0 : Int) ≤ (k : Int) := by omega
      have y2 : (k : Int) < (n : Int) := by omega
      have z := hr.2.2.1.2.2.2
      dsimp only at z
      obtain ⟨c0, c1, c2, c3, c4, c5, c6, c7, c8, c9, c10, c11, c12, c13, c14, c15, c16, c17, c18⟩ : wr.cell? ⟨b, o1 + k * 22, none⟩ = some (.int .i64 x.id) ∧ wr.cell? ⟨b, o1 + k * 22 + 1, none⟩ = some (.int .i64 x.si) ∧ wr.cell? ⟨b, o1 + k * 22 + 2, none⟩ = some (.int .i64 x.sr) ∧ wr.cell? ⟨b, o1 + k * 22 + 3, none⟩ = some (.int .i64 x.cl) ∧ wr.cell? ⟨b, o1 + k * 22 + 4, none⟩ = some (.int .i64 x.pt.kd) ∧ wr.cell? ⟨b, o1 + k * 22 + 5, none⟩ = some (.int .i64 x.pt.wh) ∧ wr.cell? ⟨b, o1 + k * 22 + 6, none⟩ = some (.int .i64 x.pt.sr) ∧ wr.cell? ⟨b, o1 + k * 22 + 7, none⟩ = some (.int .i64 x.pt.tr) ∧ wr.cell? ⟨b, o1 + k * 22 + 8, none⟩ = some (.int .i64 x.pt.pi) ∧ wr.cell? ⟨b, o1 + k * 22 + 9, none⟩ = some (.int .i64 x.pt.le) ∧ wr.cell? ⟨b, o1 + k * 22 + 10, none⟩ = some (.int .i64 x.pt.zo) ∧ wr.cell? ⟨b, o1 + k * 22 + 11, none⟩ = some (.int .i64 x.gd.kd) ∧ wr.cell? ⟨b, o1 + k * 22 + 12, none⟩ = some (.int .i64 x.gd.nn) ∧ wr.cell? ⟨b, o1 + k * 22 + 13, none⟩ = some (.int .i64 x.ac.kd) ∧ wr.cell? ⟨b, o1 + k * 22 + 14, none⟩ = some (.int .i64 x.ac.nn) ∧ wr.cell? ⟨b, o1 + k * 22 + 15, none⟩ = some (.int .i64 x.ac.pi) ∧ wr.cell? ⟨b, o1 + k * 22 + 16, none⟩ = some (.int .i64 x.ac.si) ∧ wr.cell? ⟨b, o1 + k * 22 + 17, none⟩ = some (.int .i64 x.ac.zo) ∧ wr.cell? ⟨b, o1 + k * 22 + 18, none⟩ = some (.bool x.ac.be) := ⟨hra 0 _ rfl, hra 1 _ rfl, hra 2 _ rfl, hra 3 _ rfl, hra 4 _ rfl, hra 5 _ rfl, hra 6 _ rfl, hra 7 _ rfl, hra 8 _ rfl, hra 9 _ rfl, hra 10 _ rfl, hra 11 _ rfl, hra 12 _ rfl, hra 13 _ rfl, hra 14 _ rfl, hra 15 _ rfl, hra 16 _ rfl, hra 17 _ rfl, hra 18 _ rfl⟩
      have z0 := z (o1 + k * 22)
      have z1 := z (o1 + k * 22 + 1)
      have z2 := z (o1 + k * 22 + 2)
      have z3 := z (o1 + k * 22 + 3)
      have z4 := z (o1 + k * 22 + 4)
      have z5 := z (o1 + k * 22 + 5)
      have z6 := z (o1 + k * 22 + 6)
      have z7 := z (o1 + k * 22 + 7)
      have z8 := z (o1 + k * 22 + 8)
      have z9 := z (o1 + k * 22 + 9)
      have z10 := z (o1 + k * 22 + 10)
      have z11 := z (o1 + k * 22 + 11)
      have z12 := z (o1 + k * 22 + 12)
      have z13 := z (o1 + k * 22 + 13)
      have z14 := z (o1 + k * 22 + 14)
      have z15 := z (o1 + k * 22 + 15)
      have z16 := z (o1 + k * 22 + 16)
      have z17 := z (o1 + k * 22 + 17)
      have z18 := z (o1 + k * 22 + 18)
      rw [HC.out] at H1 hb1 oL k19
      clear hr hb hra h3 hT RNG HC z
      go_upto_region 41 with fail
      generalize hV : (((((((((((((((((((wr.setCell ⟨b, o1 + k * 22, none⟩ (.int .i64 (X))).setCell ⟨b, o1 + k * 22 + 1, none⟩ (.int .i64 (X + 1))).setCell ⟨b, o1 + k * 22 + 2, none⟩ (.int .i64 (X + 1 + 1))).setCell ⟨b, o1 + k * 22 + 3, none⟩ (.int .i64 (X + 1 + 1 + 1))).setCell ⟨b, o1 + k * 22 + 4, none⟩ (.int .i64 (X + 1 + 1 + 1 + 1))).setCell ⟨b, o1 + k * 22 + 5, none⟩ (.int .i64 (X + 1 + 1 + 1 + 1 + 1))).setCell ⟨b, o1 + k * 22 + 6, none⟩ (.int .i64 (X + 1 + 1 + 1 + 1 + 1 + 1))).setCell ⟨b, o1 + k * 22 + 7, none⟩ (.int .i64 (X + 1 + 1 + 1 + 1 + 1 + 1 + 1))).setCell ⟨b, o1 + k * 22 + 8, none⟩ (.int .i64 (X + 1 + 1 + 1 + 1 + 1 + 1 + 1 + 1))).setCell ⟨b, o1 + k * 22 + 9, none⟩ (.int .i64 (X + 1 + 1 + 1 + 1 + 1 + 1 + 1 + 1 + 1))).setCell ⟨b, o1 + k * 22 + 10, none⟩ (.int .i64 (X + 1 + 1 + 1 + 1 + 1 + 1 + 1 + 1 + 1 + 1))).setCell ⟨b, o1 + k * 22 + 11, none⟩ (.int .i64 (X + 1 + 1 + 1 + 1 + 1 + 1 + 1 + 1 + 1 + 1 + 1))).setCell ⟨b, o1 + k * 22 + 12, none⟩ (.int .i64 (X + 1 + 1 + 1 + 1 + 1 + 1 + 1 + 1 + 1 + 1 + 1 + 1))).setCell ⟨b, o1 + k * 22 + 13, none⟩ (.int .i64 (X + 1 + 1 + 1 + 1 + 1 + 1 + 1 + 1 + 1 + 1 + 1 + 1 + 1))).setCell ⟨b, o1 + k * 22 + 14, none⟩ (.int .i64 (X + 1 + 1 + 1 + 1 + 1 + 1 + 1 + 1 + 1 + 1 + 1 + 1 + 1 + 1))).setCell ⟨b, o1 + k * 22 + 15, none⟩ (.int .i64 (X + 1 + 1 + 1 + 1 + 1 + 1 + 1 + 1 + 1 + 1 + 1 + 1 + 1 + 1 + 1))).setCell ⟨b, o1 + k * 22 + 16, none⟩ (.int .i64 (X + 1 + 1 + 1 + 1 + 1 + 1 + 1 + 1 + 1 + 1 + 1 + 1 + 1 + 1 + 1 + 1))).setCell ⟨b, o1 + k * 22 + 17, none⟩ (.int .i64 (X + 1 + 1 + 1 + 1 + 1 + 1 + 1 + 1 + 1 + 1 + 1 + 1 + 1 + 1 + 1 + 1 + 1))).setCell ⟨b, o1 + k * 22 + 18, none⟩ (.bool ((X + 1 + 1 + 1 + 1 + 1 + 1 + 1 + 1 + 1 + 1 + 1 + 1 + 1 + 1 + 1 + 1 + 1 + 1) % 3 == 0))) = V at H1 hb1 oL k19 ⊢
      clear c0 z0 c1 z1 c2 z2 c3 z3 c4 z4 c5 z5 c6 z6 c7 z7 c8 z8 c9 z9 c10 z10 c11 z11 c12 z12 c13 z13 c14 z14 c15 z15 c16 z16 c17 z17 c18 z18 hV
      as_aux_lemma =>
        go_wp2_with fail
        refine (markEventS_any x.ac.la x.ac.lb x.ac.ln x.ac.lcap _ x.ac.es _ hlk (by omega) (by omega) oL.2.2).mono ?_
        rintro e w4 ⟨rfl, ho, oE⟩
        have H2 := mk_two x X k H1 hlt ho oE
        have hb2 := hb1.trans (OnlyS.only ho hSk)
        clear H1 hb1 oL k19 ho oE
        have H3 := mk_three x X k H2 hlt
        have hb3 : OnlyS (OfT b n f) w (w4.setCells b (o1 + k * 22 + 20) [.int .i64 (X + 1 + 1 + 1 + 1 + 1 + 1 + 1 + 1 + 1 + 1 + 1 + 1 + 1 + 1 + 1 + 1 + 1 + 1 + 1 + 7 * (x.ac.ln : Int)), .int .i64 (X + 1 + 1 + 1 + 1 + 1 + 1 + 1 + 1 + 1 + 1 + 1 + 1 + 1 + 1 + 1 + 1 + 1 + 1 + 1 + 7 * (x.ac.ln : Int) + 1)]) := hb2.trans (OnlyS.only (Only.setCells _ _ _ (Only.refl b w4)) hS)
        have HC : Hid (w4.setCells b (o1 + k * 22 + 20) [.int .i64 (X + 1 + 1 + 1 + 1 + 1 + 1 + 1 + 1 + 1 + 1 + 1 + 1 + 1 + 1 + 1 + 1 + 1 + 1 + 1 + 7 * (x.ac.ln : Int)), .int .i64 (X + 1 + 1 + 1 + 1 + 1 + 1 + 1 + 1 + 1 + 1 + 1 + 1 + 1 + 1 + 1 + 1 + 1 + 1 + 1 + 7 * (x.ac.ln : Int) + 1)] = ((w4.setCell ⟨b, o1 + k * 22 + 20, none⟩ (.int .i64 (X + 1 + 1 + 1 + 1 + 1 + 1 + 1 + 1 + 1 + 1 + 1 + 1 + 1 + 1 + 1 + 1 + 1 + 1 + 1 + 7 * (x.ac.ln : Int)))).setCell ⟨b, o1 + k * 22 + 21, none⟩ (.int .i64 (X + 1 + 1 + 1 + 1 + 1 + 1 + 1 + 1 + 1 + 1 + 1 + 1 + 1 + 1 + 1 + 1 + 1 + 1 + 1 + 7 * (x.ac.ln : Int) + 1)))) := show _ = _ from rfl
        have c20 : (w4.cell? ⟨b, o1 + k * 22 + 20, none⟩).isSome = true := by
          rcases H2.2.2.1.rd with q | ⟨o2, q1, q2⟩
          · dsimp only at q; omega
          · simp only [Option.some.injEq, Addr.mk.injEq, and_true, true_and] at q1
            subst q1
            rw [q2 k hlt 20 _ (by simp only [if_true]; rfl)]; rfl
        have c21 : (w4.cell? ⟨b, o1 + k * 22 + 21, none⟩).isSome = true := by
          rcases H2.2.2.1.rd with q | ⟨o2, q1, q2⟩
          · dsimp only at q; omega
          · simp only [Option.some.injEq, Addr.mk.injEq, and_true, true_and] at q1
            subst q1
            rw [q2 k hlt 21 _ (by simp only [if_true]; rfl)]; rfl
        obtain ⟨v20, c20⟩ := Option.isSome_iff_exists.1 c20
        obtain ⟨v21, c21⟩ := Option.isSome_iff_exists.1 c21
        have z20 := H2.2.2.1.2.2.2 (o1 + k * 22 + 20)
        have z21 := H2.2.2.1.2.2.2 (o1 + k * 22 + 21)
        dsimp only at z20 z21
        rw [HC.out] at H3 hb3
        rw [HE.out x X hx hXe] at H3
        have HR : Hid (OnlyS (OfT b n f) w ((w4.setCell ⟨b, o1 + k * 22 + 20, none⟩ (.int .i64 (X + 1 + 1 + 1 + 1 + 1 + 1 + 1 + 1 + 1 + 1 + 1 + 1 + 1 + 1 + 1 + 1 + 1 + 1 + 1 + 7 * (x.ac.ln : Int)))).setCell ⟨b, o1 + k * 22 + 21, none⟩ (.int .i64 (X + 1 + 1 + 1 + 1 + 1 + 1 + 1 + 1 + 1 + 1 + 1 + 1 + 1 + 1 + 1 + 1 + 1 + 1 + 1 + 7 * (x.ac.ln : Int) + 1)))) := hb3
        have HO : Hid (OwnTb ((w4.setCell ⟨b, o1 + k * 22 + 20, none⟩ (.int .i64 (X + 1 + 1 + 1 + 1 + 1 + 1 + 1 + 1 + 1 + 1 + 1 + 1 + 1 + 1 + 1 + 1 + 1 + 1 + 1 + 7 * (x.ac.ln : Int)))).setCell ⟨b, o1 + k * 22 + 21, none⟩ (.int .i64 (X + 1 + 1 + 1 + 1 + 1 + 1 + 1 + 1 + 1 + 1 + 1 + 1 + 1 + 1 + 1 + 1 + 1 + 1 + 1 + 7 * (x.ac.ln : Int) + 1))) B ⟨some ⟨b, o1, none⟩, n, cap, b, tilE (k + 1) (fun i => mkF (f i) (mkN f k0 i)) f⟩) := H3
        clear H2 hb2 H3 hb3 HC HE hx hXe
        go_wp2
        go_roundw
        case rel => exact ⟨k + 1, by omega, by go_num, by rw [HN.out]; go_num, HR.out, HO.out⟩
        case measure => simp [intOf]; omega
    · obtain rfl : k = n := by omega
      have hr2 : OwnTb wr B ⟨p, k, cap, b, fun i => mkF (f i) (mkN f k0 i)⟩ := by
        obtain ⟨d1, d2, d3, d4, d5⟩ := hr
        have hA := fun i hi => tilE_all (n := k) (fun i => mkF (f i) (mkN f k0 i)) f (Nat.le_refl k) i hi
        refine ⟨d1, d2, d3.congr hA, fun i hi => ?_, fun i j hij hj => ?_⟩
        · have := d4 i hi; dsimp only at this hi; rw [hA i hi] at this; exact this
        · have := d5 i j hij hj; dsimp only at this hj; rw [hA i (by omega), hA j hj] at this; exact this
      go_wp2
      go_ret
      exact ⟨rfl, hb, hr2⟩
set_option maxHeartbeats 8000000 in
theorem heldEffectS_any (t : Tb) (k0 : Int) (w : World) {B : Nat} (hn : t.n ≤ 1048577) (hl : ∀ i, i < t.n → (t.f i).ac.ln ≤ 1048577) (hk0 : 0 ≤ k0) (hk1 : k0 ≤ 70368744177664) (h : OwnTb w B (mkT t k0)) :
    Calls Tryz.prog 14 #[.slice t.p t.n t.cap, .int .i64 k0] w fun e w' => e = .returned (.int .i64 (mkN t.f k0 t.n)) ∧ Below w.heap.size w w' := by
  obtain ⟨p, n, cap, b, f⟩ := t
  obtain ⟨_, _, h, hF, _⟩ := h
  unfold mkT at h hF
  dsimp only at h hF hn hl ⊢
  have RNG := fun i => mkN_rng f k0 n hl i
  go_enter Tryz.func14, Tryz.ntmps14
  go_wp2
  go_loopw [1, 5] (fun m i wr => ∃ k : Nat, k ≤ n ∧ i = .int .i64 k ∧ m = .int .i64 (mkN f k0 k) ∧ Below w.heap.size w wr) (fun _ i _ => n - (intOf i).toNat)
  case atStart => exact ⟨0, Nat.zero_le _, rfl, rfl, Below.refl _ _⟩
  case round =>
    obtain ⟨k, hk, rfl, rfl, hb⟩ := hrel
    by_cases hlt : k < n
    · rcases (h.grew hb).rd with h3 | ⟨o1, rfl, h3⟩
      · omega
      have hra : ∀ j v, (efC (mkF (f k) (mkN f k0 k)))[j]? = some v → wr.cell? ⟨b, o1 + k * 22 + j, none⟩ = some v := h3 k hlt
      have oE : RdE evC 7 wr (mkF (f k) (mkN f k0 k)).ac.lb (mkF (f k) (mkN f k0 k)).ac.la (mkF (f k) (mkN f k0 k)).ac.ln (mkF (f k) (mkN f k0 k)).ac.es := (OwnF.grew (hF k hlt).1 hb).2.2.rd
      have hlk := hl k hlt
      have hX := RNG k hk
      have HN : Hid (mkN f k0 (k + 1) = mkN f k0 k + 21 + 7 * ((f k).ac.ln : Int)) := (rfl : mkN f k0 (k + 1) = _)
      clear h3 RNG
      generalize f k = x at hra oE hlk HN
      generalize mkN f k0 k = X at hra oE hX HN ⊢
      have x1 : 0 ≤ X := by omega
      have x2 : X ≤ 140737488000000 := by omega
      have y1 : (0 : Int) ≤ (k : Int) := by omega
      have y2 : (k : Int) < (n : Int) := by omega
      obtain ⟨c0, c1, c2, c3, c4, c5, c6, c7, c8, c9, c10, c11, c12, c13, c14, c15, c16, c17, c18, c19, c20, c21⟩ : wr.cell? ⟨b, o1 + k * 22, none⟩ = some (.int .i64 (X)) ∧ wr.cell? ⟨b, o1 + k * 22 + 1, none⟩ = some (.int .i64 (X + 1)) ∧ wr.cell? ⟨b, o1 + k * 22 + 2, none⟩ = some (.int .i64 (X + 1 + 1)) ∧ wr.cell? ⟨b, o1 + k * 22 + 3, none⟩ = some (.int .i64 (X + 1 + 1 + 1)) ∧ wr.cell? ⟨b, o1 + k * 22 + 4, none⟩ = some (.int .i64 (X + 1 + 1 + 1 + 1)) ∧ wr.cell? ⟨b, o1 + k * 22 + 5, none⟩ = some (.int .i64 (X + 1 + 1 + 1 + 1 + 1)) ∧ wr.cell? ⟨b, o1 + k * 22 + 6, none⟩ = some (.int .i64 (X + 1 + 1 + 1 + 1 + 1 + 1)) ∧ wr.cell? ⟨b, o1 + k * 22 + 7, none⟩ = some (.int .i64 (X + 1 + 1 + 1 + 1 + 1 + 1 + 1)) ∧ wr.cell? ⟨b, o1 + k * 22 + 8, none⟩ = some (.int .i64 (X + 1 + 1 + 1 + 1 + 1 + 1 + 1 + 1)) ∧ wr.cell? ⟨b, o1 + k * 22 + 9, none⟩ = some (.int .i64 (X + 1 + 1 + 1 + 1 + 1 + 1 + 1 + 1 + 1)) ∧ wr.cell? ⟨b, o1 + k * 22 + 10, none⟩ = some (.int .i64 (X + 1 + 1 + 1 + 1 + 1 + 1 + 1 + 1 + 1 + 1)) ∧ wr.cell? ⟨b, o1 + k * 22 + 11, none⟩ = some (.int .i64 (X + 1 + 1 + 1 + 1 + 1 + 1 + 1 + 1 + 1 + 1 + 1)) ∧ wr.cell? ⟨b, o1 + k * 22 + 12, none⟩ = some (.int .i64 (X + 1 + 1 + 1 + 1 + 1 + 1 + 1 + 1 + 1 + 1 + 1 + 1)) ∧ wr.cell? ⟨b, o1 + k * 22 + 13, none⟩ = some (.int .i64 (X + 1 + 1 + 1 + 1 + 1 + 1 + 1 + 1 + 1 + 1 + 1 + 1 + 1)) ∧ wr.cell? ⟨b, o1 + k * 22 + 14, none⟩ = some (.int .i64 (X + 1 + 1 + 1 + 1 + 1 + 1 + 1 + 1 + 1 + 1 + 1 + 1 + 1 + 1)) ∧ wr.cell? ⟨b, o1 + k * 22 + 15, none⟩ = some (.int .i64 (X + 1 + 1 + 1 + 1 + 1 + 1 + 1 + 1 + 1 + 1 + 1 + 1 + 1 + 1 + 1)) ∧ wr.cell? ⟨b, o1 + k * 22 + 16, none⟩ = some (.int .i64 (X + 1 + 1 + 1 + 1 + 1 + 1 + 1 + 1 + 1 + 1 + 1 + 1 + 1 + 1 + 1 + 1)) ∧ wr.cell? ⟨b, o1 + k * 22 + 17, none⟩ = some (.int .i64 (X + 1 + 1 + 1 + 1 + 1 + 1 + 1 + 1 + 1 + 1 + 1 + 1 + 1 + 1 + 1 + 1 + 1)) ∧ wr.cell? ⟨b, o1 + k * 22 + 18, none⟩ = some (.bool ((X + 1 + 1 + 1 + 1 + 1 + 1 + 1 + 1 + 1 + 1 + 1 + 1 + 1 + 1 + 1 + 1 + 1 + 1) % 3 == 0)) ∧ wr.cell? ⟨b, o1 + k * 22 + 19, none⟩ = some (.slice x.ac.la x.ac.ln x.ac.lcap) ∧ wr.cell? ⟨b, o1 + k * 22 + 20, none⟩ = some (.int .i64 (X + 1 + 1 + 1 + 1 + 1 + 1 + 1 + 1 + 1 + 1 + 1 + 1 + 1 + 1 + 1 + 1 + 1 + 1 + 1 + 7 * (x.ac.ln : Int))) ∧ wr.cell? ⟨b, o1 + k * 22 + 21, none⟩ = some (.int .i64 (X + 1 + 1 + 1 + 1 + 1 + 1 + 1 + 1 + 1 + 1 + 1 + 1 + 1 + 1 + 1 + 1 + 1 + 1 + 1 + 7 * (x.ac.ln : Int) + 1)) := ⟨hra 0 _ rfl, hra 1 _ rfl, hra 2 _ rfl, hra 3 _ rfl, hra 4 _ rfl, hra 5 _ rfl, hra 6 _ rfl, hra 7 _ rfl, hra 8 _ rfl, hra 9 _ rfl, hra 10 _ rfl, hra 11 _ rfl, hra 12 _ rfl, hra 13 _ rfl, hra 14 _ rfl, hra 15 _ rfl, hra 16 _ rfl, hra 17 _ rfl, hra 18 _ rfl, hra 19 _ rfl, hra 20 _ rfl, hra 21 _ rfl⟩
      replace oE : RdE evC 7 wr x.ac.lb x.ac.la x.ac.ln (fun i => mkE (X + 1 + 1 + 1 + 1 + 1 + 1 + 1 + 1 + 1 + 1 + 1 + 1 + 1 + 1 + 1 + 1 + 1 + 1 + 1 + 7 * i)) := oE
      clear hra hF h
      have hx : ¬ X + 1 + 1 + 1 + 1 + 1 + 1 + 1 + 1 + 1 + 1 + 1 + 1 + 1 + 1 + 1 + 1 + 1 + 1 + 1 + 7 * (x.ac.ln : Int) < 0 := by omega
      go_wp2_with fail
      refine (heldEventS_any x.ac.la x.ac.lb x.ac.ln x.ac.lcap _ _ hlk (by omega) (by omega) oE).mono ?_
      rintro e w4 ⟨rfl, hb4⟩
      replace c20 := (RdE.keep hb4 c20)
      replace c21 := (RdE.keep hb4 c21)
      replace hb := below_app hb hb4 hb.size
      clear c0 c1 c2 c3 c4 c5 c6 c7 c8 c9 c10 c11 c12 c13 c14 c15 c16 c17 c18 c19 hb4 oE
      go_wp2
      go_roundw
      case rel => exact ⟨k + 1, by omega, by go_num, by rw [HN.out]; go_num, hb⟩
      case measure => simp [intOf]; omega
    · obtain rfl : k = n := by omega
      go_wp2
      go_ret
      exact ⟨rfl, hb⟩
end Go.Proofs.YtodfdfncdoliiauGreat
