/-
  Chapter 11: the specification's Expire (exL), Update (upF). Written by tools/tab.gen.py. Chapter 11: the specification's Drop (drN, drG). Written by tools/tab.gen.py. Own work.
-/
import Derived.Test.YtodfdfncdoliiauGreatTaG
import Derived.Deep.RegionHeld
import Derived.Deep.MidRow
namespace Go.Proofs.YtodfdfncdoliiauGreat
open Go.ChangeShapes Go.WideShapes Go.ChangeAt Go.RowKit
set_option maxRecDepth 100000
set_option linter.unusedVariables false
set_option linter.unusedSimpArgs false

/-- the places of those that live -/
def exL (f : Nat → Ef) (c : Int) : Nat → List Nat
  | 0 => []
  | k + 1 => if lvE (f k) c = true then exL f c k ++ [k] else exL f c k
theorem exL_lt (f : Nat → Ef) (c : Int) : ∀ n, ∀ i ∈ exL f c n, i < n
  | 0, i, h => by simp [exL] at h
  | n + 1, i, h => by
    simp only [exL] at h
    split at h
    · rcases List.mem_append.1 h with h | h
      · have := exL_lt f c n i h; omega
      · simp at h; omega
    · have := exL_lt f c n i h; omega
theorem exL_len (f : Nat → Ef) (c : Int) : ∀ n, (exL f c n).length ≤ n
  | 0 => Nat.le_refl _
  | n + 1 => by have := exL_len f c n; simp only [exL]; split <;> simp <;> omega
def exF (L : List Nat) (f : Nat → Ef) : Nat → Ef := fun i => f (L.getD i 0)
theorem exF_snoc (L : List Nat) (k : Nat) (f : Nat → Ef) : ∀ i, i < L.length + 1 → (if i < L.length then exF L f i else f k) = exF (L ++ [k]) f i := fun i hi => by
  unfold exF
  by_cases h : i < L.length
  · rw [if_pos h]; congr 1
    rw [List.getD_eq_getElem?_getD, List.getD_eq_getElem?_getD, List.getElem?_append_left h]
  · rw [if_neg h]; congr 1
    obtain rfl : i = L.length := by omega
    rw [List.getD_eq_getElem?_getD, List.getElem?_append_right (Nat.le_refl _)]
    simp
theorem eaN_cases (f : Nat → Ef) (id : Int) (n : Nat) : (eaN f id n = -1 ∧ ∀ j, j < n → (f j).id ≠ id) ∨ ∃ k, k < n ∧ eaN f id n = k ∧ (f k).id = id ∧ ∀ j, j < k → (f j).id ≠ id := by
  by_cases h : ∃ k, k < n ∧ (f k).id = id
  · have : ∃ k, (k < n ∧ (f k).id = id) ∧ ∀ j, j < k → ¬ (j < n ∧ (f j).id = id) := by
      obtain ⟨k, hk⟩ := h
      induction k using Nat.strongRecOn with
      | ind k ih =>
        by_cases h2 : ∃ j, j < k ∧ (j < n ∧ (f j).id = id)
        · obtain ⟨j, hj, hj2⟩ := h2; exact ih j hj hj2
        · exact ⟨k, hk, fun j hj hj2 => h2 ⟨j, hj, hj2⟩⟩
    obtain ⟨k, ⟨hk, he⟩, hm⟩ := this
    have hm2 : ∀ j, j < k → (f j).id ≠ id := fun j hj e => hm j hj ⟨by omega, e⟩
    exact .inr ⟨k, hk, eaN_hit hk hm2 he, he, hm2⟩
  · have hm : ∀ j, j < n → (f j).id ≠ id := fun j hj e => h ⟨j, hj, e⟩
    exact .inl ⟨eaN_miss hm, hm⟩
def upF (n : Nat) (f : Nat → Ef) (x : Ef) : Nat → Ef := fun i => if (i : Int) = eaN f x.id n then x else f i
theorem OwnTb.down {w : World} {B B' : Nat} {t : Tb} (h : OwnTb w B t) (hB : B' ≤ B) : OwnTb w B' t := ⟨h.1, h.2.1, ⟨Nat.le_trans hB h.2.2.1.1, h.2.2.1.2⟩, fun i hi => ⟨OwnF.down (h.2.2.2.1 i hi).1 hB, (h.2.2.2.1 i hi).2⟩, h.2.2.2.2⟩
theorem OwnTb.put {w w2 : World} {B b off n cap : Nat} {f : Nat → Ef} {y : Ef} (h : OwnTb w B ⟨some ⟨b, off, none⟩, n, cap, b, f⟩) (hb : Below w.heap.size w w2) (hB : B ≤ w.heap.size) (oy : OwnF w2 w.heap.size y) (k : Nat) (hk : k < n) :
    OwnTb (w2.setCells b (off + k * 22) (efC y)) B ⟨some ⟨b, off, none⟩, n, cap, b, fun i => if i = k then y else f i⟩ := by
  have hl := oy.lt
  obtain ⟨c1, c2, c3, c4, c5⟩ := h
  dsimp only at c1 c2 c3 c4 c5
  have hbl := c3.2.1
  refine ⟨c1, c2, (c3.grew hb).putE efC_len k hk y, fun i hi => ?_, fun i j hij hj => ?_⟩
  · dsimp only at hi ⊢
    by_cases hik : i = k
    · simp only [if_pos hik]
      exact ⟨OwnF.down (OwnA.setL oy (by omega) _ _) hB, by omega⟩
    · simp only [if_neg hik]
      exact ⟨OwnA.setL (OwnF.grew (c4 i hi).1 hb) (c4 i hi).2 _ _, (c4 i hi).2⟩
  · dsimp only at hj ⊢
    by_cases hik : i = k
    · have hjk : ¬ j = k := by omega
      simp only [if_pos hik, if_neg hjk]
      have := ((c4 j hj).1.lt).2
      omega
    · by_cases hjk : j = k
      · simp only [if_neg hik, if_pos hjk]
        have := ((c4 i (by omega)).1.lt).2
        omega
      · simp only [if_neg hik, if_neg hjk]
        exact c5 i j hij hj
end Go.Proofs.YtodfdfncdoliiauGreat
namespace Go.Proofs.YtodfdfncdoliiauGreat
open Go.ChangeShapes Go.WideShapes Go.ChangeAt Go.RowKit
set_option maxRecDepth 100000
set_option linter.unusedVariables false
set_option linter.unusedSimpArgs false

theorem wp_append_own_at {P : Program} {w : World} {o : Oper} {a : Act} {K : Act → World → Prop} {Q : Exit → Act → World → Prop} (s x : Operand) (t : TypeId)
    (ho : o.op = .call { callee := .builtin .append, args := #[s, x], argTypes := #[t, t] })
    (base : Nat) (e : TypeId) (i : TypeInfo) (z : Value) (size bytes : Nat) (ht : P.underlying t = some (.slice e)) (hi : P.info? e = some i) (hz : i.zero = some z)
    (hsize : i.size = size) (hby : i.bytes = bytes) (hzs : z.cells.size = size) (hsz : 0 < size)
    (v : Value) (n : Nat) (xs : List Value) (hs : a.eval s = v) (hown : w.ownsRow base e size v n xs)
    (ad : Addr) (m c : Nat) (news : List Value) (hx : a.eval x = .slice (some ad) m c) (hl : news.length = m * size) (hnews : ∀ j u, news[j]? = some u → w.cell? (ad.add j) = some u) (h1 : ∀ u ∈ news, u.oneCell' = true)
    (h63 : n + m ≤ maxLen) (hbytes : (n + m) * bytes ≤ 140737488355328) (hbase : base ≤ w.heap.size)
    (h : ∀ v' w', w'.ownsRow base e size v' (n + m) (xs ++ news) → w.grownBy w' v.ownBlock → (v' = .slice none 0 0 ↔ v = .slice none 0 0 ∧ m = 0) → (v'.ownBlock = v.ownBlock ∨ v'.ownBlock = some w.heap.size) → K (a.put o.dst v') w') :
    o.wp P a w K Q := by
  obtain ⟨v', w', hr, h2, h3, h4, h5⟩ := run_append_own_at (P := P) w base t o.type e i z size bytes ht hi hz hsize hby hzs hsz v n xs hown ad m c news hl hnews h1 h63 hbytes hbase
  unfold Oper.wp execOp
  simp only [ho, resolve, invoke, builtin, Sem.run_bind, Sem.run_pure, Result.andThen_ok, List.map_toArray, List.map_cons, List.map_nil, hs, hx, hr]
  exact h v' w' h2 h3 h4 h5
def drN (f : Nat → Ef) (id : Int) (n : Nat) : Nat := if 0 ≤ eaN f id n then n - 1 else n
def drG (f : Nat → Ef) (id : Int) (n : Nat) : Nat → Ef := if 0 ≤ eaN f id n then dpF (eaN f id n).toNat f else f
end Go.Proofs.YtodfdfncdoliiauGreat
