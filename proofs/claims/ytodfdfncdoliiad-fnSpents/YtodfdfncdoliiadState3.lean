/-
  The laws' own helpers over rows of pieces and of sides. Written by tools/state3.gen.py. Own work.
-/
import Derived.Test.YtodfdfncdoliiadGState12
import Derived.Laws.IdiomCopy
import Derived.Deep.MidRow
namespace Go.Proofs.Ytodfdfncdoliiad
open Go.ChangeShapes Go.WideShapes Go.ChangeAt Go.RowKit
set_option maxRecDepth 100000
theorem Try.infoPc : (Try.prog.info? 78).map (fun i => (i.zero, i.size, i.bytes)) = some (some (.agg #[.int .i64 0, .int .i64 0, .int .i64 0, .int .i64 0, .int .i64 0, .int .i64 0, .int .i64 0, .int .i64 0, .int .i64 0, .int .i64 0, .int .i64 0, .bool false, .bool false]), 13, 96) := by kernel_rfl
theorem Try.infoSd : (Try.prog.info? 76).map (fun i => (i.zero, i.size, i.bytes)) = some (some (.agg #[.int .i64 0, .int .i64 0, .bool false]), 3, 24) := by kernel_rfl
def zP : Pc := ⟨0, 0, 0, 0, 0, 0, 0, 0, 0, 0, 0, false, false⟩
def zS : Sd := ⟨0, 0, false⟩

theorem made_pc (n : Nat) : (madeCells #[.int .i64 0, .int .i64 0, .int .i64 0, .int .i64 0, .int .i64 0, .int .i64 0, .int .i64 0, .int .i64 0, .int .i64 0, .int .i64 0, .int .i64 0, .bool false, .bool false] (n * 13)).toList = valsE pcC n (fun _ => zP) := by
  refine valsE_ext pcC_len (by simp [madeCells]) (fun i j hi hj => ?_)
  unfold madeCells
  have hlt : i * 13 + j < n * 13 := by omega
  simp only [Array.toList_map, Array.toList_range, List.getElem?_map, List.getElem?_range hlt, Option.map_some, List.size_toArray, List.length_cons, List.length_nil]
  rw [show (i * 13 + j) % (0 + 1 + 1 + 1 + 1 + 1 + 1 + 1 + 1 + 1 + 1 + 1 + 1 + 1) = j by omega]
  have : j = 0 ∨ j = 1 ∨ j = 2 ∨ j = 3 ∨ j = 4 ∨ j = 5 ∨ j = 6 ∨ j = 7 ∨ j = 8 ∨ j = 9 ∨ j = 10 ∨ j = 11 ∨ j = 12 := by omega
  rcases this with rfl | rfl | rfl | rfl | rfl | rfl | rfl | rfl | rfl | rfl | rfl | rfl | rfl <;> rfl
theorem made_sd (n : Nat) : (madeCells #[.int .i64 0, .int .i64 0, .bool false] (n * 3)).toList = valsE sdC n (fun _ => zS) := by
  refine valsE_ext sdC_len (by simp [madeCells]) (fun i j hi hj => ?_)
  unfold madeCells
  have hlt : i * 3 + j < n * 3 := by omega
  simp only [Array.toList_map, Array.toList_range, List.getElem?_map, List.getElem?_range hlt, Option.map_some, List.size_toArray, List.length_cons, List.length_nil]
  rw [show (i * 3 + j) % (0 + 1 + 1 + 1) = j by omega]
  have : j = 0 ∨ j = 1 ∨ j = 2 := by omega
  rcases this with rfl | rfl | rfl <;> rfl
theorem row_madeE {α : Type} {C : α → List Value} {m : Nat} {w : World} {B g : Nat} {e : TypeId} {n : Nat} {f : Nat → α} (h : w.ownsRow B e m (.slice (some ⟨g, 0, none⟩) n n) n (valsE C n f)) : w.heap[g]? = some (.cells (valsE C n f).toArray e (0, 0)) := by
  rcases h.2 with ⟨h', _⟩ | ⟨g', cap', cur, h', hb, hg, hnc, hcm, hcs, htake⟩
  · simp at h'
  · simp only [Value.slice.injEq, Option.some.injEq, Addr.mk.injEq, and_true, true_and] at h'
    obtain ⟨rfl, rfl⟩ := h'
    rw [List.take_of_length_le (by rw [Array.length_toList, hcs]; exact Nat.le_refl _)] at htake
    rw [hg, ← htake]
/-- cells set one by one -/
def putL (cur : Array Value) : Nat → List Value → Array Value
  | _, [] => cur
  | o, v :: r => putL (cur.setIfInBounds o v) (o + 1) r
theorem size_putL : ∀ (vs : List Value) (o : Nat) (cur : Array Value), (putL cur o vs).size = cur.size
  | [], _, _ => rfl
  | v :: r, o, cur => by unfold putL; rw [size_putL r, Array.size_setIfInBounds]
theorem get_putL : ∀ (vs : List Value) (o : Nat) (cur : Array Value) (k : Nat), o + vs.length ≤ cur.size → (putL cur o vs)[k]? = if o ≤ k ∧ k < o + vs.length then vs[k - o]? else cur[k]?
  | [], o, cur, k, _ => by
    unfold putL
    rw [if_neg (by simp)]
  | v :: r, o, cur, k, h => by
    simp only [List.length_cons] at h ⊢
    unfold putL
    rw [get_putL r (o + 1) _ k (by rw [Array.size_setIfInBounds]; omega)]
    by_cases h1 : o + 1 ≤ k ∧ k < o + 1 + r.length
    · rw [if_pos h1, if_pos (by omega), show k - o = (k - (o + 1)) + 1 by omega, List.getElem?_cons_succ]
    · rw [if_neg h1]
      by_cases h2 : k = o
      · subst h2
        rw [if_pos (by omega), Nat.sub_self]
        simp [show k < cur.size by omega]
      · rw [if_neg (by omega)]
        rw [Array.getElem?_setIfInBounds_ne (by omega)]
theorem heap_setCells (g : Nat) (t : TypeId) : ∀ (vs : List Value) (o : Nat) (cur : Array Value) (w : World), w.heap[g]? = some (.cells cur t (0, 0)) → (w.setCells g o vs).heap[g]? = some (.cells (putL cur o vs) t (0, 0))
  | [], _, _, _, h => h
  | v :: r, o, cur, w, h => by
    unfold World.setCells putL
    exact heap_setCells g t r (o + 1) _ _ (Go.heap_setCell_same w g o _ t v h)
theorem heap_setCells_ne (g k : Nat) (hk : k ≠ g) : ∀ (vs : List Value) (o : Nat) (w : World), (w.setCells g o vs).heap[k]? = w.heap[k]?
  | [], _, _ => rfl
  | v :: r, o, w => by
    unfold World.setCells
    rw [heap_setCells_ne g k hk r (o + 1) _]
    exact Below.heap_setCell w _ v k (by simpa using hk)
theorem size_setCells (g : Nat) : ∀ (vs : List Value) (o : Nat) (w : World), (w.setCells g o vs).heap.size = w.heap.size
  | [], _, _ => rfl
  | v :: r, o, w => by unfold World.setCells; rw [size_setCells g r]; simp [World.setCell]
theorem below_setCells' {B g : Nat} (hg : B ≤ g) {a : World} : ∀ (vs : List Value) (o : Nat) (w : World), Below B a w → Below B a (w.setCells g o vs)
  | [], _, _, h => h
  | v :: r, o, w, h => by unfold World.setCells; exact below_setCells' hg r (o + 1) _ (h.setCell hg v)
theorem there_row {w : World} {g : Nat} {t : TypeId} {cur : Array Value} (h : w.heap[g]? = some (.cells cur t (0, 0))) {o n : Nat} (hn : o + n ≤ cur.size) : w.there g o n := fun j hj =>
  ⟨by rw [cell_of_row w g (o + j) _ t (0, 0) h]; simp [show o + j < cur.size by omega], frozen_of_row w g (o + j) _ t h⟩
/-- one element put into a row -/
theorem row_putE {α : Type} {C : α → List Value} {m : Nat} (hm : ∀ x, (C x).length = m) {w : World} {g : Nat} {t : TypeId} {n : Nat} {f : Nat → α} (h : w.heap[g]? = some (.cells (valsE C n f).toArray t (0, 0))) (k : Nat) (x : α) (hk : k < n) :
    (w.setCells g (k * m) (C x)).heap[g]? = some (.cells (valsE C n (fun i => if i = k then x else f i)).toArray t (0, 0)) := by
  have hsz : (valsE C n f).toArray.size = n * m := by simp [valsE_len hm]
  have hkm : k * m + m ≤ n * m := by have : (k + 1) * m ≤ n * m := Nat.mul_le_mul_right m hk; rw [Nat.succ_mul] at this; exact this
  rw [heap_setCells g t (C x) (k * m) _ w h]
  congr 2
  apply Array.ext'
  refine valsE_ext hm (by rw [Array.length_toList, size_putL, hsz]) (fun i j hi hj => ?_)
  rw [Array.getElem?_toList, get_putL _ _ _ _ (by rw [hm, hsz]; exact hkm), hm]
  by_cases hik : i = k
  · subst hik
    rw [if_pos (by omega), if_pos rfl, show i * m + j - i * m = j by omega]
  · rw [if_neg hik]
    have hne : ¬ (k * m ≤ i * m + j ∧ i * m + j < k * m + m) := by
      rintro ⟨h1, h2⟩
      rcases Nat.lt_or_gt_of_ne hik with h3 | h3
      · have : (i + 1) * m ≤ k * m := Nat.mul_le_mul_right m h3
        rw [Nat.succ_mul] at this
        omega
      · have : (k + 1) * m ≤ i * m := Nat.mul_le_mul_right m h3
        rw [Nat.succ_mul] at this
        omega
    rw [if_neg hne, List.getElem?_toArray, valsE_get hm n f i j hi hj]
theorem tilE_step {α : Type} (k : Nat) (f g : Nat → α) : (fun i => if i = k then f k else tilE k f g i) = tilE (k + 1) f g := by
  funext i
  unfold tilE
  by_cases h : i = k
  · subst h; rw [if_pos rfl, if_pos (by omega)]
  · rw [if_neg h]
    by_cases h2 : i < k
    · rw [if_pos h2, if_pos (by omega)]
    · rw [if_neg h2, if_neg (by omega)]

def At13 (w : World) (b o : Nat) (p : Pc) : Prop := w.cell? ⟨b, o, none⟩ = some (.int .i64 p.id) ∧ w.cell? ⟨b, o + 1, none⟩ = some (.int .i64 p.ow) ∧ w.cell? ⟨b, o + 2, none⟩ = some (.int .i64 p.si) ∧ w.cell? ⟨b, o + 3, none⟩ = some (.int .i64 p.zo) ∧ w.cell? ⟨b, o + 4, none⟩ = some (.int .i64 p.st) ∧ w.cell? ⟨b, o + 5, none⟩ = some (.int .i64 p.po) ∧ w.cell? ⟨b, o + 6, none⟩ = some (.int .i64 p.to) ∧ w.cell? ⟨b, o + 7, none⟩ = some (.int .i64 p.tr) ∧ w.cell? ⟨b, o + 8, none⟩ = some (.int .i64 p.pl) ∧ w.cell? ⟨b, o + 9, none⟩ = some (.int .i64 p.mi) ∧ w.cell? ⟨b, o + 10, none⟩ = some (.int .i64 p.ma) ∧ w.cell? ⟨b, o + 11, none⟩ = some (.bool p.de) ∧ w.cell? ⟨b, o + 12, none⟩ = some (.bool p.be)
theorem At13_of {w : World} {b o : Nat} {p : Pc} (h : ∀ j v, (pcC p)[j]? = some v → w.cell? ⟨b, o + j, none⟩ = some v) : At13 w b o p := ⟨h 0 _ rfl, h 1 _ rfl, h 2 _ rfl, h 3 _ rfl, h 4 _ rfl, h 5 _ rfl, h 6 _ rfl, h 7 _ rfl, h 8 _ rfl, h 9 _ rfl, h 10 _ rfl, h 11 _ rfl, h 12 _ rfl⟩
def At3 (w : World) (b o : Nat) (p : Sd) : Prop := w.cell? ⟨b, o, none⟩ = some (.int .i64 p.li) ∧ w.cell? ⟨b, o + 1, none⟩ = some (.int .i64 p.po) ∧ w.cell? ⟨b, o + 2, none⟩ = some (.bool p.lo)
theorem At3_of {w : World} {b o : Nat} {p : Sd} (h : ∀ j v, (sdC p)[j]? = some v → w.cell? ⟨b, o + j, none⟩ = some v) : At3 w b o p := ⟨h 0 _ rfl, h 1 _ rfl, h 2 _ rfl⟩
end Go.Proofs.Ytodfdfncdoliiad
