/-
  Words for slices of numbers: what a slice reads (Rd), that its block is not frozen (Free), what a row of the call's own holds (vals), and how two rows are laid together (cat, spl). Own work.
-/
import Derived.Test.YtodfdfncdoliiauGCur2
import Derived.Laws.CopyOwn
namespace Go.Proofs.Ytodfdfncdoliiau
open Go.ChangeShapes Go.WideShapes Go.ChangeAt Go.RowKit
set_option maxRecDepth 100000

/-- the slice at 'a', of n elements of kind k, reads f, in block b -/
def Rd (k : IntKind) (w : World) (b : Nat) (a : Option Addr) (n : Nat) (f : Nat → Int) : Prop :=
  n = 0 ∨ ∃ off : Nat, a = some ⟨b, off, none⟩ ∧ ∀ i, i < n → w.cell? ⟨b, off + i, none⟩ = some (.int k (f i))
def Free (w : World) (b : Nat) : Prop := ∀ j, w.frozen? ⟨b, j, none⟩ = false
/-- a slice of the call's own: its block lies from B on, and is there -/
def Own (k : IntKind) (w : World) (B b : Nat) (a : Option Addr) (n : Nat) (f : Nat → Int) : Prop := B ≤ b ∧ b < w.heap.size ∧ Rd k w b a n f ∧ Free w b

theorem Rd.same {k : IntKind} {w w' : World} {b : Nat} {a : Option Addr} {n : Nat} {f : Nat → Int} (h : Rd k w b a n f) (e : w'.heap[b]? = w.heap[b]?) : Rd k w' b a n f := by
  rcases h with h | ⟨off, ha, hc⟩
  · exact .inl h
  · exact .inr ⟨off, ha, fun i hi => (World.cell?_of_block (w := w) (a := ⟨b, off + i, none⟩) e).trans (hc i hi)⟩
theorem Rd.congr {k : IntKind} {w : World} {b : Nat} {a : Option Addr} {n : Nat} {f g : Nat → Int} (h : Rd k w b a n f) (e : ∀ i, i < n → f i = g i) : Rd k w b a n g := by
  rcases h with h | ⟨off, ha, hc⟩
  · exact .inl h
  · exact .inr ⟨off, ha, fun i hi => by rw [← e i hi]; exact hc i hi⟩
theorem Rd.lt {k : IntKind} {w : World} {b : Nat} {a : Option Addr} {n : Nat} {f : Nat → Int} (h : Rd k w b a n f) (hn : 0 < n) : b < w.heap.size := by
  rcases h with h | ⟨off, ha, hc⟩
  · omega
  · exact World.block_lt_of_cell? w _ (hc 0 hn)
theorem Rd.below {k : IntKind} {w w' : World} {b B : Nat} {a : Option Addr} {n : Nat} {f : Nat → Int} (h : Rd k w b a n f) (hb : Below B w w') (hB : b < B) : Rd k w' b a n f := h.same (hb.block b hB)
/-- what was there before stays, where at most new blocks came -/
theorem Rd.grew {k : IntKind} {w w' : World} {b : Nat} {a : Option Addr} {n : Nat} {f : Nat → Int} (h : Rd k w b a n f) (hb : Below w.heap.size w w') : Rd k w' b a n f := by
  by_cases hn : 0 < n
  · exact h.below hb (h.lt hn)
  · exact .inl (by omega)
theorem Free.same {w w' : World} {b : Nat} (h : Free w b) (e : w'.heap[b]? = w.heap[b]?) : Free w' b := fun j => (World.frozen?_of_block (w := w) (a := ⟨b, j, none⟩) e).trans (h j)
theorem Own.same {k : IntKind} {w w' : World} {B b : Nat} {a : Option Addr} {n : Nat} {f : Nat → Int} (h : Own k w B b a n f) (e : w'.heap[b]? = w.heap[b]?) (hs : w.heap.size ≤ w'.heap.size) : Own k w' B b a n f :=
  ⟨h.1, Nat.lt_of_lt_of_le h.2.1 hs, h.2.2.1.same e, h.2.2.2.same e⟩
theorem Own.grew {k : IntKind} {w w' : World} {B b : Nat} {a : Option Addr} {n : Nat} {f : Nat → Int} (h : Own k w B b a n f) (hb : Below w.heap.size w w') : Own k w' B b a n f := h.same (hb.block b h.2.1) hb.size
theorem Own.only {k : IntKind} {w w' : World} {B b p : Nat} {a : Option Addr} {n : Nat} {f : Nat → Int} (h : Own k w B b a n f) (hb : Only p w w') (hp : b ≠ p) : Own k w' B b a n f := h.same (hb.block b h.2.1 hp) hb.size
theorem Own.rd {k : IntKind} {w : World} {B b : Nat} {a : Option Addr} {n : Nat} {f : Nat → Int} (h : Own k w B b a n f) : Rd k w b a n f := h.2.2.1
theorem Rd.only {k : IntKind} {w w' : World} {b p : Nat} {a : Option Addr} {n : Nat} {f : Nat → Int} (h : Rd k w b a n f) (hb : Only p w w') (hp : b ≠ p) : Rd k w' b a n f := by
  by_cases hn : 0 < n
  · exact h.same (hb.block b (h.lt hn) hp)
  · exact .inl (by omega)
theorem below_app {B C : Nat} {a b c : World} (h : Below B a b) (k : Below C b c) (hB : B ≤ C) : Below B a c := h.trans (k.mono hB)

/-- the cells of n numbers -/
def vals (k : IntKind) (n : Nat) (f : Nat → Int) : List Value := (List.range n).map (fun i => .int k (f i))
def cat (n : Nat) (f g : Nat → Int) : Nat → Int := fun i => if i < n then f i else g (i - n)
def spl (f : Nat → Int) (off m : Nat) (g : Nat → Int) : Nat → Int := fun i => if off ≤ i ∧ i < off + m then g (i - off) else f i
theorem vals_len (k : IntKind) (n : Nat) (f : Nat → Int) : (vals k n f).length = n := by simp [vals]
theorem vals_get (k : IntKind) (n : Nat) (f : Nat → Int) (j : Nat) : (vals k n f)[j]? = if j < n then some (.int k (f j)) else none := by
  unfold vals
  rw [List.getElem?_map]
  by_cases h : j < n
  · simp [h]
  · simp [h]
theorem vals_one (k : IntKind) (n : Nat) (f : Nat → Int) : ∀ u ∈ vals k n f, u.oneCell' = true := by
  intro u hu
  simp only [vals, List.mem_map] at hu
  obtain ⟨i, _, rfl⟩ := hu
  rfl
theorem vals_ext {k : IntKind} {n : Nat} {L : List Value} {f : Nat → Int} (hl : L.length = n) (h : ∀ j, j < n → L[j]? = some (.int k (f j))) : L = vals k n f := by
  apply List.ext_getElem?
  intro j
  rw [vals_get]
  by_cases hj : j < n
  · rw [if_pos hj]; exact h j hj
  · rw [if_neg hj]; exact List.getElem?_eq_none (by omega)
theorem vals_congr {k : IntKind} {n : Nat} {f g : Nat → Int} (h : ∀ i, i < n → f i = g i) : vals k n f = vals k n g :=
  vals_ext (vals_len _ _ _) (fun j hj => by rw [vals_get, if_pos hj, h j hj])
theorem vals_cat (k : IntKind) (n m : Nat) (f g : Nat → Int) : vals k n f ++ vals k m g = vals k (n + m) (cat n f g) := by
  refine vals_ext (by simp [vals_len]) (fun j hj => ?_)
  unfold cat
  by_cases h : j < n
  · rw [List.getElem?_append_left (by rw [vals_len]; exact h), vals_get, if_pos h, if_pos h]
  · rw [List.getElem?_append_right (by rw [vals_len]; omega), vals_len, vals_get, if_pos (by omega), if_neg h]
theorem vals_spl (k : IntKind) (n m off : Nat) (f g : Nat → Int) (h : off + m ≤ n) : splice (vals k n f) off (vals k m g) = vals k n (spl f off m g) := by
  refine vals_ext (by rw [length_splice _ _ _ (by rw [vals_len, vals_len]; exact h), vals_len]) (fun j hj => ?_)
  unfold splice spl
  by_cases h1 : j < off
  · rw [List.getElem?_append_left (by rw [List.length_take, vals_len]; omega), List.getElem?_take, if_pos h1, vals_get, if_pos hj, if_neg (by omega)]
  · have el : ((vals k n f).take off).length = off := by rw [List.length_take, vals_len]; omega
    rw [List.getElem?_append_right (by rw [el]; omega), el]
    by_cases h2 : j < off + m
    · rw [List.getElem?_append_left (by rw [vals_len]; omega), vals_get, if_pos (by omega), if_pos (by omega)]
    · rw [List.getElem?_append_right (by rw [vals_len]; omega), List.getElem?_drop, vals_len, vals_get, if_pos (by omega), if_neg (by omega)]
      rw [show off + m + (j - off - m) = j by omega]
/-- a row that is known whole -/
theorem rd_row {k : IntKind} {w : World} {g : Nat} {t : TypeId} {n : Nat} {f : Nat → Int} (h : w.heap[g]? = some (.cells (vals k n f).toArray t (0, 0))) : Rd k w g (some ⟨g, 0, none⟩) n f := by
  refine .inr ⟨0, rfl, fun i hi => ?_⟩
  rw [Nat.zero_add, cell_of_row w g i _ t (0, 0) h]
  simp only [List.getElem?_toArray]
  rw [vals_get, if_pos hi]
theorem free_row {w : World} {g : Nat} {t : TypeId} {cs : Array Value} (h : w.heap[g]? = some (.cells cs t (0, 0))) : Free w g := fun j => frozen_of_row w g j cs t h
theorem lt_row {w : World} {g : Nat} {o : Obj} (h : w.heap[g]? = some o) : g < w.heap.size := (Array.getElem?_eq_some_iff.1 h).1
theorem own_row {k : IntKind} {w : World} {B g : Nat} {t : TypeId} {n : Nat} {f : Nat → Int} (h : w.heap[g]? = some (.cells (vals k n f).toArray t (0, 0))) (hB : B ≤ g) : Own k w B g (some ⟨g, 0, none⟩) n f :=
  ⟨hB, lt_row h, rd_row h, free_row h⟩
/-- out of the library's word for what the call owns -/
theorem own_of {k : IntKind} {w : World} {B : Nat} {e : TypeId} {v : Value} {n : Nat} {f : Nat → Int} (h : w.ownsRow B e 1 v n (vals k n f)) (hv : v ≠ .slice none 0 0) : ∃ g cap, v = .slice (some ⟨g, 0, none⟩) n cap ∧ Own k w B g (some ⟨g, 0, none⟩) n f := by
  rcases h.2 with ⟨h', _⟩ | ⟨g, cap, cur, rfl, hB, hg, hn, hm, hcs, ht⟩
  · exact absurd h' hv
  · refine ⟨g, cap, rfl, hB, lt_row hg, .inr ⟨0, rfl, fun i hi => ?_⟩, free_row hg⟩
    have := h.cellAt (g := g) i (by omega)
    rw [Nat.zero_add, this, vals_get, if_pos hi]
theorem own_of_cap {k : IntKind} {w : World} {B : Nat} {e : TypeId} {v : Value} {n : Nat} {f : Nat → Int} (h : w.ownsRow B e 1 v n (vals k n f)) (hv : v ≠ .slice none 0 0) : ∃ g cap, v = .slice (some ⟨g, 0, none⟩) n cap ∧ n ≤ cap ∧ Own k w B g (some ⟨g, 0, none⟩) n f := by
  obtain ⟨g, cap, rfl, ho⟩ := own_of h hv
  refine ⟨g, cap, rfl, ?_, ho⟩
  rcases h.2 with ⟨h', _⟩ | ⟨g', cap', cur, h', _, _, hn, _⟩
  · exact absurd h' hv
  · simp only [Value.slice.injEq, Option.some.injEq, Addr.mk.injEq, and_true, true_and] at h'
    obtain ⟨_, rfl⟩ := h'
    exact hn
theorem vals_one_snoc' (k : IntKind) (n : Nat) (f : Nat → Int) : vals k (n + 1) f = vals k n f ++ [.int k (f n)] := by
  symm
  refine vals_ext (by simp [vals_len]) (fun j hj => ?_)
  by_cases h : j < n
  · rw [List.getElem?_append_left (by rw [vals_len]; exact h), vals_get, if_pos h]
  · rw [List.getElem?_append_right (by rw [vals_len]; omega), vals_len, show j - n = 0 by omega]
    obtain rfl : j = n := by omega
    rfl
/-- up to place k as f has it, from there on as g has it -/
def til (k : Nat) (f g : Nat → Int) : Nat → Int := fun i => if i < k then f i else g i
theorem til_zero (f g : Nat → Int) : til 0 f g = g := by funext i; simp [til]
theorem til_step (k : Nat) (f g : Nat → Int) : (fun i => if i = k then f k else til k f g i) = til (k + 1) f g := by
  funext i
  unfold til
  by_cases h : i = k
  · subst h; rw [if_pos rfl, if_pos (by omega)]
  · rw [if_neg h]
    by_cases h2 : i < k
    · rw [if_pos h2, if_pos (by omega)]
    · rw [if_neg h2, if_neg (by omega)]
theorem til_all {n k : Nat} (f g : Nat → Int) (h : n ≤ k) : ∀ i, i < n → til k f g i = f i := fun i hi => by unfold til; rw [if_pos (by omega)]
theorem Own.congr {k : IntKind} {w : World} {B b : Nat} {a : Option Addr} {n : Nat} {f g : Nat → Int} (h : Own k w B b a n f) (e : ∀ i, i < n → f i = g i) : Own k w B b a n g := ⟨h.1, h.2.1, h.2.2.1.congr e, h.2.2.2⟩
theorem Own.put {k : IntKind} {w : World} {B b off : Nat} {n : Nat} {f : Nat → Int} (h : Own k w B b (some ⟨b, off, none⟩) n f) (j : Nat) (x : Int) : Own k (w.setCell ⟨b, off + j, none⟩ (.int k x)) B b (some ⟨b, off, none⟩) n (fun i => if i = j then x else f i) := by
  obtain ⟨h1, h2, h3, h4⟩ := h
  refine ⟨h1, by simpa [World.setCell] using h2, ?_, fun i => (World.frozen?_setCell _ _ _ _).trans (h4 i)⟩
  rcases h3 with h3 | ⟨o, e, hc⟩
  · exact .inl h3
  · simp only [Option.some.injEq, Addr.mk.injEq, and_true, true_and] at e
    subst e
    refine .inr ⟨off, rfl, fun i hi => ?_⟩
    show _ = some (Value.int k (if i = j then x else f i))
    by_cases hj : i = j
    · subst hj; rw [if_pos rfl]; exact World.cell?_setCell_same _ _ _ (hc i hi)
    · rw [if_neg hj, World.cell?_setCell_other _ _ _ _ (by simp)]; exact hc i hi
theorem Own.cell {k : IntKind} {w : World} {B b off : Nat} {n : Nat} {f : Nat → Int} (h : Own k w B b (some ⟨b, off, none⟩) n f) (j : Nat) (hj : j < n) : w.cell? ⟨b, off + j, none⟩ = some (.int k (f j)) := by
  rcases h.2.2.1 with h3 | ⟨o, e, hc⟩
  · omega
  · simp only [Option.some.injEq, Addr.mk.injEq, and_true, true_and] at e
    subst e
    exact hc j hj
theorem made_vals (k : IntKind) (n : Nat) : (madeCells #[Value.int k 0] n).toList = vals k n (fun _ => 0) := by
  rw [toList_madeCells_one]
  exact vals_ext (by simp) (fun j hj => by simp [hj])
/-- what a slice reads, as a source of a copy or an append -/
theorem Rd.src {k : IntKind} {w : World} {b : Nat} {a : Option Addr} {n : Nat} {f : Nat → Int} (h : Rd k w b a n f) (hn : 0 < n) : ∃ ad, a = some ad ∧ ∀ j u, (vals k n f)[j]? = some u → w.cell? (ad.add j) = some u := by
  rcases h with h | ⟨off, rfl, hc⟩
  · omega
  · refine ⟨_, rfl, fun j u hu => ?_⟩
    rw [vals_get] at hu
    by_cases hj : j < n
    · rw [if_pos hj] at hu
      have e : (⟨b, off, none⟩ : Addr).add j = ⟨b, off + j, none⟩ := by unfold Addr.add; split <;> simp_all
      rw [e, hc j hj]; exact hu
    · rw [if_neg hj] at hu; cases hu
theorem Try.infoU8 : (Try.prog.info? 5).map (fun i => (i.zero, i.size, i.bytes)) = some (some (.int .u8 0), 1, 1) := by kernel_rfl
theorem Try.infoInt : (Try.prog.info? 3).map (fun i => (i.zero, i.size, i.bytes)) = some (some (.int .i64 0), 1, 8) := by kernel_rfl
end Go.Proofs.Ytodfdfncdoliiau
