/-
  Words for a state: its sides, rows of structs (RdE, OwnE), and how a law's own state is opened. Written by tools/state1.gen.py. Rows of structs as lists of cells (valsE). The laws' own helpers over rows of pieces and of sides. Written by tools/state3.gen.py. Own work.
-/
import Derived.Test.YtodfdfncdoliiadGreatGCur5
import Derived.Deep.Slices
import Derived.Laws.IdiomCopy
import Derived.Deep.MidRow
namespace Go.Proofs.YtodfdfncdoliiadGreat
open Go.ChangeShapes Go.WideShapes Go.ChangeAt Go.RowKit
set_option maxRecDepth 100000

structure Sd where
  (li po : Int)
  (lo : Bool)
def Sd.wf (s : Sd) : Prop := (Lit.int .i64 s.li).wf = true ∧ (Lit.int .i64 s.po).wf = true
/-- the cells of a piece, of a side -/
def pcC (p : Pc) : List Value := [.int .i64 p.id, .int .i64 p.ow, .int .i64 p.si, .int .i64 p.zo, .int .i64 p.st, .int .i64 p.po, .int .i64 p.to, .int .i64 p.tr, .int .i64 p.pl, .int .i64 p.mi, .int .i64 p.ma, .bool p.de, .bool p.be]
def sdC (s : Sd) : List Value := [.int .i64 s.li, .int .i64 s.po, .bool s.lo]
/-- the slice at 'a', of n elements of m cells each, reads f, in block b; C: an element's cells -/
def RdE {α : Type} (C : α → List Value) (m : Nat) (w : World) (b : Nat) (a : Option Addr) (n : Nat) (f : Nat → α) : Prop :=
  n = 0 ∨ ∃ off : Nat, a = some ⟨b, off, none⟩ ∧ ∀ i, i < n → ∀ j v, (C (f i))[j]? = some v → w.cell? ⟨b, off + i * m + j, none⟩ = some v
def OwnE {α : Type} (C : α → List Value) (m : Nat) (w : World) (B b : Nat) (a : Option Addr) (n : Nat) (f : Nat → α) : Prop := B ≤ b ∧ b < w.heap.size ∧ RdE C m w b a n f ∧ Free w b
section
variable {α : Type} {C : α → List Value} {m : Nat} {w w' : World} {b B : Nat} {a : Option Addr} {n : Nat} {f g : Nat → α}
theorem RdE.same (h : RdE C m w b a n f) (e : w'.heap[b]? = w.heap[b]?) : RdE C m w' b a n f := by
  rcases h with h | ⟨off, ha, hc⟩
  · exact .inl h
  · exact .inr ⟨off, ha, fun i hi j v hv => (World.cell?_of_block (w := w) (a := ⟨b, off + i * m + j, none⟩) e).trans (hc i hi j v hv)⟩
theorem RdE.congr (h : RdE C m w b a n f) (e : ∀ i, i < n → f i = g i) : RdE C m w b a n g := by
  rcases h with h | ⟨off, ha, hc⟩
  · exact .inl h
  · exact .inr ⟨off, ha, fun i hi => by rw [← e i hi]; exact hc i hi⟩
theorem RdE.lt (h : RdE C m w b a n f) (hn : 0 < n) (hC : ∀ x, C x ≠ []) : b < w.heap.size := by
  rcases h with h | ⟨off, ha, hc⟩
  · omega
  · cases e : C (f 0) with
    | nil => exact absurd e (hC _)
    | cons v l => exact World.block_lt_of_cell? w _ (hc 0 hn 0 v (by rw [e]; rfl))
theorem RdE.grew (h : RdE C m w b a n f) (hC : ∀ x, C x ≠ []) (hb : Below w.heap.size w w') : RdE C m w' b a n f := by
  by_cases hn : 0 < n
  · exact h.same (hb.block b (h.lt hn hC))
  · exact .inl (by omega)
theorem RdE.first (h : RdE C m w b a n f) {k : Nat} (hk : k ≤ n) : RdE C m w b a k f := by
  rcases h with h | ⟨off, ha, hc⟩
  · exact .inl (by omega)
  · exact .inr ⟨off, ha, fun i hi => hc i (by omega)⟩
theorem OwnE.same (h : OwnE C m w B b a n f) (e : w'.heap[b]? = w.heap[b]?) (hs : w.heap.size ≤ w'.heap.size) : OwnE C m w' B b a n f := ⟨h.1, Nat.lt_of_lt_of_le h.2.1 hs, h.2.2.1.same e, h.2.2.2.same e⟩
theorem OwnE.grew (h : OwnE C m w B b a n f) (hb : Below w.heap.size w w') : OwnE C m w' B b a n f := h.same (hb.block b h.2.1) hb.size
theorem OwnE.rd (h : OwnE C m w B b a n f) : RdE C m w b a n f := h.2.2.1
end
theorem pcC_ne (p : Pc) : pcC p ≠ [] := by unfold pcC; simp
theorem sdC_ne (s : Sd) : sdC s ≠ [] := by unfold sdC; simp
section
variable {H : Type} {enc : TypeId × Value → H} {P : Program} {w : World} {base : Nat} {spare : TypeId → Bool} {held : Bool}
/-- a struct whose fields are of one cell each, in a row: each field's reading -/
theorem open_cells1 {t : TypeId} {fs : Array Field} {cs : List Value} {x : DataW H × List MemPlace} {fuel : Nat} (hs : P.underlying t = some (.struct fs)) (hone : Deep.oneCellFields P fs = true)
    (h : DataW.trod enc P w base spare held fuel t cs = some x) : ∀ (i : Nat) (f : Field) (c : Value), fs[i]? = some f → cs[i]? = some c → ∃ n y, DataW.trod enc P w base spare held n f.type [c] = some y := by
  obtain ⟨xs, n, _, _, _, hlen, hx⟩ := DataW.trod_struct hs h
  intro i f c hfi hci
  obtain ⟨o, k⟩ := Deep.hone_of hone i f hfi
  have h1 := hx i f hfi
  have hi : i < xs.length := by rw [hlen]; exact (Array.getElem?_eq_some_iff.1 hfi).1
  rw [List.getElem?_eq_getElem hi, o, k] at h1
  have hc : (cs.drop i).take 1 = [c] := by
    obtain ⟨hl, rfl⟩ := List.getElem?_eq_some_iff.1 hci
    rw [List.drop_eq_getElem_cons hl]; rfl
  rw [hc] at h1
  exact ⟨n, _, h1⟩
end

theorem list3 {α : Type} : ∀ {l : List α}, l.length = 3 → ∃ a b c, l = [a, b, c]
  | [a, b, c], _ => ⟨a, b, c, rfl⟩
/-- a state as it came in -/
structure Stt where
  (pa : Option Addr)
  (pn pcap pb : Nat)
  (ps : Nat → Pc)
  (sa : Option Addr)
  (sn scap sb : Nat)
  (ss : Nat → Sd)
  (ac cl : Int)
def Stt.ok (s : Stt) (w : World) : Prop := s.pn ≤ s.pcap ∧ s.pcap ≤ maxLen ∧ RdE pcC 13 w s.pb s.pa s.pn s.ps ∧ s.sn ≤ s.scap ∧ s.scap ≤ maxLen ∧ RdE sdC 3 w s.sb s.sa s.sn s.ss ∧ (Lit.int .i64 s.ac).wf = true ∧ (Lit.int .i64 s.cl).wf = true ∧ (∀ i, i < s.pn → (s.ps i).wf) ∧ (∀ i, i < s.sn → (s.ss i).wf)
theorem list4 {α : Type} : ∀ {l : List α}, l.length = 4 → ∃ a b c d, l = [a, b, c, d]
  | [a, b, c, d], _ => ⟨a, b, c, d, rfl⟩
end Go.Proofs.YtodfdfncdoliiadGreat
namespace Go.Proofs.YtodfdfncdoliiadGreat
open Go.ChangeShapes Go.WideShapes Go.ChangeAt Go.RowKit
set_option maxRecDepth 100000

/-- the cells of n elements, laid end to end -/
def valsE {α : Type} (C : α → List Value) (n : Nat) (f : Nat → α) : List Value := (List.range n).flatMap (fun i => C (f i))
section
variable {α : Type} {C : α → List Value} {m : Nat}
theorem valsE_snoc (n : Nat) (f : Nat → α) : valsE C (n + 1) f = valsE C n f ++ C (f n) := by
  unfold valsE
  rw [List.range_succ, List.flatMap_append]
  simp
theorem valsE_len (hm : ∀ x, (C x).length = m) (n : Nat) (f : Nat → α) : (valsE C n f).length = n * m := by
  induction n with
  | zero => simp [valsE]
  | succ n ih => rw [valsE_snoc, List.length_append, ih, hm, Nat.succ_mul]
theorem valsE_get (hm : ∀ x, (C x).length = m) (n : Nat) (f : Nat → α) (i j : Nat) (hi : i < n) (hj : j < m) : (valsE C n f)[i * m + j]? = (C (f i))[j]? := by
  induction n with
  | zero => omega
  | succ n ih =>
    rw [valsE_snoc]
    by_cases h : i < n
    · have : i * m + j < n * m := by
        have : (i + 1) * m ≤ n * m := Nat.mul_le_mul_right m h
        rw [Nat.succ_mul] at this
        omega
      rw [List.getElem?_append_left (by rw [valsE_len hm]; exact this), ih h]
    · obtain rfl : i = n := by omega
      rw [List.getElem?_append_right (by rw [valsE_len hm]; omega), valsE_len hm, show i * m + j - i * m = j by omega]
theorem valsE_ext (hm : ∀ x, (C x).length = m) {n : Nat} {L : List Value} {f : Nat → α} (hl : L.length = n * m) (h : ∀ i j, i < n → j < m → L[i * m + j]? = (C (f i))[j]?) : L = valsE C n f := by
  apply List.ext_getElem?
  intro k
  by_cases hk : k < n * m
  · have hm0 : 0 < m := by
      rcases Nat.eq_zero_or_pos m with h0 | h0
      · subst h0; omega
      · exact h0
    have h1 : k / m < n := Nat.div_lt_of_lt_mul (by rwa [Nat.mul_comm] at hk)
    have h2 : k % m < m := Nat.mod_lt _ hm0
    have h3 : k / m * m + k % m = k := by have := Nat.div_add_mod k m; rw [Nat.mul_comm] at this; exact this
    rw [← h3, h _ _ h1 h2, valsE_get hm n f _ _ h1 h2]
  · rw [List.getElem?_eq_none (by omega), List.getElem?_eq_none (by rw [valsE_len hm]; omega)]
theorem valsE_congr (hm : ∀ x, (C x).length = m) {n : Nat} {f g : Nat → α} (h : ∀ i, i < n → f i = g i) : valsE C n f = valsE C n g :=
  valsE_ext hm (valsE_len hm n f) (fun i j hi hj => by rw [valsE_get hm n f i j hi hj, h i hi])
theorem rdE_row (hm : ∀ x, (C x).length = m) {w : World} {g : Nat} {t : TypeId} {n : Nat} {f : Nat → α} (h : w.heap[g]? = some (.cells (valsE C n f).toArray t (0, 0))) : RdE C m w g (some ⟨g, 0, none⟩) n f := by
  refine .inr ⟨0, rfl, fun i hi j v hv => ?_⟩
  have hj : j < m := by rw [← hm (f i)]; exact (List.getElem?_eq_some_iff.1 hv).1
  rw [Nat.zero_add, cell_of_row w g (i * m + j) _ t (0, 0) h]
  simp only [List.getElem?_toArray]
  rw [valsE_get hm n f i j hi hj]
  exact hv
theorem ownE_row (hm : ∀ x, (C x).length = m) {w : World} {B g : Nat} {t : TypeId} {n : Nat} {f : Nat → α} (h : w.heap[g]? = some (.cells (valsE C n f).toArray t (0, 0))) (hB : B ≤ g) : OwnE C m w B g (some ⟨g, 0, none⟩) n f :=
  ⟨hB, lt_row h, rdE_row hm h, free_row h⟩
theorem own_ofE (hm : ∀ x, (C x).length = m) {w : World} {B : Nat} {e : TypeId} {v : Value} {n : Nat} {f : Nat → α} (h : w.ownsRow B e m v n (valsE C n f)) (hv : v ≠ .slice none 0 0) : ∃ g cap, v = .slice (some ⟨g, 0, none⟩) n cap ∧ n ≤ cap ∧ OwnE C m w B g (some ⟨g, 0, none⟩) n f := by
  rcases h.2 with ⟨h', _⟩ | ⟨g, cap, cur, rfl, hB, hg, hn, hmx, hcs, ht⟩
  · exact absurd h' hv
  · refine ⟨g, cap, rfl, hn, hB, lt_row hg, .inr ⟨0, rfl, fun i hi j u hu => ?_⟩, free_row hg⟩
    have hj : j < m := by rw [← hm (f i)]; exact (List.getElem?_eq_some_iff.1 hu).1
    have hlt : i * m + j < n * m := by
      have : (i + 1) * m ≤ n * m := Nat.mul_le_mul_right m hi
      rw [Nat.succ_mul] at this
      omega
    have h2 := valsE_get hm n f i j hi hj
    rw [← ht, List.getElem?_take, if_pos hlt, hu] at h2
    rw [Nat.zero_add, cell_of_row w g (i * m + j) _ e (0, 0) hg, ← Array.getElem?_toList]
    exact h2
theorem RdE.newsE (hm : ∀ x, (C x).length = m) {w : World} {b : Nat} {ad : Addr} {n : Nat} {f : Nat → α} (h : RdE C m w b (some ad) n f) : ∀ j u, (valsE C n f)[j]? = some u → w.cell? (ad.add j) = some u := by
  intro k u hu
  have hk : k < n * m := by rw [← valsE_len hm n f]; exact (List.getElem?_eq_some_iff.1 hu).1
  have hm0 : 0 < m := by
    rcases Nat.eq_zero_or_pos m with h0 | h0
    · subst h0; omega
    · exact h0
  have h1 : k / m < n := Nat.div_lt_of_lt_mul (by rwa [Nat.mul_comm] at hk)
  have h2 : k % m < m := Nat.mod_lt _ hm0
  have h3 : k / m * m + k % m = k := by have := Nat.div_add_mod k m; rw [Nat.mul_comm] at this; exact this
  rcases h with h | ⟨off, e, hc⟩
  · subst h; omega
  · simp only [Option.some.injEq] at e
    subst e
    rw [Go.WideShapes.add_plain]
    have := hc (k / m) h1 (k % m) u (by rw [← valsE_get hm n f _ _ h1 h2, h3]; exact hu)
    rwa [Nat.add_assoc, h3] at this
end
theorem pcC_len (p : Pc) : (pcC p).length = 13 := rfl
theorem sdC_len (s : Sd) : (sdC s).length = 3 := rfl
theorem pcC_one (n : Nat) (f : Nat → Pc) : ∀ u ∈ valsE pcC n f, u.oneCell' = true := by
  intro u hu
  unfold valsE at hu
  obtain ⟨i, _, hi⟩ := List.mem_flatMap.1 hu
  simp only [pcC, List.mem_cons, List.mem_nil_iff, or_false] at hi
  rcases hi with rfl | rfl | rfl | rfl | rfl | rfl | rfl | rfl | rfl | rfl | rfl | rfl | rfl <;> rfl
theorem sdC_one (n : Nat) (f : Nat → Sd) : ∀ u ∈ valsE sdC n f, u.oneCell' = true := by
  intro u hu
  unfold valsE at hu
  obtain ⟨i, _, hi⟩ := List.mem_flatMap.1 hu
  simp only [sdC, List.mem_cons, List.mem_nil_iff, or_false] at hi
  rcases hi with rfl | rfl | rfl <;> rfl
/-- up to place k as f has it, from there on as g has it -/
def tilE {α : Type} (k : Nat) (f g : Nat → α) : Nat → α := fun i => if i < k then f i else g i
theorem tilE_zero {α : Type} (f g : Nat → α) : tilE 0 f g = g := by funext i; simp [tilE]
theorem tilE_all {α : Type} {n k : Nat} (f g : Nat → α) (h : n ≤ k) : ∀ i, i < n → tilE k f g i = f i := fun i hi => by unfold tilE; rw [if_pos (by omega)]
end Go.Proofs.YtodfdfncdoliiadGreat
namespace Go.Proofs.YtodfdfncdoliiadGreat
open Go.ChangeShapes Go.WideShapes Go.ChangeAt Go.RowKit
set_option maxRecDepth 100000
theorem Tryz.infoPc : (Tryz.prog.info? 139).map (fun i => (i.zero, i.size, i.bytes)) = some (some (.agg #[.int .i64 0, .int .i64 0, .int .i64 0, .int .i64 0, .int .i64 0, .int .i64 0, .int .i64 0, .int .i64 0, .int .i64 0, .int .i64 0, .int .i64 0, .bool false, .bool false]), 13, 96) := by kernel_rfl
theorem Tryz.infoSd : (Tryz.prog.info? 137).map (fun i => (i.zero, i.size, i.bytes)) = some (some (.agg #[.int .i64 0, .int .i64 0, .bool false]), 3, 24) := by kernel_rfl
def zP : Pc := ⟨0, 0, 0, 0, 0, 0, 0, 0, 0, 0, 0, false, false⟩
def zS : Sd := ⟨0, 0, false⟩

theorem made_pc (n : Nat) : (madeCells #[.int .i64 0, .int .i64 0, .int .i64 0, .int .i64 0, .int .i64 0, .int .i64 0, .int .i64 0, .int .i64 0, .int .i64 0, .int .i64 0, .int .i64 0, .bool false, .bool false] (n * 13)).toList = valsE pcC n (fun _ => zP) := by
  refine valsE_ext pcC_len (by simp [madeCells]) (fun i j hi hj => ?_)
  unfold madeCells
  have hlt : i * 13 + j < n * 13 := by omega
  simp only [Array.toList_map, Array.toList_range, List.getElem?_map, List.getElem?_range hlt, Option.map_some, List.size_toArray, List.length_cons, List.length_nil]
  rw [show (i * 13 + j) % (0 + 1 + 1 + 1 + 1 + 1 + 1 + 1 + 1 + 1 + 1 + 1 + 1 + 1) = j by omega]
  have : j = 0 ∨ j = 1 ∨ j = 2 ∨ j = 3 ∨ j = 4 ∨ j = 5 ∨ j = 6 ∨ j = 7 ∨ j = 8 ∨ j = 9 ∨ j = 10 ∨ j = 11 ∨ j = 12 := by omega
  rcases this with rfl | rfl | rfl | rfl | rfl | rfl | rfl | rfl | rfl | rfl | rfl | rfl | rfl <;> rfl
theorem made_sd (n : Nat) : (madeCells #[.int .i64 0, .int .i64 0, .bool false] (n * 3)).toList = valsE sdC n (fun _ => zS) := by
  refine valsE_ext sdC_len (by simp [madeCells]) (fun i j hi hj => ?_)
  unfold madeCells
  have hlt : i * 3 + j < n * 3 := by omega
  simp only [Array.toList_map, Array.toList_range, List.getElem?_map, List.getElem?_range hlt, Option.map_some, List.size_toArray, List.length_cons, List.length_nil]
  rw [show (i * 3 + j) % (0 + 1 + 1 + 1) = j by omega]
  have : j = 0 ∨ j = 1 ∨ j = 2 := by omega
  rcases this with rfl | rfl | rfl <;> rfl
theorem row_madeE {α : Type} {C : α → List Value} {m : Nat} {w : World} {B g : Nat} {e : TypeId} {n : Nat} {f : Nat → α} (h : w.ownsRow B e m (.slice (some ⟨g, 0, none⟩) n n) n (valsE C n f)) : w.heap[g]? = some (.cells (valsE C n f).toArray e (0, 0)) := by
  rcases h.2 with ⟨h', _⟩ | ⟨g', cap', cur, h', hb, hg, hnc, hcm, hcs, htake⟩
  · simp at h'
  · simp only [Value.slice.injEq, Option.some.injEq, Addr.mk.injEq, and_true, true_and] at h'
    obtain ⟨rfl, rfl⟩ := h'
    rw [List.take_of_length_le (by rw [Array.length_toList, hcs]; exact Nat.le_refl _)] at htake
    rw [hg, ← htake]
/-- cells set one by one -/
def putL (cur : Array Value) : Nat → List Value → Array Value
  | _, [] => cur
  | o, v :: r => putL (cur.setIfInBounds o v) (o + 1) r
theorem size_putL : ∀ (vs : List Value) (o : Nat) (cur : Array Value), (putL cur o vs).size = cur.size
  | [], _, _ => rfl
  | v :: r, o, cur => by unfold putL; rw [size_putL r, Array.size_setIfInBounds]
theorem get_putL : ∀ (vs : List Value) (o : Nat) (cur : Array Value) (k : Nat), o + vs.length ≤ cur.size → (putL cur o vs)[k]? = if o ≤ k ∧ k < o + vs.length then vs[k - o]? else cur[k]?
  | [], o, cur, k, _ => by
    unfold putL
    rw [if_neg (by simp)]
  | v :: r, o, cur, k, h => by
    simp only [List.length_cons] at h ⊢
    unfold putL
    rw [get_putL r (o + 1) _ k (by rw [Array.size_setIfInBounds]; omega)]
    by_cases h1 : o + 1 ≤ k ∧ k < o + 1 + r.length
    · rw [if_pos h1, if_pos (by omega), show k - o = (k - (o + 1)) + 1 by omega, List.getElem?_cons_succ]
    · rw [if_neg h1]
      by_cases h2 : k = o
      · subst h2
        rw [if_pos (by omega), Nat.sub_self]
        simp [show k < cur.size by omega]
      · rw [if_neg (by omega)]
        rw [Array.getElem?_setIfInBounds_ne (by omega)]
theorem heap_setCells (g : Nat) (t : TypeId) : ∀ (vs : List Value) (o : Nat) (cur : Array Value) (w : World), w.heap[g]? = some (.cells cur t (0, 0)) → (w.setCells g o vs).heap[g]? = some (.cells (putL cur o vs) t (0, 0))
  | [], _, _, _, h => h
  | v :: r, o, cur, w, h => by
    unfold World.setCells putL
    exact heap_setCells g t r (o + 1) _ _ (Go.heap_setCell_same w g o _ t v h)
theorem heap_setCells_ne (g k : Nat) (hk : k ≠ g) : ∀ (vs : List Value) (o : Nat) (w : World), (w.setCells g o vs).heap[k]? = w.heap[k]?
  | [], _, _ => rfl
  | v :: r, o, w => by
    unfold World.setCells
    rw [heap_setCells_ne g k hk r (o + 1) _]
    exact Below.heap_setCell w _ v k (by simpa using hk)
theorem size_setCells (g : Nat) : ∀ (vs : List Value) (o : Nat) (w : World), (w.setCells g o vs).heap.size = w.heap.size
  | [], _, _ => rfl
  | v :: r, o, w => by unfold World.setCells; rw [size_setCells g r]; simp [World.setCell]
theorem below_setCells' {B g : Nat} (hg : B ≤ g) {a : World} : ∀ (vs : List Value) (o : Nat) (w : World), Below B a w → Below B a (w.setCells g o vs)
  | [], _, _, h => h
  | v :: r, o, w, h => by unfold World.setCells; exact below_setCells' hg r (o + 1) _ (h.setCell hg v)
theorem there_row {w : World} {g : Nat} {t : TypeId} {cur : Array Value} (h : w.heap[g]? = some (.cells cur t (0, 0))) {o n : Nat} (hn : o + n ≤ cur.size) : w.there g o n := fun j hj =>
  ⟨by rw [cell_of_row w g (o + j) _ t (0, 0) h]; simp [show o + j < cur.size by omega], frozen_of_row w g (o + j) _ t h⟩
/-- one element put into a row -/
theorem row_putE {α : Type} {C : α → List Value} {m : Nat} (hm : ∀ x, (C x).length = m) {w : World} {g : Nat} {t : TypeId} {n : Nat} {f : Nat → α} (h : w.heap[g]? = some (.cells (valsE C n f).toArray t (0, 0))) (k : Nat) (x : α) (hk : k < n) :
    (w.setCells g (k * m) (C x)).heap[g]? = some (.cells (valsE C n (fun i => if i = k then x else f i)).toArray t (0, 0)) := by
  have hsz : (valsE C n f).toArray.size = n * m := by simp [valsE_len hm]
  have hkm : k * m + m ≤ n * m := by have : (k + 1) * m ≤ n * m := Nat.mul_le_mul_right m hk; rw [Nat.succ_mul] at this; exact this
  rw [heap_setCells g t (C x) (k * m) _ w h]
  congr 2
  apply Array.ext'
  refine valsE_ext hm (by rw [Array.length_toList, size_putL, hsz]) (fun i j hi hj => ?_)
  rw [Array.getElem?_toList, get_putL _ _ _ _ (by rw [hm, hsz]; exact hkm), hm]
  by_cases hik : i = k
  · subst hik
    rw [if_pos (by omega), if_pos rfl, show i * m + j - i * m = j by omega]
  · rw [if_neg hik]
    have hne : ¬ (k * m ≤ i * m + j ∧ i * m + j < k * m + m) := by
      rintro ⟨h1, h2⟩
      rcases Nat.lt_or_gt_of_ne hik with h3 | h3
      · have : (i + 1) * m ≤ k * m := Nat.mul_le_mul_right m h3
        rw [Nat.succ_mul] at this
        omega
      · have : (k + 1) * m ≤ i * m := Nat.mul_le_mul_right m h3
        rw [Nat.succ_mul] at this
        omega
    rw [if_neg hne, List.getElem?_toArray, valsE_get hm n f i j hi hj]
theorem tilE_step {α : Type} (k : Nat) (f g : Nat → α) : (fun i => if i = k then f k else tilE k f g i) = tilE (k + 1) f g := by
  funext i
  unfold tilE
  by_cases h : i = k
  · subst h; rw [if_pos rfl, if_pos (by omega)]
  · rw [if_neg h]
    by_cases h2 : i < k
    · rw [if_pos h2, if_pos (by omega)]
    · rw [if_neg h2, if_neg (by omega)]

def At13 (w : World) (b o : Nat) (p : Pc) : Prop := w.cell? ⟨b, o, none⟩ = some (.int .i64 p.id) ∧ w.cell? ⟨b, o + 1, none⟩ = some (.int .i64 p.ow) ∧ w.cell? ⟨b, o + 2, none⟩ = some (.int .i64 p.si) ∧ w.cell? ⟨b, o + 3, none⟩ = some (.int .i64 p.zo) ∧ w.cell? ⟨b, o + 4, none⟩ = some (.int .i64 p.st) ∧ w.cell? ⟨b, o + 5, none⟩ = some (.int .i64 p.po) ∧ w.cell? ⟨b, o + 6, none⟩ = some (.int .i64 p.to) ∧ w.cell? ⟨b, o + 7, none⟩ = some (.int .i64 p.tr) ∧ w.cell? ⟨b, o + 8, none⟩ = some (.int .i64 p.pl) ∧ w.cell? ⟨b, o + 9, none⟩ = some (.int .i64 p.mi) ∧ w.cell? ⟨b, o + 10, none⟩ = some (.int .i64 p.ma) ∧ w.cell? ⟨b, o + 11, none⟩ = some (.bool p.de) ∧ w.cell? ⟨b, o + 12, none⟩ = some (.bool p.be)
theorem At13_of {w : World} {b o : Nat} {p : Pc} (h : ∀ j v, (pcC p)[j]? = some v → w.cell? ⟨b, o + j, none⟩ = some v) : At13 w b o p := ⟨h 0 _ rfl, h 1 _ rfl, h 2 _ rfl, h 3 _ rfl, h 4 _ rfl, h 5 _ rfl, h 6 _ rfl, h 7 _ rfl, h 8 _ rfl, h 9 _ rfl, h 10 _ rfl, h 11 _ rfl, h 12 _ rfl⟩
def At3 (w : World) (b o : Nat) (p : Sd) : Prop := w.cell? ⟨b, o, none⟩ = some (.int .i64 p.li) ∧ w.cell? ⟨b, o + 1, none⟩ = some (.int .i64 p.po) ∧ w.cell? ⟨b, o + 2, none⟩ = some (.bool p.lo)
theorem At3_of {w : World} {b o : Nat} {p : Sd} (h : ∀ j v, (sdC p)[j]? = some v → w.cell? ⟨b, o + j, none⟩ = some v) : At3 w b o p := ⟨h 0 _ rfl, h 1 _ rfl, h 2 _ rfl⟩
end Go.Proofs.YtodfdfncdoliiadGreat
