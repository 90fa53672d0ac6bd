/-
  Maps that a call makes, as functions of their keys (MapB), at the operations: makeMap, look-up, store, delete, a slot that is found first and filled behind (mapEntry, entryStore), a range that deletes (RangeB). Own work.
-/
import Derived.Maps.RangeWalk
import Derived.Below
import Derived.OwnWalk
namespace Go.Proofs.YtodfdfncdoliiadGreat
open Go Go.ChangeMaps Go.Maps Go.RowKit
set_option linter.unusedVariables false
set_option linter.unusedSectionVars false
set_option linter.unusedSimpArgs false
set_option maxRecDepth 100000

/-- what a map's block needs of its keys: 'enc' says how a key lies there -/
structure KeyT (P : Program) (k : TypeId) {α : Type} (enc : α → Value) : Prop where
  inj : ∀ x y, enc x = enc y → x = y
  check : ∀ (w : World) (em : Bool) (x : α), (Instr.checkKey em 10000 k (enc x)).run P w = .ok () w
  find : ∀ (w : World) (x : α) (es : List MapEntry), (∀ e ∈ es, ∃ y, e.key = enc y) →
    ((Instr.findKey k (enc x) es).run P w = .ok none w ∧ ∀ e ∈ es, e.key ≠ enc x) ∨ ∃ j e, (Instr.findKey k (enc x) es).run P w = .ok (some (j, e.val)) w ∧ es[j]? = some e ∧ e.key = enc x
  stays : ∀ (w : World) (x : α), (Instr.keyThatStays (enc x) (enc x)).run P w = .ok (enc x) w

section
variable {P : Program} {α : Type} [DecidableEq α] {enc : α → Value}

/-- the entries, as a function of the keys -/
structure MapE (enc : α → Value) (es : Array MapEntry) (clock : Nat) (M : α → Option Value) : Prop where
  key : ∀ e ∈ es.toList, ∃ x, e.key = enc x
  nd : (es.toList.map (·.key)).Nodup
  born : (es.toList.map (·.born)).Nodup
  lt : ∀ e ∈ es.toList, e.born < clock
  val : ∀ x v, M x = some v ↔ ∃ e ∈ es.toList, e.key = enc x ∧ e.val = v
def MapB (enc : α → Value) (w : World) (b : Nat) (M : α → Option Value) : Prop := ∃ es clock, w.heap[b]? = some (.map es clock) ∧ MapE enc es clock M
/-- .. and the slot of the key x bears the stamp s -/
def MapS (enc : α → Value) (w : World) (b : Nat) (M : α → Option Value) (x : α) (s : Nat) : Prop := ∃ es clock, w.heap[b]? = some (.map es clock) ∧ MapE enc es clock M ∧ ∃ e ∈ es.toList, e.key = enc x ∧ e.born = s
def putM (M : α → Option Value) (x : α) (v : Value) : α → Option Value := fun y => if y = x then some v else M y
def delM (M : α → Option Value) (x : α) : α → Option Value := fun y => if y = x then none else M y

theorem MapB.lt {w : World} {b : Nat} {M : α → Option Value} (h : MapB enc w b M) : b < w.heap.size := by
  obtain ⟨es, c, hb, _⟩ := h
  exact (Array.getElem?_eq_some_iff.1 hb).1
theorem MapS.lt {w : World} {b s : Nat} {x : α} {M : α → Option Value} (h : MapS enc w b M x s) : b < w.heap.size := by
  obtain ⟨es, c, hb, _⟩ := h
  exact (Array.getElem?_eq_some_iff.1 hb).1
theorem MapB.same {w w' : World} {b : Nat} {M : α → Option Value} (h : MapB enc w b M) (e : w'.heap[b]? = w.heap[b]?) : MapB enc w' b M := by
  obtain ⟨es, c, hb, h⟩ := h
  exact ⟨es, c, by rw [e]; exact hb, h⟩
theorem MapS.same {w w' : World} {b s : Nat} {x : α} {M : α → Option Value} (h : MapS enc w b M x s) (e : w'.heap[b]? = w.heap[b]?) : MapS enc w' b M x s := by
  obtain ⟨es, c, hb, h⟩ := h
  exact ⟨es, c, by rw [e]; exact hb, h⟩
theorem MapB.grew {w w' : World} {b : Nat} {M : α → Option Value} (h : MapB enc w b M) (hb : Below w.heap.size w w') : MapB enc w' b M := h.same (hb.block b h.lt)
theorem MapS.grew {w w' : World} {b s : Nat} {x : α} {M : α → Option Value} (h : MapS enc w b M x s) (hb : Below w.heap.size w w') : MapS enc w' b M x s := h.same (hb.block b h.lt)
theorem MapB.congr {w : World} {b : Nat} {M M' : α → Option Value} (h : MapB enc w b M) (e : ∀ x, M x = M' x) : MapB enc w b M' := by
  have : M = M' := funext e
  subst this
  exact h
theorem MapB.made (w : World) : MapB enc (w.alloc (.map #[] 0)) w.heap.size (fun _ : α => none) :=
  ⟨#[], 0, heap_alloc_new w _, ⟨fun e he => by simp at he, by simp, by simp, fun e he => by simp at he, fun x v => by simp⟩⟩
/-- a cell is none of a map's block -/
theorem MapB.ne {w : World} {b : Nat} {M : α → Option Value} (h : MapB enc w b M) {a : Addr} {v : Value} (hc : w.cell? a = some v) : b ≠ a.block := by
  obtain ⟨es, c, hb, _⟩ := h
  intro e
  subst e
  simp [World.cell?, hb] at hc
theorem MapB.setCell {w : World} {b : Nat} {M : α → Option Value} (h : MapB enc w b M) {a : Addr} (ha : b ≠ a.block) (u : Value) : MapB enc (w.setCell a u) b M := h.same (Below.heap_setCell w a u b ha)
theorem MapS.setCell {w : World} {b s : Nat} {x : α} {M : α → Option Value} (h : MapS enc w b M x s) {a : Addr} (ha : b ≠ a.block) (u : Value) : MapS enc (w.setCell a u) b M x s := h.same (Below.heap_setCell w a u b ha)

theorem MapE.entry {es : Array MapEntry} {c : Nat} {M : α → Option Value} (h : MapE enc es c M) {e f : MapEntry} (he : e ∈ es.toList) (hf : f ∈ es.toList) (hk : e.key = f.key) : e = f :=
  entry_eq_of_key (by have := h.nd; rw [List.nodup_iff_pairwise_ne, List.pairwise_map] at this; exact this) he hf hk
theorem MapE.has {es : Array MapEntry} {c : Nat} {M : α → Option Value} (h : MapE enc es c M) {e : MapEntry} {x : α} (he : e ∈ es.toList) (hk : e.key = enc x) : M x = some e.val := (h.val x e.val).2 ⟨e, he, hk, rfl⟩
theorem MapE.miss {es : Array MapEntry} {c : Nat} {M : α → Option Value} (h : MapE enc es c M) {x : α} (hk : ∀ e ∈ es.toList, e.key ≠ enc x) : M x = none := by
  cases hM : M x with
  | none => rfl
  | some v =>
    obtain ⟨e, he, h1, _⟩ := (h.val x v).1 hM
    exact absurd h1 (hk e he)

theorem MapB.look {k t e : TypeId} {w : World} {b : Nat} {M : α → Option Value} (h : MapB enc w b M) (T : KeyT P k enc) (ht : P.underlying t = some (.map k e)) {z : Value} (hz : (zeroValue e).run P w = .ok z w) (x : α) (ok : Bool) :
    (Instr.lookup t (.map (some b)) (enc x) ok).run P w = .ok (if ok then .tuple #[(M x).getD z, .bool (M x).isSome] else (M x).getD z) w := by
  obtain ⟨es, c, hb, hE⟩ := h
  rcases T.find w x es.toList hE.key with ⟨h1, h2⟩ | ⟨j, e0, h1, h2, h3⟩
  · rw [hE.miss h2]
    simp [Instr.lookup, run_underlying ht, MapKept.run_getObj_map hb, T.check w _ x, h1, hz, Result.andThen]
  · rw [hE.has (List.mem_of_getElem? h2) h3]
    simp [Instr.lookup, run_underlying ht, MapKept.run_getObj_map hb, T.check w _ x, h1, Result.andThen]

theorem modify_list {es : Array MapEntry} {j : Nat} {e0 : MapEntry} (h2 : es.toList[j]? = some e0) (f : MapEntry → MapEntry) : (es.modify j f).toList = es.toList.set j (f e0) := by
  rw [Array.toList_modify, modify_eq_set _ _ _ _ h2]

/-- an entry is laid in another's place: the same key, the same stamp -/
theorem MapE.set {es es' : Array MapEntry} {c j : Nat} {M : α → Option Value} (h : MapE enc es c M) (hi : ∀ x y, enc x = enc y → x = y) {e0 e1 : MapEntry} {x : α} (h2 : es.toList[j]? = some e0) (h3 : e0.key = enc x) (hl : es'.toList = es.toList.set j e1) (hk : e1.key = e0.key) (hbn : e1.born = e0.born) : MapE enc es' c (putM M x e1.val) := by
  have hjl : j < es.toList.length := (List.getElem?_eq_some_iff.1 h2).1
  have m0 : e0 ∈ es.toList := List.mem_of_getElem? h2
  have hkey : es'.toList.map (·.key) = es.toList.map (·.key) := by
    rw [hl, List.map_set]
    refine List.ext_getElem? (fun i => ?_)
    by_cases hi : i = j
    · subst hi
      rw [List.getElem?_set_self (by simpa using hjl), List.getElem?_map, h2, Option.map_some, hk]
    · rw [List.getElem?_set_ne (fun e => hi e.symm)]
  have hborn : es'.toList.map (·.born) = es.toList.map (·.born) := by
    rw [hl, List.map_set]
    refine List.ext_getElem? (fun i => ?_)
    by_cases hi : i = j
    · subst hi
      rw [List.getElem?_set_self (by simpa using hjl), List.getElem?_map, h2, Option.map_some, hbn]
    · rw [List.getElem?_set_ne (fun e => hi e.symm)]
  have who : ∀ e ∈ es'.toList, e = e1 ∨ (e ∈ es.toList ∧ e.key ≠ e0.key) := by
    intro e he
    rw [hl] at he
    obtain ⟨i, hi, ex⟩ := List.getElem_of_mem he
    rw [List.getElem_set] at ex
    split at ex
    · exact Or.inl ex.symm
    · rename_i hne
      have hi' : i < es.toList.length := by simpa using hi
      refine Or.inr ⟨ex ▸ List.getElem_mem hi', fun hc => hne ?_⟩
      have hnd := h.nd
      have e1' : (es.toList.map (·.key))[i]'(by simpa using hi') = (es.toList.map (·.key))[j]'(by simpa using hjl) := by
        simp only [List.getElem_map]
        have : es.toList[j] = e0 := (List.getElem?_eq_some_iff.1 h2).2
        rw [this, ex]
        exact hc
      exact ((List.getElem_inj hnd).1 e1').symm
  have m1 : e1 ∈ es'.toList := by
    rw [hl]
    exact List.mem_iff_getElem.2 ⟨j, by simpa using hjl, by simp⟩
  have old : ∀ e ∈ es.toList, e.key ≠ e0.key → e ∈ es'.toList := by
    intro e he hne
    rw [hl]
    obtain ⟨i, hi, ex⟩ := List.getElem_of_mem he
    refine List.mem_iff_getElem.2 ⟨i, by simpa using hi, ?_⟩
    rw [List.getElem_set_ne (fun hji => hne ?_)]
    · exact ex
    · subst hji
      rw [← ex, (List.getElem?_eq_some_iff.1 h2).2]
  refine ⟨fun e he => ?_, by rw [hkey]; exact h.nd, by rw [hborn]; exact h.born, fun e he => ?_, fun y v => ?_⟩
  · rcases who e he with rfl | ⟨h', _⟩
    · exact ⟨x, hk.trans h3⟩
    · exact h.key e h'
  · rcases who e he with rfl | ⟨h', _⟩
    · rw [hbn]
      exact h.lt e0 m0
    · exact h.lt e h'
  · unfold putM
    by_cases hy : y = x
    · rw [if_pos hy]
      subst hy
      constructor
      · intro hv
        exact ⟨e1, m1, hk.trans h3, Option.some.inj hv⟩
      · rintro ⟨e, he, hke, rfl⟩
        rcases who e he with rfl | ⟨_, hne⟩
        · rfl
        · exact absurd (hke.trans h3.symm) hne
    · rw [if_neg hy]
      constructor
      · intro hv
        obtain ⟨e, he, hke, hve⟩ := (h.val y v).1 hv
        refine ⟨e, old e he (fun hc => hy ?_), hke, hve⟩
        exact hi y x (hke.symm.trans (hc.trans h3))
      · rintro ⟨e, he, hke, rfl⟩
        rcases who e he with rfl | ⟨h', _⟩
        · exact absurd (hi y x (hke.symm.trans (hk.trans h3))) hy
        · exact (h.val y e.val).2 ⟨e, h', hke, rfl⟩

/-- one more entry, of a key that there is not yet -/
theorem MapE.push {es : Array MapEntry} {c : Nat} {M : α → Option Value} (h : MapE enc es c M) (hi : ∀ x y, enc x = enc y → x = y) {x : α} (v : Value) (hk : ∀ e ∈ es.toList, e.key ≠ enc x) : MapE enc (es.push ⟨enc x, v, c⟩) (c + 1) (putM M x v) := by
  have hl : (es.push ⟨enc x, v, c⟩).toList = es.toList ++ [⟨enc x, v, c⟩] := by simp
  refine ⟨fun e he => ?_, ?_, ?_, fun e he => ?_, fun y u => ?_⟩
  · rw [hl, List.mem_append, List.mem_singleton] at he
    rcases he with he | rfl
    · exact h.key e he
    · exact ⟨x, rfl⟩
  · rw [hl, List.map_append, List.nodup_append]
    refine ⟨h.nd, by simp, fun a ha b hb => ?_⟩
    obtain ⟨e, he, rfl⟩ := List.mem_map.1 ha
    simp only [List.map_cons, List.map_nil, List.mem_singleton] at hb
    rw [hb]
    exact hk e he
  · rw [hl, List.map_append, List.nodup_append]
    refine ⟨h.born, by simp, fun a ha b hb => ?_⟩
    obtain ⟨e, he, rfl⟩ := List.mem_map.1 ha
    simp only [List.map_cons, List.map_nil, List.mem_singleton] at hb
    rw [hb]
    exact Nat.ne_of_lt (h.lt e he)
  · rw [hl, List.mem_append, List.mem_singleton] at he
    rcases he with he | rfl
    · exact Nat.lt_succ_of_lt (h.lt e he)
    · exact Nat.lt_succ_self _
  · unfold putM
    rw [hl]
    simp only [List.mem_append, List.mem_singleton]
    by_cases hy : y = x
    · subst hy
      rw [if_pos rfl]
      constructor
      · intro hv
        exact ⟨_, Or.inr rfl, rfl, Option.some.inj hv⟩
      · rintro ⟨e, he | rfl, hke, rfl⟩
        · exact absurd hke (hk e he)
        · rfl
    · rw [if_neg hy]
      constructor
      · intro hv
        obtain ⟨e, he, h1, h2⟩ := (h.val y u).1 hv
        exact ⟨e, Or.inl he, h1, h2⟩
      · rintro ⟨e, he | rfl, hke, rfl⟩
        · exact (h.val y e.val).2 ⟨e, he, hke, rfl⟩
        · exact absurd (hi _ _ hke) (fun e => hy e.symm)

/-- an entry is struck -/
theorem MapE.erase {es es' : Array MapEntry} {c j : Nat} {M : α → Option Value} (h : MapE enc es c M) (hi : ∀ x y, enc x = enc y → x = y) {e0 : MapEntry} {x : α} (h2 : es.toList[j]? = some e0) (h3 : e0.key = enc x) (hl : es'.toList = es.toList.eraseIdx j) : MapE enc es' c (delM M x) ∧ ∀ e, e ∈ es'.toList ↔ e ∈ es.toList ∧ e.key ≠ enc x := by
  have hsub := List.eraseIdx_sublist es.toList j
  have hjl : j < es.toList.length := (List.getElem?_eq_some_iff.1 h2).1
  have hmem : ∀ e, e ∈ es'.toList ↔ e ∈ es.toList ∧ e.key ≠ enc x := by
    intro e
    rw [hl]
    constructor
    · intro he
      obtain ⟨i, hne, hie⟩ := List.mem_eraseIdx_iff_getElem?.1 he
      refine ⟨List.mem_of_getElem? hie, fun hc => hne ?_⟩
      have hil : i < es.toList.length := (List.getElem?_eq_some_iff.1 hie).1
      have e1' : (es.toList.map (·.key))[i]'(by simpa using hil) = (es.toList.map (·.key))[j]'(by simpa using hjl) := by
        simp only [List.getElem_map]
        rw [(List.getElem?_eq_some_iff.1 hie).2, (List.getElem?_eq_some_iff.1 h2).2, hc, h3]
      exact (List.getElem_inj h.nd).1 e1'
    · rintro ⟨he, hne⟩
      obtain ⟨i, hil, ex⟩ := List.getElem_of_mem he
      refine List.mem_eraseIdx_iff_getElem?.2 ⟨i, fun hij => hne ?_, by rw [List.getElem?_eq_getElem hil, ex]⟩
      subst hij
      rw [← ex, (List.getElem?_eq_some_iff.1 h2).2, h3]
  refine ⟨⟨fun e he => h.key e ((hmem e).1 he).1, ?_, ?_, fun e he => h.lt e ((hmem e).1 he).1, fun y v => ?_⟩, hmem⟩
  · rw [hl]; exact (hsub.map _).nodup h.nd
  · rw [hl]; exact (hsub.map _).nodup h.born
  · unfold delM
    by_cases hy : y = x
    · subst hy
      rw [if_pos rfl]
      constructor
      · intro hv
        cases hv
      · rintro ⟨e, he, hke, _⟩
        exact absurd hke ((hmem e).1 he).2
    · rw [if_neg hy, h.val y v]
      constructor
      · rintro ⟨e, he, hke, hv⟩
        exact ⟨e, (hmem e).2 ⟨he, fun hc => hy (hi _ _ (hke.symm.trans hc))⟩, hke, hv⟩
      · rintro ⟨e, he, hke, hv⟩
        exact ⟨e, ((hmem e).1 he).1, hke, hv⟩

theorem delM_miss {M : α → Option Value} {x : α} (h : M x = none) : delM M x = M := by
  funext y
  unfold delM
  split
  · rename_i e
    rw [e, h]
  · rfl
/-- what a write does to the world: that block alone -/
def Wrote (w w' : World) (b : Nat) : Prop := ∃ es c es' c', w.heap[b]? = some (.map es c) ∧ w' = setBlock w b (.map es' c')
theorem Wrote.other {w w' : World} {b : Nat} (h : Wrote w w' b) {k : Nat} (hk : k ≠ b) : w'.heap[k]? = w.heap[k]? := by
  obtain ⟨es, c, es', c', hb, rfl⟩ := h
  exact heap_setBlock_other hb _ hk
theorem Wrote.below {w w' : World} {b B : Nat} (h : Wrote w w' b) (hB : B ≤ b) : Below B w w' := by
  obtain ⟨es, c, es', c', hb, rfl⟩ := h
  exact ⟨rfl, rfl, rfl, by simp [setBlock], fun k hk => heap_setBlock_other hb _ (by omega)⟩
theorem Wrote.size {w w' : World} {b : Nat} (h : Wrote w w' b) : w'.heap.size = w.heap.size := by
  obtain ⟨es, c, es', c', hb, rfl⟩ := h
  simp [setBlock]
theorem Wrote.cell {w w' : World} {b : Nat} (h : Wrote w w' b) {a : Addr} {v : Value} (hc : w.cell? a = some v) : w'.cell? a = some v := by
  have : a.block ≠ b := by
    obtain ⟨es, c, es', c', hb, rfl⟩ := h
    intro e
    subst e
    simp [World.cell?, hb] at hc
  rw [World.cell?_of_block (h.other this)]
  exact hc

/-- 'm[k] = v' -/
theorem MapB.put {k t e : TypeId} {w : World} {b : Nat} {M : α → Option Value} (h : MapB enc w b M) (T : KeyT P k enc) (ht : P.underlying t = some (.map k e)) (x : α) (v : Value) :
    ∃ w', (Instr.mapUpdate t (.map (some b)) (enc x) v).run P w = .ok () w' ∧ MapB enc w' b (putM M x v) ∧ Wrote w w' b := by
  obtain ⟨es, c, hb, hE⟩ := h
  rcases T.find w x es.toList hE.key with ⟨h1, h2⟩ | ⟨j, e0, h1, h2, h3⟩
  · refine ⟨setBlock w b (.map (es.push ⟨enc x, v, c⟩) (c + 1)), ?_, ⟨_, _, heap_setBlock_same hb _, hE.push T.inj v h2⟩, ⟨_, _, _, _, hb, rfl⟩⟩
    simp [Instr.mapUpdate, run_underlying ht, MapKept.run_getObj_map hb, T.check w _ x, h1, MapKept.run_setObj_map _ hb, Result.andThen, setBlock]
  · have hj : es[j]? = some e0 := by simpa using h2
    refine ⟨setBlock w b (.map (es.modify j (fun e' => { e' with key := enc x, val := v })) c), ?_, ⟨_, _, heap_setBlock_same hb _, hE.set (e1 := { e0 with key := enc x, val := v }) T.inj h2 h3 (modify_list h2 _) h3.symm rfl⟩, ⟨_, _, _, _, hb, rfl⟩⟩
    simp [Instr.mapUpdate, run_underlying ht, MapKept.run_getObj_map hb, T.check w _ x, h1, hj, h3, T.stays w x, MapKept.run_setObj_map _ hb, Result.andThen, setBlock]

/-- 'delete(m, k)' -/
theorem MapB.del {k t e ty : TypeId} {w : World} {b : Nat} {M : α → Option Value} (h : MapB enc w b M) (T : KeyT P k enc) (ht : P.underlying t = some (.map k e)) (x : α) :
    ∃ w', (Builtin.delete_ #[t, k] ty #[.map (some b), enc x]).run P w = .ok (.tuple #[]) w' ∧ MapB enc w' b (delM M x) ∧ Wrote w w' b := by
  obtain ⟨es, c, hb, hE⟩ := h
  rcases T.find w x es.toList hE.key with ⟨h1, h2⟩ | ⟨j, e0, h1, h2, h3⟩
  · refine ⟨setBlock w b (.map es c), ?_, ⟨_, _, heap_setBlock_same hb _, by rw [delM_miss (hE.miss h2)]; exact hE⟩, ⟨_, _, _, _, hb, rfl⟩⟩
    simp [Builtin.delete_, run_underlying ht, MapKept.run_getObj_map hb, T.check w _ x, h1, MapKept.run_setObj_map _ hb, Result.andThen, setBlock]
  · have hjl : j < es.toList.length := (List.getElem?_eq_some_iff.1 h2).1
    have hjs : j < es.size := by simpa using hjl
    have hsub : (es.eraseIdxIfInBounds j).toList = es.toList.eraseIdx j := by
      unfold Array.eraseIdxIfInBounds
      rw [dif_pos hjs]
      simp
    refine ⟨setBlock w b (.map (es.eraseIdxIfInBounds j) c), ?_, ⟨_, _, heap_setBlock_same hb _, (hE.erase T.inj h2 h3 hsub).1⟩, ⟨_, _, _, _, hb, rfl⟩⟩
    simp [Builtin.delete_, run_underlying ht, MapKept.run_getObj_map hb, T.check w _ x, h1, MapKept.run_setObj_map _ hb, Result.andThen, setBlock]

/-- a slot is found: 'm[k]' ahead of what is to be stored there -/
theorem MapB.slot {k t e : TypeId} {w : World} {b : Nat} {M : α → Option Value} (h : MapB enc w b M) (T : KeyT P k enc) (ht : P.underlying t = some (.map k e)) {z : Value} (hz : ∀ w, (zeroValue e).run P w = .ok z w) (x : α) :
    ∃ w' : World, ∃ s : Nat, (Instr.mapEntry t (.map (some b)) (enc x)).run P w = .ok (.tuple #[(M x).getD z, goInt s]) w' ∧ MapS enc w' b (putM M x ((M x).getD z)) x s ∧ Wrote w w' b := by
  obtain ⟨es, c, hb, hE⟩ := h
  rcases T.find w x es.toList hE.key with ⟨h1, h2⟩ | ⟨j, e0, h1, h2, h3⟩
  · rw [hE.miss h2]
    refine ⟨setBlock w b (.map (es.push ⟨enc x, z, c⟩) (c + 1)), c, ?_, ⟨_, _, heap_setBlock_same hb _, hE.push T.inj z h2, ⟨enc x, z, c⟩, by simp, rfl, rfl⟩, ⟨_, _, _, _, hb, rfl⟩⟩
    simp [Instr.mapEntry, run_underlying ht, MapKept.run_getObj_map hb, T.check w _ x, h1, hz, MapKept.run_setObj_map _ hb, Result.andThen, setBlock]
  · have hj : es[j]? = some e0 := by simpa using h2
    have m0 : e0 ∈ es.toList := List.mem_of_getElem? h2
    rw [hE.has m0 h3]
    have hlist := modify_list h2 (fun e' => { e' with key := enc x })
    have hjl : j < es.toList.length := (List.getElem?_eq_some_iff.1 h2).1
    refine ⟨setBlock w b (.map (es.modify j (fun e' => { e' with key := enc x })) c), e0.born, ?_, ⟨_, _, heap_setBlock_same hb _, hE.set (e1 := { e0 with key := enc x }) T.inj h2 h3 hlist h3.symm rfl, { e0 with key := enc x }, by rw [hlist]; exact List.mem_iff_getElem.2 ⟨j, by simpa using hjl, by simp⟩, rfl, rfl⟩, ⟨_, _, _, _, hb, rfl⟩⟩
    simp [Instr.mapEntry, run_underlying ht, MapKept.run_getObj_map hb, T.check w _ x, h1, hj, h3, T.stays w x, MapKept.run_setObj_map _ hb, Result.andThen, setBlock]

/-- .. and filled -/
theorem MapS.fill {t : TypeId} {w : World} {b s : Nat} {x : α} {M : α → Option Value} (h : MapS enc w b M x s) (hi : ∀ x y, enc x = enc y → x = y) (v : Value) :
    ∃ w', (Instr.entryStore t (.map (some b)) (goInt s) v).run P w = .ok () w' ∧ MapB enc w' b (putM M x v) ∧ Wrote w w' b := by
  obtain ⟨es, c, hb, hE, e0, m0, h3, hs⟩ := h
  have hex : ∃ j, es.findIdx? (fun e => (e.born : Int) == (s : Int)) = some j ∧ es.toList[j]? = some e0 := by
    cases hf : es.findIdx? (fun e => (e.born : Int) == (s : Int)) with
    | none =>
      rw [Array.findIdx?_eq_none_iff] at hf
      have := hf e0 (by simpa using m0)
      simp [hs] at this
    | some j =>
      obtain ⟨hj, hp, _⟩ := Array.findIdx?_eq_some_iff_getElem.1 hf
      refine ⟨j, rfl, ?_⟩
      have hbj : es[j].born = s := Int.ofNat.inj (by simpa using hp)
      obtain ⟨i, hil, ex⟩ := List.getElem_of_mem m0
      have e1' : (es.toList.map (·.born))[j]'(by simpa using hj) = (es.toList.map (·.born))[i]'(by simpa using hil) := by
        simp only [List.getElem_map]
        rw [ex, hs]
        simpa using hbj
      have hij : j = i := (List.getElem_inj hE.born).1 e1'
      subst hij
      rw [List.getElem?_eq_getElem hil, ex]
  obtain ⟨j, hf, h2⟩ := hex
  refine ⟨setBlock w b (.map (es.modify j (fun e' => { e' with val := v })) c), ?_, ⟨_, _, heap_setBlock_same hb _, hE.set (e1 := { e0 with val := v }) hi h2 h3 (modify_list h2 _) rfl rfl⟩, ⟨_, _, _, _, hb, rfl⟩⟩
  simp [Instr.entryStore, MapKept.run_getObj_map hb, asInt, asIntOf, goInt, hf, MapKept.run_setObj_map _ hb, Result.andThen, setBlock]

/-- 'for k, v := range m' under way, in a loop that deletes: block r has met the keys that are not 'left' -/
def RangeB (enc : α → Value) (w : World) (b r : Nat) (M : α → Option Value) (left : α → Bool) : Prop :=
  ∃ es c seen, w.heap[b]? = some (.map es c) ∧ MapE enc es c M ∧ w.heap[r]? = some (.mapIter (some b) c seen c) ∧ ∀ e ∈ es.toList, ∀ x, e.key = enc x → left x = !seen.contains e.born
theorem RangeB.map {w : World} {b r : Nat} {M : α → Option Value} {left : α → Bool} (h : RangeB enc w b r M left) : MapB enc w b M := by
  obtain ⟨es, c, seen, hb, hE, _, _⟩ := h
  exact ⟨es, c, hb, hE⟩
theorem RangeB.lt {w : World} {b r : Nat} {M : α → Option Value} {left : α → Bool} (h : RangeB enc w b r M left) : b < w.heap.size ∧ r < w.heap.size ∧ r ≠ b := by
  obtain ⟨es, c, seen, hb, hE, hr, _⟩ := h
  refine ⟨(Array.getElem?_eq_some_iff.1 hb).1, (Array.getElem?_eq_some_iff.1 hr).1, fun e => ?_⟩
  subst e
  rw [hb] at hr
  cases hr
theorem RangeB.same {w w' : World} {b r : Nat} {M : α → Option Value} {left : α → Bool} (h : RangeB enc w b r M left) (e : w'.heap[b]? = w.heap[b]?) (e' : w'.heap[r]? = w.heap[r]?) : RangeB enc w' b r M left := by
  obtain ⟨es, c, seen, hb, hE, hr, hl⟩ := h
  exact ⟨es, c, seen, by rw [e]; exact hb, hE, by rw [e']; exact hr, hl⟩
theorem RangeB.grew {w w' : World} {b r : Nat} {M : α → Option Value} {left : α → Bool} (h : RangeB enc w b r M left) (hb : Below w.heap.size w w') : RangeB enc w' b r M left := h.same (hb.block _ h.lt.1) (hb.block _ h.lt.2.1)
theorem MapB.range {k t e : TypeId} {w : World} {b : Nat} {M : α → Option Value} (h : MapB enc w b M) (ht : P.underlying t = some (.map k e)) :
    ∃ w', (Instr.range t (.map (some b))).run P w = .ok (.pointer (some ⟨w.heap.size, 0, none⟩)) w' ∧ RangeB enc w' b w.heap.size M (fun _ => true) ∧ Below w.heap.size w w' := by
  have hlt := h.lt
  obtain ⟨es, c, hb, hE⟩ := h
  refine ⟨w.alloc (.mapIter (some b) c #[] c), ?_, ⟨es, c, #[], by rw [Below.heap_alloc w _ b hlt]; exact hb, hE, heap_alloc_new w _, fun e he x hx => by simp⟩, (Below.refl _ w).alloc (Nat.le_refl _) _⟩
  simp only [Instr.range, run_underlying ht, MapKept.run_getObj_map hb, Sem.run_bind, Result.andThen]
  rfl
/-- how many are left -/
theorem RangeB.left_lt {w w' : World} {b r : Nat} {es : Array MapEntry} {c : Nat} {seen : Array Nat} {e : MapEntry} (he : e ∈ (leftOf es seen).toList) : (leftOf es (seen.push e.born)).size < (leftOf es seen).size := by
  have h1 : leftOf es (seen.push e.born) = (leftOf es seen).filter (fun x => !decide (x.born = e.born)) := by
    unfold leftOf
    rw [Array.filter_filter]
    congr 1
    funext x
    simp only [Array.contains_push, Bool.not_or, Bool.beq_eq_decide_eq]
    by_cases h : x.born = e.born <;> simp [h, eq_comm] <;> simp [Ne.symm h]
  rw [h1]
  rcases Nat.lt_or_ge ((leftOf es seen).filter (fun x => !decide (x.born = e.born))).size (leftOf es seen).size with h | h
  · exact h
  · exfalso
    have e0 : ((leftOf es seen).filter (fun x => !decide (x.born = e.born))).toList = (leftOf es seen).toList.filter (fun x => !decide (x.born = e.born)) := Array.toList_filter
    have h' : (leftOf es seen).toList.length ≤ ((leftOf es seen).filter (fun x => !decide (x.born = e.born))).toList.length := by rw [Array.length_toList, Array.length_toList]; exact h
    rw [e0] at h'
    replace h := h'
    have hsub : (List.filter (fun x : MapEntry => !decide (x.born = e.born)) (leftOf es seen).toList) = (leftOf es seen).toList := List.filter_sublist.eq_of_length_le h
    have := List.filter_eq_self.1 hsub e he
    simp at this
theorem leftOf_mono {es es' : Array MapEntry} {seen : Array Nat} {j : Nat} (hl : es'.toList = es.toList.eraseIdx j) : (leftOf es' seen).size ≤ (leftOf es seen).size := by
  have e1 : (leftOf es' seen).toList = es'.toList.filter (fun e => !seen.contains e.born) := by unfold leftOf; exact Array.toList_filter
  have e2 : (leftOf es seen).toList = es.toList.filter (fun e => !seen.contains e.born) := by unfold leftOf; exact Array.toList_filter
  rw [← Array.length_toList, ← Array.length_toList, e1, e2, hl]
  exact ((List.eraseIdx_sublist _ _).filter _).length_le

/-- a step: nothing is left, or one of those that are left, whichever -/
theorem RangeB.next {w : World} {b r : Nat} {M : α → Option Value} {left : α → Bool} (h : RangeB enc w b r M left) (hi : ∀ x y, enc x = enc y → x = y) (ty : TypeId) :
    ((∀ x v, M x = some v → left x = false) ∧ (Instr.next (.pointer (some ⟨r, 0, none⟩)) false ty).run P w = .ok (.tuple #[.bool false]) w) ∨
    ∃ x v w', M x = some v ∧ left x = true ∧ (Instr.next (.pointer (some ⟨r, 0, none⟩)) false ty).run P w = .ok (.tuple #[.bool true, enc x, v]) w' ∧
      RangeB enc w' b r M (fun y => left y && !decide (y = x)) ∧ w'.rangeLeft b r < w.rangeLeft b r ∧ w'.heap.size = w.heap.size ∧ (∀ B, B ≤ r → Below B w w') ∧
      (Instr.entry (.pointer (some ⟨r, 0, none⟩))).run P w' = .ok (.tuple #[enc x, v]) w' := by
  obtain ⟨hbl, hrl, hne⟩ := h.lt
  obtain ⟨es, c, seen, hb, hE, hr, hl⟩ := h
  rcases run_next_at (P := P) w ty r b c c seen es c hr hb hE.lt (Nat.le_refl _) with ⟨h0, hrun⟩ | ⟨e, he, w1, hw1, hrun⟩
  · refine Or.inl ⟨fun x v hv => ?_, hrun⟩
    obtain ⟨e, he, hk, _⟩ := (hE.val x v).1 hv
    rw [hl e he x hk]
    have hemp : leftOf es seen = #[] := Array.eq_empty_of_size_eq_zero h0
    unfold leftOf at hemp
    rw [Array.filter_eq_empty_iff] at hemp
    have := hemp e (by simpa using he)
    simpa using this
  · right
    have hes : e ∈ es.toList := by unfold leftOf at he; simp at he ⊢; exact he.1
    have hnot : seen.contains e.born = false := by unfold leftOf at he; simp at he ⊢; exact he.2
    obtain ⟨x, hx⟩ := hE.key e hes
    have hr1 : w1.heap[r]? = some (.mapIter (some b) c seen c) := by rcases hw1 with rfl | rfl <;> exact hr
    have hb1 : w1.heap[b]? = some (.map es c) := by rcases hw1 with rfl | rfl <;> exact hb
    have hs1 : w1.heap.size = w.heap.size := by rcases hw1 with rfl | rfl <;> rfl
    have hset : (setBlock w1 r (.mapIter (some b) c (seen.push e.born) c)).heap[r]? = some (.mapIter (some b) c (seen.push e.born) c) := by
      unfold setBlock
      rw [Array.getElem?_setIfInBounds_self_of_lt (by rw [hs1]; exact hrl)]
    have hoth : ∀ k, k ≠ r → (setBlock w1 r (.mapIter (some b) c (seen.push e.born) c)).heap[k]? = w1.heap[k]? := fun k hk => by
      unfold setBlock
      rw [Array.getElem?_setIfInBounds_ne (fun e => hk e.symm)]
    have hbn : (setBlock w1 r (.mapIter (some b) c (seen.push e.born) c)).heap[b]? = some (.map es c) := by rw [hoth b (fun e => hne e.symm)]; exact hb1
    refine ⟨x, e.val, _, hE.has hes hx, by rw [hl e hes x hx, hnot]; rfl, by rw [← hx]; exact hrun, ⟨es, c, seen.push e.born, hbn, hE, hset, fun f hf y hy => ?_⟩, ?_, by simp [setBlock, hs1], fun B hB => ?_, by rw [← hx]; exact run_entry_at _ r b c seen es c e hset hbn hes hE.born⟩
    · show (left y && !decide (y = x)) = _
      rw [hl f hf y hy]
      simp only [Array.contains_push, Bool.not_or]
      by_cases hyx : y = x
      · subst hyx
        have : f = e := hE.entry hf hes (hy.trans hx.symm)
        subst this
        simp
      · have hfe : f.born ≠ e.born := fun hbe => hyx (by
          have hnd := hE.born
          obtain ⟨i, hil, ei⟩ := List.getElem_of_mem hf
          obtain ⟨j, hjl, ej⟩ := List.getElem_of_mem hes
          have e1' : (es.toList.map (·.born))[i]'(by simpa using hil) = (es.toList.map (·.born))[j]'(by simpa using hjl) := by
            simp only [List.getElem_map]
            rw [ei, ej, hbe]
          have hij : i = j := (List.getElem_inj hnd).1 e1'
          subst hij
          have hfe : f = e := by rw [← ei, ← ej]
          rw [hfe] at hy
          exact hi _ _ (hy.symm.trans hx))
        have hfe' : (f.born == e.born) = false := by simpa using hfe
        simp [hyx, hfe']
    · simp only [World.rangeLeft, hbn, hset, hb, hr]
      exact RangeB.left_lt (w := w) (w' := w) (b := b) (r := r) (c := c) he
    · have b0 : Below B w w1 := by rcases hw1 with rfl | rfl
                                   · exact Below.refl _ _
                                   · exact (Below.refl _ _).drew
      refine b0.trans ⟨rfl, rfl, rfl, by simp [setBlock], fun k hk => hoth k (by omega)⟩

/-- 'delete(m, k)' in the round -/
theorem RangeB.del {k t e ty : TypeId} {w : World} {b r : Nat} {M : α → Option Value} {left : α → Bool} (h : RangeB enc w b r M left) (T : KeyT P k enc) (ht : P.underlying t = some (.map k e)) (x : α) :
    ∃ w', (Builtin.delete_ #[t, k] ty #[.map (some b), enc x]).run P w = .ok (.tuple #[]) w' ∧ RangeB enc w' b r (delM M x) left ∧ Wrote w w' b ∧ w'.rangeLeft b r ≤ w.rangeLeft b r := by
  obtain ⟨hbl, hrl, hne⟩ := h.lt
  obtain ⟨es, c, seen, hb, hE, hr, hleft⟩ := h
  rcases T.find w x es.toList hE.key with ⟨h1, h2⟩ | ⟨j, e0, h1, h2, h3⟩
  · have hrn : (setBlock w b (.map es c)).heap[r]? = some (.mapIter (some b) c seen c) := by rw [heap_setBlock_other hb _ hne]; exact hr
    refine ⟨setBlock w b (.map es c), ?_, ⟨es, c, seen, heap_setBlock_same hb _, by rw [delM_miss (hE.miss h2)]; exact hE, hrn, hleft⟩, ⟨_, _, _, _, hb, rfl⟩, ?_⟩
    · simp [Builtin.delete_, run_underlying ht, MapKept.run_getObj_map hb, T.check w _ x, h1, MapKept.run_setObj_map _ hb, Result.andThen, setBlock]
    · simp only [World.rangeLeft, heap_setBlock_same hb, hrn, hb, hr]
      exact Nat.le_refl _
  · have hjl : j < es.toList.length := (List.getElem?_eq_some_iff.1 h2).1
    have hjs : j < es.size := by simpa using hjl
    have hsub : (es.eraseIdxIfInBounds j).toList = es.toList.eraseIdx j := by
      unfold Array.eraseIdxIfInBounds
      rw [dif_pos hjs]
      simp
    have hrn : (setBlock w b (.map (es.eraseIdxIfInBounds j) c)).heap[r]? = some (.mapIter (some b) c seen c) := by rw [heap_setBlock_other hb _ hne]; exact hr
    have hEr := hE.erase T.inj h2 h3 hsub
    refine ⟨setBlock w b (.map (es.eraseIdxIfInBounds j) c), ?_, ⟨_, _, seen, heap_setBlock_same hb _, hEr.1, hrn, fun f hf => hleft f ((hEr.2 f).1 hf).1⟩, ⟨_, _, _, _, hb, rfl⟩, ?_⟩
    · simp [Builtin.delete_, run_underlying ht, MapKept.run_getObj_map hb, T.check w _ x, h1, MapKept.run_setObj_map _ hb, Result.andThen, setBlock]
    · simp only [World.rangeLeft, heap_setBlock_same hb, hrn, hb, hr]
      exact leftOf_mono hsub
end

/-! ### at the operation -/
section
variable {P : Program} {α : Type} [DecidableEq α] {enc : α → Value} (w : World) {ops : Array Oper} {rest : List Oper} {o : Oper} {a : Act} {Q : Exit → Act → World → Prop}

theorem wpList_lookM (hg : o.guard = none) (m x : Operand) (t : TypeId) (hop : o.op = Op.lookup t m x true) {k e : TypeId} {b : Nat} {M : α → Option Value} (T : KeyT P k enc) (ht : P.underlying t = some (.map k e)) {z : Value} (hz : (zeroValue e).run P w = .ok z w)
    (hm : a.eval m = .map (some b)) (h : MapB enc w b M) (key : α) (hx : a.eval x = enc key) (hK : wpList P ops Q rest (a.put o.dst (.tuple #[(M key).getD z, .bool (M key).isSome])) w) : wpList P ops Q (o :: rest) a w := by
  refine wpList_plain hg fun K' hK' => ?_
  have hrun := h.look T ht hz key true
  unfold Oper.wp
  simp [execOp, hop, hm, hx, hrun, Result.andThen]
  exact hK' _ _ hK
theorem wpList_lookM' (hg : o.guard = none) (m x : Operand) (t : TypeId) (hop : o.op = Op.lookup t m x false) {k e : TypeId} {b : Nat} {M : α → Option Value} (T : KeyT P k enc) (ht : P.underlying t = some (.map k e)) {z : Value} (hz : (zeroValue e).run P w = .ok z w)
    (hm : a.eval m = .map (some b)) (h : MapB enc w b M) (key : α) (hx : a.eval x = enc key) (hK : wpList P ops Q rest (a.put o.dst ((M key).getD z)) w) : wpList P ops Q (o :: rest) a w := by
  refine wpList_plain hg fun K' hK' => ?_
  have hrun := h.look T ht hz key false
  unfold Oper.wp
  simp [execOp, hop, hm, hx, hrun, Result.andThen]
  exact hK' _ _ hK
theorem wpList_putM (hg : o.guard = none) (m x v : Operand) (t : TypeId) (hop : o.op = Op.mapUpdate t m x v) {k e : TypeId} {b : Nat} {M : α → Option Value} (T : KeyT P k enc) (ht : P.underlying t = some (.map k e))
    (hm : a.eval m = .map (some b)) (h : MapB enc w b M) (key : α) (hx : a.eval x = enc key) (val : Value) (hv : a.eval v = val) (hK : ∀ w', MapB enc w' b (putM M key val) → Wrote w w' b → wpList P ops Q rest (a.put o.dst undef) w') : wpList P ops Q (o :: rest) a w := by
  refine wpList_plain hg fun K' hK' => ?_
  obtain ⟨w', hrun, r1, r2⟩ := h.put T ht key val
  unfold Oper.wp
  simp [execOp, hop, hm, hx, hv, hrun, Result.andThen]
  exact hK' _ _ (hK w' r1 r2)
theorem wpList_delM (hg : o.guard = none) (m x : Operand) (t k : TypeId) (hop : o.op = Op.call { callee := Callee.builtin Builtin.delete, args := #[m, x], argTypes := #[t, k] }) {e : TypeId} {b : Nat} {M : α → Option Value} (T : KeyT P k enc) (ht : P.underlying t = some (.map k e))
    (hm : a.eval m = .map (some b)) (h : MapB enc w b M) (key : α) (hx : a.eval x = enc key) (hK : ∀ w', MapB enc w' b (delM M key) → Wrote w w' b → wpList P ops Q rest (a.put o.dst (.tuple #[])) w') : wpList P ops Q (o :: rest) a w := by
  refine wpList_plain hg fun K' hK' => ?_
  obtain ⟨w', hrun, r1, r2⟩ := h.del (ty := o.type) T ht key
  unfold Oper.wp
  simp [execOp, hop, resolve, invoke, builtin, hm, hx, hrun, Result.andThen]
  exact hK' _ _ (hK w' r1 r2)
theorem wpList_slotM (hg : o.guard = none) (m x : Operand) (t : TypeId) (hop : o.op = Op.mapEntry t m x) {k e : TypeId} {b : Nat} {M : α → Option Value} (T : KeyT P k enc) (ht : P.underlying t = some (.map k e)) {z : Value} (hz : ∀ w, (zeroValue e).run P w = .ok z w)
    (hm : a.eval m = .map (some b)) (h : MapB enc w b M) (key : α) (hx : a.eval x = enc key) (hK : ∀ (w' : World) (s : Nat), MapS enc w' b (putM M key ((M key).getD z)) key s → Wrote w w' b → wpList P ops Q rest (a.put o.dst (.tuple #[(M key).getD z, goInt s])) w') : wpList P ops Q (o :: rest) a w := by
  refine wpList_plain hg fun K' hK' => ?_
  obtain ⟨w', s, hrun, r1, r2⟩ := h.slot T ht hz key
  unfold Oper.wp
  simp [execOp, hop, hm, hx, hrun, Result.andThen]
  exact hK' _ _ (hK w' s r1 r2)
theorem wpList_fillM (hg : o.guard = none) (m x v : Operand) (t : TypeId) (hop : o.op = Op.entryStore t m x v) {b s : Nat} {key : α} {M : α → Option Value} (hi : ∀ x y, enc x = enc y → x = y)
    (hm : a.eval m = .map (some b)) (h : MapS enc w b M key s) (hx : a.eval x = goInt s) (val : Value) (hv : a.eval v = val) (hK : ∀ w', MapB enc w' b (putM M key val) → Wrote w w' b → wpList P ops Q rest (a.put o.dst undef) w') : wpList P ops Q (o :: rest) a w := by
  refine wpList_plain hg fun K' hK' => ?_
  obtain ⟨w', hrun, r1, r2⟩ := h.fill (P := P) (t := t) hi val
  unfold Oper.wp
  simp [execOp, hop, hm, hx, hv, hrun, Result.andThen]
  exact hK' _ _ (hK w' r1 r2)
theorem wpList_rangeM (hg : o.guard = none) (m : Operand) (t : TypeId) (hop : o.op = Op.range t m) {k e : TypeId} {b : Nat} {M : α → Option Value} (ht : P.underlying t = some (.map k e))
    (hm : a.eval m = .map (some b)) (h : MapB enc w b M) (hK : ∀ w', RangeB enc w' b w.heap.size M (fun _ => true) → Below w.heap.size w w' → wpList P ops Q rest (a.put o.dst (.pointer (some ⟨w.heap.size, 0, none⟩))) w') : wpList P ops Q (o :: rest) a w := by
  refine wpList_plain hg fun K' hK' => ?_
  obtain ⟨w', hrun, r1, r2⟩ := h.range ht
  unfold Oper.wp
  simp [execOp, hop, hm, hrun, Result.andThen]
  exact hK' _ _ (hK w' r1 r2)
theorem wpList_nextM (hg : o.guard = none) (it : Operand) (hop : o.op = Op.next it false) {b r : Nat} {M : α → Option Value} {left : α → Bool} (hi : ∀ x y, enc x = enc y → x = y)
    (hit : a.eval it = .pointer (some ⟨r, 0, none⟩)) (h : RangeB enc w b r M left)
    (hDone : (∀ x v, M x = some v → left x = false) → wpList P ops Q rest (a.put o.dst (.tuple #[.bool false])) w)
    (hMore : ∀ x v w', M x = some v → left x = true → RangeB enc w' b r M (fun y => left y && !decide (y = x)) → w'.rangeLeft b r < w.rangeLeft b r → w'.heap.size = w.heap.size → (∀ B, B ≤ r → Below B w w') →
      (Instr.entry (.pointer (some ⟨r, 0, none⟩))).run P w' = .ok (.tuple #[enc x, v]) w' → wpList P ops Q rest (a.put o.dst (.tuple #[.bool true, enc x, v])) w') : wpList P ops Q (o :: rest) a w := by
  refine wpList_plain hg fun K' hK' => ?_
  unfold Oper.wp
  rcases h.next (P := P) hi o.type with ⟨h0, hrun⟩ | ⟨x, v, w', h1, h2, hrun, h3, h4, h5, h6, h7⟩
  · simp [execOp, hop, hit, hrun, Result.andThen]
    exact hK' _ _ (hDone h0)
  · simp [execOp, hop, hit, hrun, Result.andThen]
    exact hK' _ _ (hMore x v w' h1 h2 h3 h4 h5 h6 h7)
theorem wpList_delR (hg : o.guard = none) (m x : Operand) (t k : TypeId) (hop : o.op = Op.call { callee := Callee.builtin Builtin.delete, args := #[m, x], argTypes := #[t, k] }) {e : TypeId} {b r : Nat} {M : α → Option Value} {left : α → Bool} (T : KeyT P k enc) (ht : P.underlying t = some (.map k e))
    (hm : a.eval m = .map (some b)) (h : RangeB enc w b r M left) (key : α) (hx : a.eval x = enc key) (hK : ∀ w', RangeB enc w' b r (delM M key) left → Wrote w w' b → w'.rangeLeft b r ≤ w.rangeLeft b r → wpList P ops Q rest (a.put o.dst (.tuple #[])) w') : wpList P ops Q (o :: rest) a w := by
  refine wpList_plain hg fun K' hK' => ?_
  obtain ⟨w', hrun, r1, r2, r3⟩ := h.del (ty := o.type) T ht key
  unfold Oper.wp
  simp [execOp, hop, resolve, invoke, builtin, hm, hx, hrun, Result.andThen]
  exact hK' _ _ (hK w' r1 r2 r3)
theorem wpList_makeM0 (hg : o.guard = none) (t : TypeId) (hop : o.op = Op.makeMap t none) {k e : TypeId} (ht : P.underlying t = some (.map k e))
    (hK : wpList P ops Q rest (a.put o.dst (.map (some w.heap.size))) (w.alloc (.map #[] 0))) : wpList P ops Q (o :: rest) a w := by
  refine wpList_plain hg fun K' hK' => ?_
  have hrun : (Instr.makeMap t none).run P w = .ok (.map (some w.heap.size)) (w.alloc (.map #[] 0)) := by
    simp only [Instr.makeMap, Sem.run_bind, run_underlying ht, Result.andThen_ok]
    rfl
  unfold Oper.wp
  simp [execOp, hop, hrun, Result.andThen]
  exact hK' _ _ hK
end

/-! ### at an operation of a region that draws its order -/
section
variable {P : Program} {α : Type} [DecidableEq α] {enc : α → Value} {w : World} {o : Oper} {a : Act} {K' : Act → World → Prop} {Q : Exit → Act → World → Prop}

theorem wp_putM (m x v : Operand) (t : TypeId) (hop : o.op = Op.mapUpdate t m x v) {k e : TypeId} {b : Nat} {M : α → Option Value} (T : KeyT P k enc) (ht : P.underlying t = some (.map k e))
    (hm : a.eval m = .map (some b)) (h : MapB enc w b M) (key : α) (hx : a.eval x = enc key) (val : Value) (hv : a.eval v = val) (hK : ∀ w', MapB enc w' b (putM M key val) → Wrote w w' b → K' (a.put o.dst undef) w') : o.wp P a w K' Q := by
  obtain ⟨w', hrun, r1, r2⟩ := h.put T ht key val
  unfold Oper.wp
  simp [execOp, hop, hm, hx, hv, hrun, Result.andThen]
  exact hK w' r1 r2
theorem wp_delM (m x : Operand) (t k : TypeId) (hop : o.op = Op.call { callee := Callee.builtin Builtin.delete, args := #[m, x], argTypes := #[t, k] }) {e : TypeId} {b : Nat} {M : α → Option Value} (T : KeyT P k enc) (ht : P.underlying t = some (.map k e))
    (hm : a.eval m = .map (some b)) (h : MapB enc w b M) (key : α) (hx : a.eval x = enc key) (hK : ∀ w', MapB enc w' b (delM M key) → Wrote w w' b → K' (a.put o.dst (.tuple #[])) w') : o.wp P a w K' Q := by
  obtain ⟨w', hrun, r1, r2⟩ := h.del (ty := o.type) T ht key
  unfold Oper.wp
  simp [execOp, hop, resolve, invoke, builtin, hm, hx, hrun, Result.andThen]
  exact hK w' r1 r2
theorem wp_makeM (t : TypeId) (r : Operand) (hop : o.op = Op.makeMap t (some r)) {k e : TypeId} (ht : P.underlying t = some (.map k e)) {q : IntKind} {n : Int} (hr : a.eval r = .int q n)
    (hK : K' (a.put o.dst (.map (some w.heap.size))) (w.alloc (.map #[] 0))) : o.wp P a w K' Q := by
  have hrun : (Instr.makeMap t (some (.int q n))).run P w = .ok (.map (some w.heap.size)) (w.alloc (.map #[] 0)) := by
    simp only [Instr.makeMap, Sem.run_bind, run_underlying ht, Result.andThen_ok, asInt, asIntOf]
    rfl
  unfold Oper.wp
  simp [execOp, hop, hr, hrun, Result.andThen]
  exact hK
theorem wp_make_full (l c : Operand) (t : TypeId) (hop : o.op = Op.makeSlice t l c)
    (base : Nat) (e : TypeId) (i : TypeInfo) (z : Value) (size : Nat) (h1 : P.underlying t = some (.slice e)) (h2 : P.info? e = some i) (h3 : i.zero = some z) (h4 : i.size = size)
    (kl kc : IntKind) (L C : Int) (n : Nat) (hl : a.eval l = .int kl L) (hc : a.eval c = .int kc C) (hL : L = (n : Int)) (hC : C = (n : Int)) (b2 : i.bytes * n ≤ 281474976710656) (b3 : n ≤ maxLen) (b4 : base ≤ w.heap.size)
    (hK : ∀ w', w'.ownsRow base e size (.slice (some ⟨w.heap.size, 0, none⟩) n n) n (madeCells z.cells (n * size)).toList → w.grownBy w' none → K' (a.put o.dst (.slice (some ⟨w.heap.size, 0, none⟩) n n)) w') : o.wp P a w K' Q := by
  obtain ⟨w', hrun, r1, r2⟩ := run_make_full (P := P) w base t e i z size h1 h2 h3 h4 kl kc n b2 b3 b4
  subst hL
  subst hC
  unfold Oper.wp
  simp [execOp, hop, hl, hc, hrun, Result.andThen]
  exact hK w' r1 r2
theorem wp_allocT (t : TypeId) (hop : o.op = Op.alloc t) (z : Value) (i : TypeInfo) (hi : P.info? t = some i) (hz : i.zero = some z)
    (hK : K' (a.put o.dst (.pointer (some ⟨w.heap.size, 0, none⟩))) (w.alloc (.cells z.cells t))) : o.wp P a w K' Q := by
  have hrun : (zeroValue t).run P w = .ok z w := by simp [zeroValue, typeInfo, hi, hz]
  unfold Oper.wp
  simp only [execOp, hop]
  simp [Instr.alloc, hrun, Result.andThen]
  exact hK
end
end Go.Proofs.YtodfdfncdoliiadGreat
