/-
  Chapter 11: the specification's TableOk (okTb), EffectAt (eaN), SameTable (smTb). Written by tools/tab.gen.py. Chapter 5: a new state, the specification's and the program's. Own work.
-/
import Derived.Test.YtodfdfncdoliiauTaC
import Derived.Test.YtodfdfncdoliiauEfD
import Derived.Test.YtodfdfncdoliiauGStAt3
import Derived.Deep.RegionHeld
import Derived.Deep.MidRow
import Derived.Test.YtodfdfncdoliiauStHeld
import Derived.Test.YtodfdfncdoliiauBytes
namespace Go.Proofs.Ytodfdfncdoliiau
open Go.ChangeShapes Go.WideShapes Go.ChangeAt Go.RowKit
set_option maxRecDepth 100000
set_option linter.unusedVariables false
set_option linter.unusedSimpArgs false

/-- what the functions of this chapter need of a list -/
def Tb.okW (t : Tb) (w : World) : Prop := t.n ≤ t.cap ∧ t.cap ≤ maxLen ∧ RdE efC 22 w t.b t.p t.n t.f ∧ ∀ i, i < t.n → (t.f i).okW w ∧ (t.f i).ac.ln ≤ 1048577
theorem Tb.okW.grew {t : Tb} {w w' : World} (h : t.okW w) (hb : Below w.heap.size w w') : t.okW w' := ⟨h.1, h.2.1, h.2.2.1.grew efC_ne hb, fun i hi => ⟨efw_grew (h.2.2.2 i hi).1 hb, (h.2.2.2 i hi).2⟩⟩
theorem Tb.okW.le {t : Tb} {w : World} (h : t.okW w) : t.n ≤ 9223372036854775807 := by have h1 := h.1; have h2 := h.2.1; unfold maxLen at h2; omega
/-- right, and behind the one ahead -/
def goodAt (f : Nat → Ef) (i : Nat) : Bool := okEf (f i) && !(decide (0 < i) && decide ((f i).id ≤ (f (i - 1)).id))
def okTb (n : Nat) (f : Nat → Ef) : Bool := (List.range n).all (goodAt f) && decide (n ≤ 5)
theorem okTb_no {n k : Nat} {f : Nat → Ef} (hk : k < n) (h : goodAt f k = false) : okTb n f = false := by
  unfold okTb
  have : (List.range n).all (goodAt f) = false := by
    rw [List.all_eq_false]
    exact ⟨k, List.mem_range.2 hk, by simp [h]⟩
  rw [this]; rfl
theorem okTb_yes {n : Nat} {f : Nat → Ef} (h : ∀ j, j < n → goodAt f j = true) : okTb n f = decide (n ≤ 5) := by
  unfold okTb
  have : (List.range n).all (goodAt f) = true := List.all_eq_true.2 fun j hj => h j (List.mem_range.1 hj)
  rw [this]; rfl
/-- the place of the first one of this Id -/
def eaN (f : Nat → Ef) (id : Int) (n : Nat) : Int := match (List.range n).find? (fun i => decide ((f i).id = id)) with
  | some i => i
  | none => -1
theorem eaN_miss {f : Nat → Ef} {id : Int} {n : Nat} (h : ∀ j, j < n → (f j).id ≠ id) : eaN f id n = -1 := by
  unfold eaN
  have : (List.range n).find? (fun i => decide ((f i).id = id)) = none := List.find?_eq_none.2 fun j hj => by simpa using h j (List.mem_range.1 hj)
  rw [this]
theorem eaN_hit {f : Nat → Ef} {id : Int} {n k : Nat} (hk : k < n) (h : ∀ j, j < k → (f j).id ≠ id) (e : (f k).id = id) : eaN f id n = k := by
  unfold eaN
  have : (List.range n).find? (fun i => decide ((f i).id = id)) = some k := by
    rw [List.find?_range_eq_some]
    refine ⟨by simpa using e, by simpa using hk, fun j hj => by simpa using h j hj⟩
  rw [this]
def smTb (n m : Nat) (f g : Nat → Ef) : Bool := decide (n = m) && (List.range n).all (fun i => smEf (f i) (g i))
theorem smTb_no {n k : Nat} {f g : Nat → Ef} (hk : k < n) (h : smEf (f k) (g k) = false) : smTb n n f g = false := by
  unfold smTb
  have : (List.range n).all (fun i => smEf (f i) (g i)) = false := by
    rw [List.all_eq_false]
    exact ⟨k, List.mem_range.2 hk, by simp [h]⟩
  rw [this]; simp
theorem smTb_yes {n : Nat} {f g : Nat → Ef} (h : ∀ j, j < n → smEf (f j) (g j) = true) : smTb n n f g = true := by
  unfold smTb
  have : (List.range n).all (fun i => smEf (f i) (g i)) = true := List.all_eq_true.2 fun j hj => h j (List.mem_range.1 hj)
  rw [this]; simp
theorem smTb_ne {n m : Nat} {f g : Nat → Ef} (h : n ≠ m) : smTb n m f g = false := by unfold smTb; simp [h]
set_option maxHeartbeats 4000000 in
theorem specEffectAt_any (t : Tb) (id : Int) (w : World) (hok : t.okW w) : Calls Try.prog 36 #[.slice t.p t.n t.cap, .int .i64 id] w fun e w' => e = .returned (.int .i64 (eaN t.f id t.n)) ∧ Below w.heap.size w w' := by
  have hnm := hok.le
  obtain ⟨p, n, cap, b, f⟩ := t
  obtain ⟨hc1, hc2, h, hf⟩ := hok
  dsimp only at hc1 hc2 h hf hnm ⊢
  go_enter Try.func36, Try.ntmps36
  go_wp2
  go_loopw [5] (fun i wr => ∃ k : Nat, k ≤ n ∧ i = .int .i64 k ∧ wr = w ∧ ∀ j, j < k → (f j).id ≠ id) (fun i _ => n - (intOf i).toNat)
  case atStart => exact ⟨0, Nat.zero_le _, rfl, rfl, fun j hj => by omega⟩
  case round =>
    obtain ⟨k, hk, rfl, rfl, hg⟩ := hrel
    by_cases hlt : k < n
    · rcases h with h3 | ⟨o1, rfl, h3⟩
      · omega
      have c0 : wr.cell? ⟨b, o1 + k * 22, none⟩ = some (.int .i64 (f k).id) := h3 k hlt 0 _ rfl
      have y1 : (0 : Int) ≤ (k : Int) := by omega
      have y2 : (k : Int) < (n : Int) := by omega
      clear h3
      by_cases hid : (f k).id = id
      · have HE : Hid (eaN f id n = k) := eaN_hit hlt hg hid
        rw [hid] at c0
        go_wp2
        go_ret
        rw [HE.out]; first | exact ⟨rfl, Below.refl _ _⟩ | exact ⟨trivial, Below.refl _ _⟩
      · have HG : Hid (∀ j, j < k + 1 → (f j).id ≠ id) := fun j hj => by
          by_cases hjk : j = k
          · subst hjk; exact hid
          · exact hg j (by omega)
        have hb : ((f k).id == id) = false := by simpa using hid
        generalize (f k).id = x at c0 hid hb
        go_wp2
        go_roundw
        case rel => first | exact ⟨k + 1, by omega, by go_num, trivial, HG.out⟩ | exact ⟨k + 1, by omega, by go_num, rfl, HG.out⟩
        case measure => simp [intOf]; omega
    · obtain rfl : k = n := by omega
      have HE : Hid (eaN f id k = -1) := eaN_miss hg
      go_wp2
      go_ret
      rw [HE.out]; first | exact ⟨rfl, Below.refl _ _⟩ | exact ⟨trivial, Below.refl _ _⟩
end Go.Proofs.Ytodfdfncdoliiau
namespace Go.Proofs.Ytodfdfncdoliiau
open Go.ChangeShapes Go.WideShapes Go.ChangeAt Go.RowKit
set_option maxRecDepth 100000
set_option linter.unusedVariables false
def nwN (n : Int) : Nat := if n = 3 then 3 else 2
def nwD : Nat → Sd := fun _ => ⟨20, 0, false⟩
def zF : Nat → Pc := fun _ => zP
theorem heap_setRow_ne' (w : World) (g k : Nat) (cs : Array Value) (h : k ≠ g) : (w.setRow g cs).heap[k]? = w.heap[k]? := by
  unfold World.setRow
  simp only [Array.getElem?_modify]
  rw [if_neg (Ne.symm h)]
theorem size_setRow' (w : World) (g : Nat) (cs : Array Value) : (w.setRow g cs).heap.size = w.heap.size := by simp [World.setRow]
theorem nw2 : (valsE sdC 2 nwD) = [.int .i64 20, .int .i64 0, .bool false, .int .i64 20, .int .i64 0, .bool false] := rfl
theorem nw3 : (valsE sdC 2 nwD) ++ [.int .i64 20, .int .i64 0, .bool false] = valsE sdC 3 nwD := rfl
theorem below_new2'' (w : World) (o : Obj) : Below w.heap.size w (w.alloc o) := (Below.refl _ _).alloc (Nat.le_refl _) _
theorem row_type {w : World} {B : Nat} {e : TypeId} {m : Nat} {g cap n : Nat} {xs : List Value} (h : w.ownsRow B e m (.slice (some ⟨g, 0, none⟩) n cap) n xs) : ∃ cur, w.heap[g]? = some (.cells cur e (0, 0)) ∧ cap ≤ maxLen := by
  rcases h.2 with ⟨h', _⟩ | ⟨g', cap', cur, h', hb, hg, hnc, hcm, hcs, htake⟩
  · simp at h'
  · simp only [Value.slice.injEq, Option.some.injEq, Addr.mk.injEq, and_true, true_and] at h'
    obtain ⟨rfl, rfl⟩ := h'
    exact ⟨cur, hg, hcm⟩
theorem box_ne {w : World} {b t g e : Nat} {cs cur : Array Value} (h : BoxR w b t cs) (k : w.heap[g]? = some (.cells cur e (0, 0))) (ht : t ≠ e) : g ≠ b := by
  intro he
  subst he
  rw [h] at k
  simp only [Option.some.injEq, Obj.cells.injEq] at k
  exact ht k.2.1
theorem OwnE.putLi {w : World} {B b off n : Nat} {f : Nat → Sd} (h : OwnE sdC 3 w B b (some ⟨b, off, none⟩) n f) (k : Nat) (hk : k < n) (v : Int) :
    OwnE sdC 3 (w.setCell ⟨b, off + k * 3, none⟩ (.int .i64 v)) B b (some ⟨b, off, none⟩) n (fun i => if i = k then ⟨v, (f k).po, (f k).lo⟩ else f i) := by
  have := h.putE sdC_len k hk ⟨v, (f k).po, (f k).lo⟩
  obtain ⟨h1, h2, h3, h4⟩ := h
  refine ⟨h1, by simpa [World.setCell] using h2, ?_, fun i => (World.frozen?_setCell _ _ _ _).trans (h4 i)⟩
  rcases h3 with h3 | ⟨o, e, hc⟩
  · omega
  simp only [Option.some.injEq, Addr.mk.injEq, and_true, true_and] at e
  subst e
  refine .inr ⟨off, rfl, fun i hi j u hu => ?_⟩
  by_cases hik : i = k
  · subst hik
    simp only [if_true] at hu
    by_cases hj : j = 0
    · subst hj
      simp only [sdC, List.getElem?_cons_zero, Option.some.injEq] at hu
      subst hu
      exact World.cell?_setCell_same _ _ _ (hc i hi 0 _ rfl)
    · rw [World.cell?_setCell_other _ _ _ _ (by intro e; simp at e; try omega)]
      refine hc i hi j u ?_
      rw [← hu]
      cases j with
      | zero => exact absurd rfl hj
      | succ j => rfl
  · simp only [if_neg hik] at hu
    have hj3 : j < 3 := (List.getElem?_eq_some_iff.1 hu).1
    rw [World.cell?_setCell_other _ _ _ _ (by intro e; simp at e; try omega)]
    exact hc i hi j u hu
theorem nw_step (k : Nat) : (fun i => if i = k then (⟨20, (tilE k nwD (fun _ => zS) k).po, (tilE k nwD (fun _ => zS) k).lo⟩ : Sd) else tilE k nwD (fun _ => zS) i) = tilE (k + 1) nwD (fun _ => zS) := by
  have e : tilE k nwD (fun _ => zS) k = zS := by unfold tilE; rw [if_neg (by omega)]
  rw [e, ← tilE_step]
  rfl
end Go.Proofs.Ytodfdfncdoliiau
