/-
  Chapter 11, the program: what stands in a table, in order (selE); marks. Written by tools/tai.gen.py. Chapter 10, the program: freshEffect: an effect with a list of its own. Written by tools/tai.gen.py. Chapter 11, the program: firstOf, has, list. Written by tools/tai.gen.py. Chapter 11, the program: list. Written by tools/tai.gen.py. Own work.
-/
import Derived.Test.YtodfdfncdoliiadGreatGRegCut3
import Derived.Test.YtodfdfncdoliiadGreatGTaH2
import Derived.Deep.DeepCutAuto
import Derived.Deep.CutBlock
import Derived.Laws.OwnMore
import Derived.Test.YtodfdfncdoliiadGreatGSpA5
import Derived.Deep.RegionHeld
import Derived.Deep.RegionHeldLaw
import Derived.Deep.MidRow
namespace Go.Proofs.YtodfdfncdoliiadGreat
open Go.ChangeShapes Go.WideShapes Go.ChangeAt Go.RowKit
set_option maxRecDepth 100000
set_option linter.unusedVariables false
set_option linter.unusedSimpArgs false

/-- what list answers: those of the order that are there -/
def selE (M : Int × Int → Option Ef) (g : Nat → Int × Int) : Nat → List Ef
  | 0 => []
  | k + 1 => match M (g k) with
    | some x => selE M g k ++ [x]
    | none => selE M g k
def selF (d : Ef) (L : List Ef) : Nat → Ef := fun i => L.getD i d
theorem selE_some {M : Int × Int → Option Ef} {g : Nat → Int × Int} {k : Nat} {x : Ef} (h : M (g k) = some x) : selE M g (k + 1) = selE M g k ++ [x] := by
  have e : selE M g (k + 1) = match M (g k) with
    | some x => selE M g k ++ [x]
    | none => selE M g k := rfl
  rw [e, h]
theorem selE_none {M : Int × Int → Option Ef} {g : Nat → Int × Int} {k : Nat} (h : M (g k) = none) : selE M g (k + 1) = selE M g k := by
  have e : selE M g (k + 1) = match M (g k) with
    | some x => selE M g k ++ [x]
    | none => selE M g k := rfl
  rw [e, h]
theorem selE_len (M : Int × Int → Option Ef) (g : Nat → Int × Int) : ∀ k, (selE M g k).length ≤ k
  | 0 => Nat.le_refl _
  | k + 1 => by
    have := selE_len M g k
    cases h : M (g k) with
    | none => rw [selE_none h]; omega
    | some x => rw [selE_some h, List.length_append]; simp; omega
theorem selF_snoc (d : Ef) (L : List Ef) (x : Ef) : ∀ i, i < L.length + 1 → (if i < L.length then selF d L i else x) = selF d (L ++ [x]) i := fun i hi => by
  unfold selF
  by_cases h : i < L.length
  · rw [if_pos h, List.getD_eq_getElem?_getD, List.getD_eq_getElem?_getD, List.getElem?_append_left h]
  · rw [if_neg h]
    obtain rfl : i = L.length := by omega
    rw [List.getD_eq_getElem?_getD, List.getElem?_append_right (Nat.le_refl _)]
    simp
theorem selF_map (d : Ef) (F : Nat → Ef) (L : List Nat) {i : Nat} (hi : i < L.length) : selF d (L.map F) i = F (L.getD i 0) := by
  unfold selF
  rw [List.getD_eq_getElem?_getD, List.getElem?_map, List.getElem?_eq_getElem hi, List.getD_eq_getElem?_getD, List.getElem?_eq_getElem hi]
  rfl
theorem selF_range (d : Ef) (F : Nat → Ef) {n i : Nat} (hi : i < n) : selF d ((List.range n).map F) i = F i := by
  rw [selF_map d F _ (by simpa using hi)]
  congr 1
  rw [List.getD_eq_getElem?_getD, List.getElem?_range hi]
  rfl
theorem selE_all {M : Int × Int → Option Ef} {g : Nat → Int × Int} {F : Nat → Ef} : ∀ {n : Nat}, (∀ i, i < n → M (g i) = some (F i)) → selE M g n = (List.range n).map F
  | 0, _ => rfl
  | n + 1, h => by rw [selE_some (h n (Nat.lt_succ_self n)), selE_all (fun i hi => h i (by omega)), List.range_succ, List.map_append]; rfl
theorem selE_drop {M : Int × Int → Option Ef} {g : Nat → Int × Int} {f : Nat → Ef} {k : Nat} : ∀ {n : Nat}, k < n → (∀ i, i < n → M (g i) = if i = k then none else some (f i)) → selE M g n = (List.range (n - 1)).map (dpF k f)
  | 0, hk, _ => absurd hk (Nat.not_lt_zero k)
  | n + 1, hk, h => by
    have h0 := h n (Nat.lt_succ_self n)
    by_cases e : n = k
    · rw [if_pos e] at h0
      rw [selE_none h0, selE_all (F := dpF k f) (fun i hi => by rw [h i (by omega), if_neg (by omega)]; unfold dpF; rw [if_pos (by omega)])]
      simp
    · rw [if_neg e] at h0
      rw [selE_some h0, selE_drop (by omega) (fun i hi => h i (by omega))]
      obtain ⟨m, rfl⟩ : ∃ m, n = m + 1 := ⟨n - 1, by omega⟩
      simp only [Nat.add_sub_cancel]
      rw [List.range_succ, List.map_append]
      congr 1
      unfold dpF
      rw [List.map_singleton, if_neg (by omega)]
theorem selE_live {M : Int × Int → Option Ef} {g : Nat → Int × Int} {f : Nat → Ef} {c : Int} : ∀ {n : Nat}, (∀ i, i < n → M (g i) = if lvE (f i) c = true then some (f i) else none) → selE M g n = (exL f c n).map f
  | 0, _ => rfl
  | n + 1, h => by
    have h0 := h n (Nat.lt_succ_self n)
    have ih := selE_live (fun i hi => h i (by omega) : ∀ i, i < n → M (g i) = if lvE (f i) c = true then some (f i) else none)
    by_cases e : lvE (f n) c = true
    · rw [if_pos e] at h0
      rw [selE_some h0, ih]
      conv => rhs; unfold exL
      rw [if_pos e, List.map_append]
      rfl
    · rw [if_neg e] at h0
      rw [selE_none h0, ih]
      conv => rhs; unfold exL
      rw [if_neg e]

/-! ### the marks -/
theorem cntI_succ (f : Nat → Ef) (i : Nat) : cntI f (f i).id (i + 1) = cntI f (f i).id i + 1 := by
  conv => lhs; unfold cntI
  rw [if_pos rfl]
theorem cntI_mono (f : Nat → Ef) (id : Int) {a : Nat} : ∀ {b : Nat}, a ≤ b → cntI f id a ≤ cntI f id b
  | 0, h => by obtain rfl : a = 0 := by omega
               exact Nat.le_refl _
  | b + 1, h => by
    by_cases e : a = b + 1
    · rw [e]; exact Nat.le_refl _
    · have := cntI_mono f id (a := a) (b := b) (by omega)
      have h2 : cntI f id (b + 1) = cntI f id b + (if (f b).id = id then 1 else 0) := rfl
      omega
theorem cntI_lt (f : Nat → Ef) {i j : Nat} (h : i < j) : cntI f (f i).id i < cntI f (f i).id j := by
  have := cntI_mono f (f i).id (a := i + 1) (b := j) (by omega)
  rw [cntI_succ] at this
  omega
theorem mkAt_ne (f : Nat → Ef) {i j : Nat} (h : i < j) : mkAt f i ≠ mkAt f j := by
  intro e
  unfold mkAt at e
  have e1 : (f i).id = (f j).id := congrArg Prod.fst e
  have e2 : (cntI f (f i).id i : Int) = (cntI f (f j).id j : Int) := congrArg Prod.snd e
  have := cntI_lt f h
  rw [← e1] at e2
  omega
theorem mkAt_inj (f : Nat → Ef) {i j : Nat} (h : mkAt f i = mkAt f j) : i = j := by
  by_cases h1 : i < j
  · exact absurd h (mkAt_ne f h1)
  · by_cases h2 : j < i
    · exact absurd h.symm (mkAt_ne f h2)
    · omega
theorem tabM_at (f : Nat → Ef) {i : Nat} : ∀ {n : Nat}, i < n → tabM f n (mkAt f i) = some (f i)
  | 0, h => absurd h (Nat.not_lt_zero i)
  | n + 1, h => by
    unfold tabM
    by_cases e : mkAt f i = mkAt f n
    · rw [if_pos e, mkAt_inj f e]
    · rw [if_neg e]
      refine tabM_at f ?_
      have : i ≠ n := fun h2 => e (by rw [h2])
      omega
theorem tabM_some (f : Nat → Ef) {x : Int × Int} {v : Ef} : ∀ {n : Nat}, tabM f n x = some v → ∃ i, i < n ∧ x = mkAt f i ∧ v = f i
  | 0, h => by cases h
  | n + 1, h => by
    unfold tabM at h
    by_cases e : x = mkAt f n
    · rw [if_pos e] at h
      exact ⟨n, Nat.lt_succ_self n, e, (Option.some.inj h).symm⟩
    · rw [if_neg e] at h
      obtain ⟨i, hi, h1, h2⟩ := tabM_some f h
      exact ⟨i, by omega, h1, h2⟩
theorem cntI_zero {f : Nat → Ef} {id : Int} : ∀ {n : Nat}, (∀ j, j < n → (f j).id ≠ id) → cntI f id n = 0
  | 0, _ => rfl
  | n + 1, h => by
    have h2 : cntI f id (n + 1) = cntI f id n + (if (f n).id = id then 1 else 0) := rfl
    rw [h2, cntI_zero (fun j hj => h j (by omega)), if_neg (h n (Nat.lt_succ_self n))]
theorem cntI_zero' {f : Nat → Ef} {id : Int} {n : Nat} (h : cntI f id n = 0) : ∀ j, j < n → (f j).id ≠ id := fun j hj e => by
  have := cntI_lt f hj
  rw [e] at this
  omega
theorem mkAt_first {f : Nat → Ef} {id : Int} {i : Nat} : mkAt f i = (id, 0) ↔ (f i).id = id ∧ ∀ j, j < i → (f j).id ≠ id := by
  constructor
  · intro e
    unfold mkAt at e
    have e1 : (f i).id = id := congrArg Prod.fst e
    have e2 : (cntI f (f i).id i : Int) = 0 := congrArg Prod.snd e
    rw [e1] at e2
    exact ⟨e1, cntI_zero' (by omega)⟩
  · rintro ⟨e1, h⟩
    unfold mkAt
    rw [e1, cntI_zero h]
    rfl
theorem first_eaN {f : Nat → Ef} {id : Int} {n i : Nat} (hi : i < n) : mkAt f i = (id, 0) ↔ (i : Int) = eaN f id n := by
  rw [mkAt_first]
  constructor
  · rintro ⟨e, h⟩
    exact (eaN_hit hi h e).symm
  · intro e
    rcases eaN_cases f id n with ⟨h1, _⟩ | ⟨k, hk, h1, h2, h3⟩
    · rw [h1] at e; omega
    · obtain rfl : i = k := by rw [h1] at e; omega
      exact ⟨h2, h3⟩
theorem tabM_eaN (f : Nat → Ef) (id : Int) (n : Nat) : (eaN f id n = -1 ∧ tabM f n (id, 0) = none) ∨ ∃ k, k < n ∧ eaN f id n = k ∧ (f k).id = id ∧ mkAt f k = (id, 0) ∧ tabM f n (id, 0) = some (f k) := by
  rcases eaN_cases f id n with ⟨h1, h2⟩ | ⟨k, hk, h1, h2, h3⟩
  · refine .inl ⟨h1, ?_⟩
    cases h : tabM f n (id, 0) with
    | none => rfl
    | some v =>
      obtain ⟨i, hi, e, _⟩ := tabM_some f h
      exact absurd (mkAt_first.1 e.symm).1 (h2 i hi)
  · have e := mkAt_first.2 ⟨h2, h3⟩
    refine .inr ⟨k, hk, h1, h2, e, ?_⟩
    rw [← e]
    exact tabM_at f hk
theorem has_eaN (f : Nat → Ef) (id : Int) (n : Nat) : (tabM f n (id, 0)).isSome = decide (0 ≤ eaN f id n) := by
  rcases tabM_eaN f id n with ⟨h1, h2⟩ | ⟨k, hk, h1, _, _, h2⟩
  · rw [h1, h2]; rfl
  · rw [h1, h2]; simp
def delE (M : Int × Int → Option Ef) (x : Int × Int) : Int × Int → Option Ef := fun y => if y = x then none else M y
def putE' (M : Int × Int → Option Ef) (x : Int × Int) (e : Ef) : Int × Int → Option Ef := fun y => if y = x then some e else M y
theorem delE_val (M : Int × Int → Option Ef) (x : Int × Int) : delM (valM M) x = valM (delE M x) := by
  funext y
  unfold delM valM delE
  by_cases h : y = x
  · rw [if_pos h, if_pos h]; rfl
  · rw [if_neg h, if_neg h]
theorem putE_val (M : Int × Int → Option Ef) (x : Int × Int) (e : Ef) : putM (valM M) x (efV e) = valM (putE' M x e) := by
  funext y
  unfold putM valM putE'
  by_cases h : y = x
  · rw [if_pos h, if_pos h]; rfl
  · rw [if_neg h, if_neg h]
theorem sel_drop (d : Ef) (f : Nat → Ef) (id : Int) (n : Nat) : (selE (delE (tabM f n) (id, 0)) (mkAt f) n).length = drN f id n ∧ ∀ i, i < drN f id n → selF d (selE (delE (tabM f n) (id, 0)) (mkAt f) n) i = drG f id n i := by
  have hM : ∀ i, i < n → delE (tabM f n) (id, 0) (mkAt f i) = if (i : Int) = eaN f id n then none else some (f i) := fun i hi => by
    unfold delE
    by_cases e : (i : Int) = eaN f id n
    · rw [if_pos ((first_eaN hi).2 e), if_pos e]
    · rw [if_neg (fun h => e ((first_eaN hi).1 h)), if_neg e, tabM_at f hi]
  rcases eaN_cases f id n with ⟨h1, h2⟩ | ⟨k, hk, h1, h2, h3⟩
  · have hs := selE_all (M := delE (tabM f n) (id, 0)) (g := mkAt f) (F := f) (n := n) (fun i hi => by rw [hM i hi, if_neg (by omega)])
    unfold drN drG
    rw [if_neg (by omega), if_neg (by omega), hs]
    exact ⟨by simp, fun i hi => selF_range d f hi⟩
  · have hs := selE_drop (M := delE (tabM f n) (id, 0)) (g := mkAt f) (f := f) hk (fun i hi => by
      rw [hM i hi]
      by_cases e : i = k
      · rw [if_pos (by omega), if_pos e]
      · rw [if_neg (by omega), if_neg e])
    unfold drN drG
    rw [if_pos (by omega), if_pos (by omega), hs, h1]
    exact ⟨by simp, fun i hi => selF_range d _ hi⟩
theorem sel_live (d : Ef) (f : Nat → Ef) (c : Int) (n : Nat) {M : Int × Int → Option Ef} (h : ∀ i, i < n → M (mkAt f i) = if lvE (f i) c = true then some (f i) else none) : (selE M (mkAt f) n).length = (exL f c n).length ∧ ∀ i, i < (exL f c n).length → selF d (selE M (mkAt f) n) i = exF (exL f c n) f i := by
  rw [selE_live h]
  exact ⟨by simp, fun i hi => selF_map d f _ hi⟩
theorem sel_put (d : Ef) (f : Nat → Ef) (x : Ef) (n : Nat) (h : 0 ≤ eaN f x.id n) : (selE (putE' (tabM f n) (x.id, 0) x) (mkAt f) n).length = n ∧ ∀ i, i < n → selF d (selE (putE' (tabM f n) (x.id, 0) x) (mkAt f) n) i = upF n f x i := by
  rw [selE_all (F := upF n f x) (fun i hi => ?_)]
  · exact ⟨by simp, fun i hi => selF_range d _ hi⟩
  · unfold putE' upF
    by_cases e : (i : Int) = eaN f x.id n
    · rw [if_pos ((first_eaN hi).2 e), if_pos e]
    · rw [if_neg (fun h => e ((first_eaN hi).1 h)), if_neg e, tabM_at f hi]
theorem sel_same (d : Ef) (f : Nat → Ef) (n : Nat) : (selE (tabM f n) (mkAt f) n).length = n ∧ ∀ i, i < n → selF d (selE (tabM f n) (mkAt f) n) i = f i := by
  rw [selE_all (F := f) (fun i hi => tabM_at f hi)]
  exact ⟨by simp, fun i hi => selF_range d _ hi⟩
end Go.Proofs.YtodfdfncdoliiadGreat
namespace Go.Proofs.YtodfdfncdoliiadGreat
open Go.ChangeShapes Go.WideShapes Go.ChangeAt Go.RowKit
set_option maxRecDepth 100000
set_option linter.unusedVariables false
set_option linter.unusedSimpArgs false

set_option maxHeartbeats 4000000 in
theorem fresh_any (a : Ef) (w : World) (hok : a.okW w) (hn : a.ac.ln ≤ 1048577) : Calls Tryz.prog 132 #[(.agg #[.int .i64 a.id, .int .i64 a.si, .int .i64 a.sr, .int .i64 a.cl, .int .i64 a.pt.kd, .int .i64 a.pt.wh, .int .i64 a.pt.sr, .int .i64 a.pt.tr, .int .i64 a.pt.pi, .int .i64 a.pt.le, .int .i64 a.pt.zo, .int .i64 a.gd.kd, .int .i64 a.gd.nn, .int .i64 a.ac.kd, .int .i64 a.ac.nn, .int .i64 a.ac.pi, .int .i64 a.ac.si, .int .i64 a.ac.zo, .bool a.ac.be, .slice a.ac.la a.ac.ln a.ac.lcap, .int .i64 a.un, .int .i64 a.le])] w fun e w' => ∃ t : Ef, e = .returned (.agg #[.int .i64 t.id, .int .i64 t.si, .int .i64 t.sr, .int .i64 t.cl, .int .i64 t.pt.kd, .int .i64 t.pt.wh, .int .i64 t.pt.sr, .int .i64 t.pt.tr, .int .i64 t.pt.pi, .int .i64 t.pt.le, .int .i64 t.pt.zo, .int .i64 t.gd.kd, .int .i64 t.gd.nn, .int .i64 t.ac.kd, .int .i64 t.ac.nn, .int .i64 t.ac.pi, .int .i64 t.ac.si, .int .i64 t.ac.zo, .bool t.ac.be, .slice t.ac.la t.ac.ln t.ac.lcap, .int .i64 t.un, .int .i64 t.le]) ∧ Below w.heap.size w w' ∧ OwnF w' w.heap.size t ∧ AlikeF t a := by
  have HB := ((Below.refl _ w).alloc (Nat.le_refl _) (.cells #[.int .i64 a.id, .int .i64 a.si, .int .i64 a.sr, .int .i64 a.cl, .int .i64 a.pt.kd, .int .i64 a.pt.wh, .int .i64 a.pt.sr, .int .i64 a.pt.tr, .int .i64 a.pt.pi, .int .i64 a.pt.le, .int .i64 a.pt.zo, .int .i64 a.gd.kd, .int .i64 a.gd.nn, .int .i64 a.ac.kd, .int .i64 a.ac.nn, .int .i64 a.ac.pi, .int .i64 a.ac.si, .int .i64 a.ac.zo, .bool a.ac.be, .slice a.ac.la a.ac.ln a.ac.lcap, .int .i64 a.un, .int .i64 a.le] 32)).alloc (by simp) (.cells #[.int .i64 0, .int .i64 0, .int .i64 0, .int .i64 0, .int .i64 0, .int .i64 0, .int .i64 0, .int .i64 0, .int .i64 0, .int .i64 0, .int .i64 0, .int .i64 0, .int .i64 0, .int .i64 0, .int .i64 0, .int .i64 0, .int .i64 0, .int .i64 0, .bool false, .slice none 0 0, .int .i64 0, .int .i64 0] 32)
  have x1 := (boxR_new w 32 #[.int .i64 a.id, .int .i64 a.si, .int .i64 a.sr, .int .i64 a.cl, .int .i64 a.pt.kd, .int .i64 a.pt.wh, .int .i64 a.pt.sr, .int .i64 a.pt.tr, .int .i64 a.pt.pi, .int .i64 a.pt.le, .int .i64 a.pt.zo, .int .i64 a.gd.kd, .int .i64 a.gd.nn, .int .i64 a.ac.kd, .int .i64 a.ac.nn, .int .i64 a.ac.pi, .int .i64 a.ac.si, .int .i64 a.ac.zo, .bool a.ac.be, .slice a.ac.la a.ac.ln a.ac.lcap, .int .i64 a.un, .int .i64 a.le]).alloc (.cells #[.int .i64 0, .int .i64 0, .int .i64 0, .int .i64 0, .int .i64 0, .int .i64 0, .int .i64 0, .int .i64 0, .int .i64 0, .int .i64 0, .int .i64 0, .int .i64 0, .int .i64 0, .int .i64 0, .int .i64 0, .int .i64 0, .int .i64 0, .int .i64 0, .bool false, .slice none 0 0, .int .i64 0, .int .i64 0] 32)
  have x2 : BoxR ((w.alloc (.cells #[.int .i64 a.id, .int .i64 a.si, .int .i64 a.sr, .int .i64 a.cl, .int .i64 a.pt.kd, .int .i64 a.pt.wh, .int .i64 a.pt.sr, .int .i64 a.pt.tr, .int .i64 a.pt.pi, .int .i64 a.pt.le, .int .i64 a.pt.zo, .int .i64 a.gd.kd, .int .i64 a.gd.nn, .int .i64 a.ac.kd, .int .i64 a.ac.nn, .int .i64 a.ac.pi, .int .i64 a.ac.si, .int .i64 a.ac.zo, .bool a.ac.be, .slice a.ac.la a.ac.ln a.ac.lcap, .int .i64 a.un, .int .i64 a.le] 32)).alloc (.cells #[.int .i64 0, .int .i64 0, .int .i64 0, .int .i64 0, .int .i64 0, .int .i64 0, .int .i64 0, .int .i64 0, .int .i64 0, .int .i64 0, .int .i64 0, .int .i64 0, .int .i64 0, .int .i64 0, .int .i64 0, .int .i64 0, .int .i64 0, .int .i64 0, .bool false, .slice none 0 0, .int .i64 0, .int .i64 0] 32)) (w.heap.size + 1) 32 #[.int .i64 0, .int .i64 0, .int .i64 0, .int .i64 0, .int .i64 0, .int .i64 0, .int .i64 0, .int .i64 0, .int .i64 0, .int .i64 0, .int .i64 0, .int .i64 0, .int .i64 0, .int .i64 0, .int .i64 0, .int .i64 0, .int .i64 0, .int .i64 0, .bool false, .slice none 0 0, .int .i64 0, .int .i64 0] := heap_alloc2_new _ _ _
  generalize hW : (w.alloc (.cells #[.int .i64 a.id, .int .i64 a.si, .int .i64 a.sr, .int .i64 a.cl, .int .i64 a.pt.kd, .int .i64 a.pt.wh, .int .i64 a.pt.sr, .int .i64 a.pt.tr, .int .i64 a.pt.pi, .int .i64 a.pt.le, .int .i64 a.pt.zo, .int .i64 a.gd.kd, .int .i64 a.gd.nn, .int .i64 a.ac.kd, .int .i64 a.ac.nn, .int .i64 a.ac.pi, .int .i64 a.ac.si, .int .i64 a.ac.zo, .bool a.ac.be, .slice a.ac.la a.ac.ln a.ac.lcap, .int .i64 a.un, .int .i64 a.le] 32)).alloc (.cells #[.int .i64 0, .int .i64 0, .int .i64 0, .int .i64 0, .int .i64 0, .int .i64 0, .int .i64 0, .int .i64 0, .int .i64 0, .int .i64 0, .int .i64 0, .int .i64 0, .int .i64 0, .int .i64 0, .int .i64 0, .int .i64 0, .int .i64 0, .int .i64 0, .bool false, .slice none 0 0, .int .i64 0, .int .i64 0] 32) = W at HB x1 x2
  have r1 := hok.1.2.2.1.grew evC_ne HB
  have k19 := x1.cell 19
  simp at k19
  have hwl := x2.lt
  go_enter Tryz.func132, Tryz.ntmps132
  go_wp2_with fail
  refine (cloneEv_any a.ac.la a.ac.lb a.ac.ln a.ac.lcap a.ac.es _ hn r1).mono ?_
  rintro e w3 ⟨la, cap, rfl, hc1, hc2, hb, oL⟩
  clear k19 r1 hW
  have hV : w.heap.size + 1 < W.heap.size := hwl
  replace x1 := x1.grew hb
  replace x2 := x2.grew hb
  replace HB := below_app HB hb HB.size
  clear hb
  have k19 := x1.cell 19
  have f19 := x1.froz 19
  simp at k19
  have z1 := x1.put 19 (.slice la a.ac.ln cap)
  have z2 := x2.other (q := ⟨w.heap.size, 19, none⟩) (by simp) (.slice la a.ac.ln cap)
  have zb := HB.setCell (p := ⟨w.heap.size, 19, none⟩) (Nat.le_refl _) (.slice la a.ac.ln cap)
  simp only [List.setIfInBounds_toArray, List.set_cons_zero, List.set_cons_succ] at z1
  have zo : ∃ lb, w.heap.size ≤ lb ∧ lb < (w3.setCell ⟨w.heap.size, 19, none⟩ (.slice la a.ac.ln cap)).heap.size ∧ lb ≠ w.heap.size + 1 ∧ RdE evC 7 (w3.setCell ⟨w.heap.size, 19, none⟩ (.slice la a.ac.ln cap)) lb la a.ac.ln a.ac.es ∧ Free (w3.setCell ⟨w.heap.size, 19, none⟩ (.slice la a.ac.ln cap)) lb := by
    rcases oL with ⟨h1, h2⟩ | ⟨q, hq_, oq⟩
    · exact ⟨w.heap.size, Nat.le_refl _, z1.lt, by omega, .inl h1, free_row z1⟩
    · have oq' := oq.setCell (q := ⟨w.heap.size, 19, none⟩) (by have := oq.1; simp; omega) (.slice la a.ac.ln cap)
      exact ⟨q, by have := oq.1; omega, oq'.2.1, by have := oq.1; omega, oq'.2.2⟩
  go_upto_region 2 with fail
  generalize hU : w3.setCell ⟨w.heap.size, 19, none⟩ (.slice la a.ac.ln cap) = U at z1 z2 zb zo ⊢
  clear x1 x2 HB k19 f19 oL hU
  obtain ⟨lb, zo1, zo2, zo3, zo4, zo5⟩ := zo
  as_aux_lemma =>
    go_wp2_with first | (refine wpList_load_row rfl 32 _ rfl (w.heap.size) (by rfl) _ _ _ _ z1 Tryz.underlying32 rfl (by kernel_rfl) ?_) | (refine wpList_store_row rfl 32 (.tmp 2) _ rfl (w.heap.size + 1) _ (by rfl) (by rfl) _ _ z2 (by kernel_rfl) (by rfl) (by simp [Value.oneCell']) ?_)
    (try simp only [Exit.inBlock, Exit.then]); refine bodyPost_ret (results_cell_row rfl _ _ (w.heap.size + 1) _ _ _ _ rfl (setRow_heap _ _ _ _ _ _ z2) Tryz.underlying32 rfl (by kernel_rfl)) rfl ?_
    exact ⟨⟨a.id, a.si, a.sr, a.cl, a.pt, a.gd, ⟨a.ac.kd, a.ac.nn, a.ac.pi, a.ac.si, a.ac.zo, a.ac.be, la, a.ac.ln, cap, lb, a.ac.es⟩, a.un, a.le⟩, rfl, below_setRow zb (by omega) _, ⟨hc1, hc2, OwnE.setRow (g := w.heap.size + 1) ⟨zo1, zo2, zo4, zo5⟩ zo3 _⟩, ⟨rfl, rfl, rfl, rfl, rfl, rfl, ⟨rfl, rfl, rfl, rfl, rfl, rfl, rfl, rfl⟩, rfl, rfl⟩⟩
end Go.Proofs.YtodfdfncdoliiadGreat
namespace Go.Proofs.YtodfdfncdoliiadGreat
open Go.ChangeShapes Go.WideShapes Go.ChangeAt Go.RowKit
set_option maxRecDepth 100000
set_option linter.unusedVariables false
set_option linter.unusedSimpArgs false

theorem firstOf_any (id : Int) (w : World) : Calls Tryz.prog 85 #[.int .i64 id] w fun e w' => e = .returned (.agg #[.int .i64 id, .int .i64 0]) ∧ Below w.heap.size w w' := by
  have rx := boxR_new w 117 #[.int .i64 0, .int .i64 0]
  have hb := below_new2'' w (.cells #[.int .i64 0, .int .i64 0] 117)
  go_enter Tryz.func85, Tryz.ntmps85
  go_upto_region 1 with fail
  generalize hW : w.alloc (.cells #[.int .i64 0, .int .i64 0] 117) = W at rx hb ⊢
  clear hW
  go_wp2_with (refine wpList_store_row rfl 117 (.tmp 2) _ rfl w.heap.size _ (by rfl) (by rfl) _ _ rx (by kernel_rfl) (by rfl) (by simp [Value.oneCell']) ?_)
  (try simp only [Exit.inBlock, Exit.then]); refine bodyPost_ret (results_cell_row rfl _ _ w.heap.size _ _ _ _ rfl (setRow_heap _ _ _ _ _ _ rx) Tryz.underlying117 rfl (by kernel_rfl)) rfl ?_
  exact ⟨rfl, below_setRow hb (Nat.le_refl _) _⟩
theorem getD_val (v : Option Ef) : ∃ y : Ef, (v.map efV).getD (.agg #[.int .i64 0, .int .i64 0, .int .i64 0, .int .i64 0, .int .i64 0, .int .i64 0, .int .i64 0, .int .i64 0, .int .i64 0, .int .i64 0, .int .i64 0, .int .i64 0, .int .i64 0, .int .i64 0, .int .i64 0, .int .i64 0, .int .i64 0, .int .i64 0, .bool false, .slice none 0 0, .int .i64 0, .int .i64 0]) = (.agg #[.int .i64 y.id, .int .i64 y.si, .int .i64 y.sr, .int .i64 y.cl, .int .i64 y.pt.kd, .int .i64 y.pt.wh, .int .i64 y.pt.sr, .int .i64 y.pt.tr, .int .i64 y.pt.pi, .int .i64 y.pt.le, .int .i64 y.pt.zo, .int .i64 y.gd.kd, .int .i64 y.gd.nn, .int .i64 y.ac.kd, .int .i64 y.ac.nn, .int .i64 y.ac.pi, .int .i64 y.ac.si, .int .i64 y.ac.zo, .bool y.ac.be, .slice y.ac.la y.ac.ln y.ac.lcap, .int .i64 y.un, .int .i64 y.le]) := by
  cases v with
  | none => exact ⟨zEf, rfl⟩
  | some x => exact ⟨x, rfl⟩
theorem World.cellB {w w' : World} {a : Addr} {v : Value} (h : w.cell? a = some v) (hb : Below w.heap.size w w') : w'.cell? a = some v := (World.cell?_of_block (w := w) (a := a) (hb.block a.block (World.block_lt_of_cell? w _ h))).trans h
set_option maxHeartbeats 4000000 in
theorem has_any (M : Int × Int → Option Ef) (mb : Nat) (p : Option Addr) (n cap : Nat) (id : Int) (w : World) (hm : MapB encMk w mb (valM M)) : Calls Tryz.prog 84 #[.agg #[.map (some mb), .slice p n cap], .int .i64 id] w fun e w' => e = .returned (.bool (M (id, 0)).isSome) ∧ Below w.heap.size w w' := by
  obtain ⟨ie, hie, hi0, hi1, hi2⟩ := info_parts Tryz.infoEf
  obtain ⟨y, hy⟩ := getD_val (M (id, 0))
  have hs : (valM M (id, 0)).isSome = (M (id, 0)).isSome := by unfold valM; simp
  obtain ⟨s, hs'⟩ : ∃ s, (M (id, 0)).isSome = s := ⟨_, rfl⟩
  rw [hs'] at hs ⊢
  have R0 := boxR_new w 113 #[.map (some mb), .slice p n cap]
  have hb0 := below_new2'' w (.cells #[.map (some mb), .slice p n cap] 113)
  have M0 := hm.grew hb0
  go_enter Tryz.func84, Tryz.ntmps84
  go_upto_region 1 with fail
  generalize hW : w.alloc (.cells #[.map (some mb), .slice p n cap] 113) = W at R0 hb0 M0 ⊢
  clear hW hm hs'
  have k0 : W.cell? ⟨w.heap.size, 0, none⟩ = some (.map (some mb)) := by have := R0.cell 0; simpa using this
  have HL : Hid (∀ u : World, Below W.heap.size W u → (Instr.lookup 110 (.map (some mb)) (.agg #[.int .i64 id, .int .i64 0]) true).run Tryz.prog u = .ok (.tuple #[(.agg #[.int .i64 y.id, .int .i64 y.si, .int .i64 y.sr, .int .i64 y.cl, .int .i64 y.pt.kd, .int .i64 y.pt.wh, .int .i64 y.pt.sr, .int .i64 y.pt.tr, .int .i64 y.pt.pi, .int .i64 y.pt.le, .int .i64 y.pt.zo, .int .i64 y.gd.kd, .int .i64 y.gd.nn, .int .i64 y.ac.kd, .int .i64 y.ac.nn, .int .i64 y.ac.pi, .int .i64 y.ac.si, .int .i64 y.ac.zo, .bool y.ac.be, .slice y.ac.la y.ac.ln y.ac.lcap, .int .i64 y.un, .int .i64 y.le]), .bool s]) u) := fun u hu => by
    have := (M0.grew hu).look keyM Tryz.underlying110 (zeroEf u) (id, 0) true
    rw [hs, show valM M (id, 0) = (M (id, 0)).map efV from rfl, hy, if_pos rfl] at this
    exact this
  refine wp_cutR (fun eb : Nat => [(8, .pointer (some ⟨w.heap.size, 0, none⟩)), (9, .map (some mb)), (10, .int .i64 id), (11, .agg #[.int .i64 id, .int .i64 0]), (12, .tuple #[(.agg #[.int .i64 y.id, .int .i64 y.si, .int .i64 y.sr, .int .i64 y.cl, .int .i64 y.pt.kd, .int .i64 y.pt.wh, .int .i64 y.pt.sr, .int .i64 y.pt.tr, .int .i64 y.pt.pi, .int .i64 y.pt.le, .int .i64 y.pt.zo, .int .i64 y.gd.kd, .int .i64 y.gd.nn, .int .i64 y.ac.kd, .int .i64 y.ac.nn, .int .i64 y.ac.pi, .int .i64 y.ac.si, .int .i64 y.ac.zo, .bool y.ac.be, .slice y.ac.la y.ac.ln y.ac.lcap, .int .i64 y.un, .int .i64 y.le]), .bool s]), (7, .tuple #[(.agg #[.int .i64 y.id, .int .i64 y.si, .int .i64 y.sr, .int .i64 y.cl, .int .i64 y.pt.kd, .int .i64 y.pt.wh, .int .i64 y.pt.sr, .int .i64 y.pt.tr, .int .i64 y.pt.pi, .int .i64 y.pt.le, .int .i64 y.pt.zo, .int .i64 y.gd.kd, .int .i64 y.gd.nn, .int .i64 y.ac.kd, .int .i64 y.ac.nn, .int .i64 y.ac.pi, .int .i64 y.ac.si, .int .i64 y.ac.zo, .bool y.ac.be, .slice y.ac.la y.ac.ln y.ac.lcap, .int .i64 y.un, .int .i64 y.le]), .bool s]), (13, (.agg #[.int .i64 y.id, .int .i64 y.si, .int .i64 y.sr, .int .i64 y.cl, .int .i64 y.pt.kd, .int .i64 y.pt.wh, .int .i64 y.pt.sr, .int .i64 y.pt.tr, .int .i64 y.pt.pi, .int .i64 y.pt.le, .int .i64 y.pt.zo, .int .i64 y.gd.kd, .int .i64 y.gd.nn, .int .i64 y.ac.kd, .int .i64 y.ac.nn, .int .i64 y.ac.pi, .int .i64 y.ac.si, .int .i64 y.ac.zo, .bool y.ac.be, .slice y.ac.la y.ac.ln y.ac.lcap, .int .i64 y.un, .int .i64 y.le])), (14, .bool s), (5, .pointer (some ⟨eb, 0, none⟩)), (6, .bool s)]) (fun _ u => Below w.heap.size w u) ?_ ?_
  · have hq : Below W.heap.size W W.drew := (Below.refl _ W).drew
    refine wp_region_held_drew (S := fun u : World => Below W.heap.size W u) (by kernel_rfl) hq (fun hHeld => ?_)
    clear hq M0 R0 hy hs
    generalize hU : W.drew = U at hHeld ⊢
    clear hU
    have hq := hHeld
    refine wpAnyH_take (i := 0) (oi := ⟨some 8, _, _, _, _, _⟩) (v := .pointer (some ⟨w.heap.size, 0, none⟩)) rfl (by kernel_rfl) (by kernel_rfl) (by kernel_rfl) (fun _ _ _ h => h) (Or.inl ⟨by kernel_rfl, fun u hSu => by clear hSu; go_simp⟩) hHeld ?_
    try simp only [Act.put, List.setIfInBounds_toArray, List.set_cons_zero, List.set_cons_succ]
    refine wpAnyH_take (i := 1) (oi := ⟨some 9, _, _, _, _, _⟩) (v := .map (some mb)) rfl (by kernel_rfl) (by kernel_rfl) (by kernel_rfl) (fun _ _ _ h => h) (Or.inl ⟨by kernel_rfl, fun u hSu => by have hcu := World.cellB k0 hSu; clear hSu; go_simp⟩) hHeld ?_
    try simp only [Act.put, List.setIfInBounds_toArray, List.set_cons_zero, List.set_cons_succ]
    refine wpAnyH_take (i := 2) (oi := ⟨some 10, _, _, _, _, _⟩) (v := .int .i64 id) rfl (by kernel_rfl) (by kernel_rfl) (by kernel_rfl) (fun _ _ _ h => h) (Or.inl ⟨by kernel_rfl, fun u hSu => by clear hSu; go_simp⟩) hHeld ?_
    try simp only [Act.put, List.setIfInBounds_toArray, List.set_cons_zero, List.set_cons_succ]
    refine wpAnyH_ready (rs := [3, 8]) (by kernel_rfl) (by simp) ?_
    refine AllReadyH.cons (o := ⟨some 11, _, _, _, _, _⟩) rfl (fun K' hK => ?_) ?_
    ·
      go_simp
      go_at_call 85
      refine (firstOf_any id _).mono ?_
      rintro e U3 ⟨rfl, hst⟩
      have hq2 := below_app hq hst hq.size
      refine hK.out _ _ hq2 (fun hHeld => ?_)
      clear hK hq hst
      have hq := hq2
      clear hq2
      try simp only [Act.put, List.setIfInBounds_toArray, List.set_cons_zero, List.set_cons_succ]
      refine wpAnyH_take (i := 4) (oi := ⟨some 12, _, _, _, _, _⟩) (v := .tuple #[(.agg #[.int .i64 y.id, .int .i64 y.si, .int .i64 y.sr, .int .i64 y.cl, .int .i64 y.pt.kd, .int .i64 y.pt.wh, .int .i64 y.pt.sr, .int .i64 y.pt.tr, .int .i64 y.pt.pi, .int .i64 y.pt.le, .int .i64 y.pt.zo, .int .i64 y.gd.kd, .int .i64 y.gd.nn, .int .i64 y.ac.kd, .int .i64 y.ac.nn, .int .i64 y.ac.pi, .int .i64 y.ac.si, .int .i64 y.ac.zo, .bool y.ac.be, .slice y.ac.la y.ac.ln y.ac.lcap, .int .i64 y.un, .int .i64 y.le]), .bool s]) rfl (by kernel_rfl) (by kernel_rfl) (by kernel_rfl) (fun _ _ _ h => h) (Or.inl ⟨by kernel_rfl, fun u hSu => by have hcu := HL.out u hSu; clear hSu; go_simp⟩) hHeld ?_
      try simp only [Act.put, List.setIfInBounds_toArray, List.set_cons_zero, List.set_cons_succ]
      refine wpAnyH_take (i := 5) (oi := ⟨some 7, _, _, _, _, _⟩) (v := .tuple #[(.agg #[.int .i64 y.id, .int .i64 y.si, .int .i64 y.sr, .int .i64 y.cl, .int .i64 y.pt.kd, .int .i64 y.pt.wh, .int .i64 y.pt.sr, .int .i64 y.pt.tr, .int .i64 y.pt.pi, .int .i64 y.pt.le, .int .i64 y.pt.zo, .int .i64 y.gd.kd, .int .i64 y.gd.nn, .int .i64 y.ac.kd, .int .i64 y.ac.nn, .int .i64 y.ac.pi, .int .i64 y.ac.si, .int .i64 y.ac.zo, .bool y.ac.be, .slice y.ac.la y.ac.ln y.ac.lcap, .int .i64 y.un, .int .i64 y.le]), .bool s]) rfl (by kernel_rfl) (by kernel_rfl) (by kernel_rfl) (fun _ _ _ h => h) (Or.inl ⟨by kernel_rfl, fun u hSu => by clear hSu; go_simp⟩) hHeld ?_
      try simp only [Act.put, List.setIfInBounds_toArray, List.set_cons_zero, List.set_cons_succ]
      refine wpAnyH_take (i := 6) (oi := ⟨some 13, _, _, _, _, _⟩) (v := (.agg #[.int .i64 y.id, .int .i64 y.si, .int .i64 y.sr, .int .i64 y.cl, .int .i64 y.pt.kd, .int .i64 y.pt.wh, .int .i64 y.pt.sr, .int .i64 y.pt.tr, .int .i64 y.pt.pi, .int .i64 y.pt.le, .int .i64 y.pt.zo, .int .i64 y.gd.kd, .int .i64 y.gd.nn, .int .i64 y.ac.kd, .int .i64 y.ac.nn, .int .i64 y.ac.pi, .int .i64 y.ac.si, .int .i64 y.ac.zo, .bool y.ac.be, .slice y.ac.la y.ac.ln y.ac.lcap, .int .i64 y.un, .int .i64 y.le])) rfl (by kernel_rfl) (by kernel_rfl) (by kernel_rfl) (fun _ _ _ h => h) (Or.inl ⟨by kernel_rfl, fun u hSu => by clear hSu; go_simp⟩) hHeld ?_
      try simp only [Act.put, List.setIfInBounds_toArray, List.set_cons_zero, List.set_cons_succ]
      refine wpAnyH_take (i := 7) (oi := ⟨some 14, _, _, _, _, _⟩) (v := .bool s) rfl (by kernel_rfl) (by kernel_rfl) (by kernel_rfl) (fun _ _ _ h => h) (Or.inl ⟨by kernel_rfl, fun u hSu => by clear hSu; go_simp⟩) hHeld ?_
      try simp only [Act.put, List.setIfInBounds_toArray, List.set_cons_zero, List.set_cons_succ]
      refine wpAnyH_ready (rs := [8]) (by kernel_rfl) (by simp) ?_
      refine AllReadyH.cons (o := ⟨some 5, _, _, _, _, _⟩) rfl (fun K' hK => ?_) AllReadyH.nil
      rw [if_pos (by kernel_rfl)]
      refine wp_allocT 32 rfl _ ie hie hi0 ?_
      have bx := boxR_new U3 32 #[.int .i64 0, .int .i64 0, .int .i64 0, .int .i64 0, .int .i64 0, .int .i64 0, .int .i64 0, .int .i64 0, .int .i64 0, .int .i64 0, .int .i64 0, .int .i64 0, .int .i64 0, .int .i64 0, .int .i64 0, .int .i64 0, .int .i64 0, .int .i64 0, .bool false, .slice none 0 0, .int .i64 0, .int .i64 0]
      have hst := below_new2'' U3 (.cells #[.int .i64 0, .int .i64 0, .int .i64 0, .int .i64 0, .int .i64 0, .int .i64 0, .int .i64 0, .int .i64 0, .int .i64 0, .int .i64 0, .int .i64 0, .int .i64 0, .int .i64 0, .int .i64 0, .int .i64 0, .int .i64 0, .int .i64 0, .int .i64 0, .bool false, .slice none 0 0, .int .i64 0, .int .i64 0] 32)
      have leb := hq.size
      have hq2 := below_app hq hst hq.size
      (try dsimp only [Value.cells])
      generalize hV : U3.alloc (.cells #[.int .i64 0, .int .i64 0, .int .i64 0, .int .i64 0, .int .i64 0, .int .i64 0, .int .i64 0, .int .i64 0, .int .i64 0, .int .i64 0, .int .i64 0, .int .i64 0, .int .i64 0, .int .i64 0, .int .i64 0, .int .i64 0, .int .i64 0, .int .i64 0, .bool false, .slice none 0 0, .int .i64 0, .int .i64 0] 32) = U38 at bx hst hq2 ⊢
      clear hV
      generalize U3.heap.size = eb at bx leb ⊢
      refine hK.out _ _ hq2 (fun hHeld => ?_)
      clear hK hq hst
      have hq := hq2
      clear hq2
      try simp only [Act.put, List.setIfInBounds_toArray, List.set_cons_zero, List.set_cons_succ]
      refine wpAnyH_ready (rs := [9]) (by kernel_rfl) (by simp) ?_
      refine AllReadyH.cons (o := ⟨none, _, _, _, _, _⟩) rfl (fun K' hK => ?_) AllReadyH.nil
      rw [if_pos (by kernel_rfl)]
      refine wp_store_row 32 (.tmp 5) (.tmp 13) rfl eb #[.int .i64 y.id, .int .i64 y.si, .int .i64 y.sr, .int .i64 y.cl, .int .i64 y.pt.kd, .int .i64 y.pt.wh, .int .i64 y.pt.sr, .int .i64 y.pt.tr, .int .i64 y.pt.pi, .int .i64 y.pt.le, .int .i64 y.pt.zo, .int .i64 y.gd.kd, .int .i64 y.gd.nn, .int .i64 y.ac.kd, .int .i64 y.ac.nn, .int .i64 y.ac.pi, .int .i64 y.ac.si, .int .i64 y.ac.zo, .bool y.ac.be, .slice y.ac.la y.ac.ln y.ac.lcap, .int .i64 y.un, .int .i64 y.le] (by rfl) (by rfl) _ _ bx (by kernel_rfl) (by rfl) (by simp [Value.oneCell']) ?_
      have hq2 := below_setRow hq leb #[.int .i64 y.id, .int .i64 y.si, .int .i64 y.sr, .int .i64 y.cl, .int .i64 y.pt.kd, .int .i64 y.pt.wh, .int .i64 y.pt.sr, .int .i64 y.pt.tr, .int .i64 y.pt.pi, .int .i64 y.pt.le, .int .i64 y.pt.zo, .int .i64 y.gd.kd, .int .i64 y.gd.nn, .int .i64 y.ac.kd, .int .i64 y.ac.nn, .int .i64 y.ac.pi, .int .i64 y.ac.si, .int .i64 y.ac.zo, .bool y.ac.be, .slice y.ac.la y.ac.ln y.ac.lcap, .int .i64 y.un, .int .i64 y.le]
      refine hK.out _ _ hq2 (fun hHeld => ?_)
      clear hK
      try simp only [Act.put, List.setIfInBounds_toArray, List.set_cons_zero, List.set_cons_succ]
      refine wpAnyH_take (i := 10) (oi := ⟨some 6, _, _, _, _, _⟩) (v := .bool s) rfl (by kernel_rfl) (by kernel_rfl) (by kernel_rfl) (fun _ _ _ h => h) (Or.inl ⟨by kernel_rfl, fun u hSu => by clear hSu; go_simp⟩) hHeld ?_
      try simp only [Act.put, List.setIfInBounds_toArray, List.set_cons_zero, List.set_cons_succ]
      refine wpAnyH_done (by kernel_rfl) ?_ _
      refine ⟨eb, ?_, below_app hb0 hq2 hb0.size⟩
      simp only [puts, List.foldl_cons, List.foldl_nil, Act.put, List.setIfInBounds_toArray, List.set_cons_zero, List.set_cons_succ]
    refine AllReadyH.cons (o := ⟨some 5, _, _, _, _, _⟩) rfl (fun K' hK => ?_) AllReadyH.nil
    rw [if_pos (by kernel_rfl)]
    refine wp_allocT 32 rfl _ ie hie hi0 ?_
    have bx := boxR_new U 32 #[.int .i64 0, .int .i64 0, .int .i64 0, .int .i64 0, .int .i64 0, .int .i64 0, .int .i64 0, .int .i64 0, .int .i64 0, .int .i64 0, .int .i64 0, .int .i64 0, .int .i64 0, .int .i64 0, .int .i64 0, .int .i64 0, .int .i64 0, .int .i64 0, .bool false, .slice none 0 0, .int .i64 0, .int .i64 0]
    have hst := below_new2'' U (.cells #[.int .i64 0, .int .i64 0, .int .i64 0, .int .i64 0, .int .i64 0, .int .i64 0, .int .i64 0, .int .i64 0, .int .i64 0, .int .i64 0, .int .i64 0, .int .i64 0, .int .i64 0, .int .i64 0, .int .i64 0, .int .i64 0, .int .i64 0, .int .i64 0, .bool false, .slice none 0 0, .int .i64 0, .int .i64 0] 32)
    have leb := hq.size
    have hq2 := below_app hq hst hq.size
    (try dsimp only [Value.cells])
    generalize hV : U.alloc (.cells #[.int .i64 0, .int .i64 0, .int .i64 0, .int .i64 0, .int .i64 0, .int .i64 0, .int .i64 0, .int .i64 0, .int .i64 0, .int .i64 0, .int .i64 0, .int .i64 0, .int .i64 0, .int .i64 0, .int .i64 0, .int .i64 0, .int .i64 0, .int .i64 0, .bool false, .slice none 0 0, .int .i64 0, .int .i64 0] 32) = U8 at bx hst hq2 ⊢
    clear hV
    generalize U.heap.size = eb at bx leb ⊢
    refine hK.out _ _ hq2 (fun hHeld => ?_)
    clear hK hq hst
    have hq := hq2
    clear hq2
    try simp only [Act.put, List.setIfInBounds_toArray, List.set_cons_zero, List.set_cons_succ]
    refine wpAnyH_ready (rs := [3]) (by kernel_rfl) (by simp) ?_
    refine AllReadyH.cons (o := ⟨some 11, _, _, _, _, _⟩) rfl (fun K' hK => ?_) AllReadyH.nil
    go_simp
    go_at_call 85
    refine (firstOf_any id _).mono ?_
    rintro e U83 ⟨rfl, hst⟩
    have hq2 := below_app hq hst hq.size
    replace bx := bx.grew hst
    refine hK.out _ _ hq2 (fun hHeld => ?_)
    clear hK hq hst
    have hq := hq2
    clear hq2
    try simp only [Act.put, List.setIfInBounds_toArray, List.set_cons_zero, List.set_cons_succ]
    refine wpAnyH_take (i := 4) (oi := ⟨some 12, _, _, _, _, _⟩) (v := .tuple #[(.agg #[.int .i64 y.id, .int .i64 y.si, .int .i64 y.sr, .int .i64 y.cl, .int .i64 y.pt.kd, .int .i64 y.pt.wh, .int .i64 y.pt.sr, .int .i64 y.pt.tr, .int .i64 y.pt.pi, .int .i64 y.pt.le, .int .i64 y.pt.zo, .int .i64 y.gd.kd, .int .i64 y.gd.nn, .int .i64 y.ac.kd, .int .i64 y.ac.nn, .int .i64 y.ac.pi, .int .i64 y.ac.si, .int .i64 y.ac.zo, .bool y.ac.be, .slice y.ac.la y.ac.ln y.ac.lcap, .int .i64 y.un, .int .i64 y.le]), .bool s]) rfl (by kernel_rfl) (by kernel_rfl) (by kernel_rfl) (fun _ _ _ h => h) (Or.inl ⟨by kernel_rfl, fun u hSu => by have hcu := HL.out u hSu; clear hSu; go_simp⟩) hHeld ?_
    try simp only [Act.put, List.setIfInBounds_toArray, List.set_cons_zero, List.set_cons_succ]
    refine wpAnyH_take (i := 5) (oi := ⟨some 7, _, _, _, _, _⟩) (v := .tuple #[(.agg #[.int .i64 y.id, .int .i64 y.si, .int .i64 y.sr, .int .i64 y.cl, .int .i64 y.pt.kd, .int .i64 y.pt.wh, .int .i64 y.pt.sr, .int .i64 y.pt.tr, .int .i64 y.pt.pi, .int .i64 y.pt.le, .int .i64 y.pt.zo, .int .i64 y.gd.kd, .int .i64 y.gd.nn, .int .i64 y.ac.kd, .int .i64 y.ac.nn, .int .i64 y.ac.pi, .int .i64 y.ac.si, .int .i64 y.ac.zo, .bool y.ac.be, .slice y.ac.la y.ac.ln y.ac.lcap, .int .i64 y.un, .int .i64 y.le]), .bool s]) rfl (by kernel_rfl) (by kernel_rfl) (by kernel_rfl) (fun _ _ _ h => h) (Or.inl ⟨by kernel_rfl, fun u hSu => by clear hSu; go_simp⟩) hHeld ?_
    try simp only [Act.put, List.setIfInBounds_toArray, List.set_cons_zero, List.set_cons_succ]
    refine wpAnyH_take (i := 6) (oi := ⟨some 13, _, _, _, _, _⟩) (v := (.agg #[.int .i64 y.id, .int .i64 y.si, .int .i64 y.sr, .int .i64 y.cl, .int .i64 y.pt.kd, .int .i64 y.pt.wh, .int .i64 y.pt.sr, .int .i64 y.pt.tr, .int .i64 y.pt.pi, .int .i64 y.pt.le, .int .i64 y.pt.zo, .int .i64 y.gd.kd, .int .i64 y.gd.nn, .int .i64 y.ac.kd, .int .i64 y.ac.nn, .int .i64 y.ac.pi, .int .i64 y.ac.si, .int .i64 y.ac.zo, .bool y.ac.be, .slice y.ac.la y.ac.ln y.ac.lcap, .int .i64 y.un, .int .i64 y.le])) rfl (by kernel_rfl) (by kernel_rfl) (by kernel_rfl) (fun _ _ _ h => h) (Or.inl ⟨by kernel_rfl, fun u hSu => by clear hSu; go_simp⟩) hHeld ?_
    try simp only [Act.put, List.setIfInBounds_toArray, List.set_cons_zero, List.set_cons_succ]
    refine wpAnyH_take (i := 7) (oi := ⟨some 14, _, _, _, _, _⟩) (v := .bool s) rfl (by kernel_rfl) (by kernel_rfl) (by kernel_rfl) (fun _ _ _ h => h) (Or.inl ⟨by kernel_rfl, fun u hSu => by clear hSu; go_simp⟩) hHeld ?_
    try simp only [Act.put, List.setIfInBounds_toArray, List.set_cons_zero, List.set_cons_succ]
    refine wpAnyH_ready (rs := [9]) (by kernel_rfl) (by simp) ?_
    refine AllReadyH.cons (o := ⟨none, _, _, _, _, _⟩) rfl (fun K' hK => ?_) AllReadyH.nil
    rw [if_pos (by kernel_rfl)]
    refine wp_store_row 32 (.tmp 5) (.tmp 13) rfl eb #[.int .i64 y.id, .int .i64 y.si, .int .i64 y.sr, .int .i64 y.cl, .int .i64 y.pt.kd, .int .i64 y.pt.wh, .int .i64 y.pt.sr, .int .i64 y.pt.tr, .int .i64 y.pt.pi, .int .i64 y.pt.le, .int .i64 y.pt.zo, .int .i64 y.gd.kd, .int .i64 y.gd.nn, .int .i64 y.ac.kd, .int .i64 y.ac.nn, .int .i64 y.ac.pi, .int .i64 y.ac.si, .int .i64 y.ac.zo, .bool y.ac.be, .slice y.ac.la y.ac.ln y.ac.lcap, .int .i64 y.un, .int .i64 y.le] (by rfl) (by rfl) _ _ bx (by kernel_rfl) (by rfl) (by simp [Value.oneCell']) ?_
    have hq2 := below_setRow hq leb #[.int .i64 y.id, .int .i64 y.si, .int .i64 y.sr, .int .i64 y.cl, .int .i64 y.pt.kd, .int .i64 y.pt.wh, .int .i64 y.pt.sr, .int .i64 y.pt.tr, .int .i64 y.pt.pi, .int .i64 y.pt.le, .int .i64 y.pt.zo, .int .i64 y.gd.kd, .int .i64 y.gd.nn, .int .i64 y.ac.kd, .int .i64 y.ac.nn, .int .i64 y.ac.pi, .int .i64 y.ac.si, .int .i64 y.ac.zo, .bool y.ac.be, .slice y.ac.la y.ac.ln y.ac.lcap, .int .i64 y.un, .int .i64 y.le]
    refine hK.out _ _ hq2 (fun hHeld => ?_)
    clear hK
    try simp only [Act.put, List.setIfInBounds_toArray, List.set_cons_zero, List.set_cons_succ]
    refine wpAnyH_take (i := 10) (oi := ⟨some 6, _, _, _, _, _⟩) (v := .bool s) rfl (by kernel_rfl) (by kernel_rfl) (by kernel_rfl) (fun _ _ _ h => h) (Or.inl ⟨by kernel_rfl, fun u hSu => by clear hSu; go_simp⟩) hHeld ?_
    try simp only [Act.put, List.setIfInBounds_toArray, List.set_cons_zero, List.set_cons_succ]
    refine wpAnyH_done (by kernel_rfl) ?_ _
    refine ⟨eb, ?_, below_app hb0 hq2 hb0.size⟩
    simp only [puts, List.foldl_cons, List.foldl_nil, Act.put, List.setIfInBounds_toArray, List.set_cons_zero, List.set_cons_succ]
  rintro eb u H0
  try simp only [puts, List.foldl_cons, List.foldl_nil, Act.put, List.setIfInBounds_toArray, List.set_cons_zero, List.set_cons_succ]
  clear HL k0
  go_wp2
  go_ret
  first | exact ⟨rfl, H0⟩ | exact ⟨trivial, H0⟩
end Go.Proofs.YtodfdfncdoliiadGreat
namespace Go.Proofs.YtodfdfncdoliiadGreat
open Go.ChangeShapes Go.WideShapes Go.ChangeAt Go.RowKit
set_option maxRecDepth 100000
set_option linter.unusedVariables false
set_option linter.unusedSimpArgs false

set_option maxHeartbeats 4000000 in
theorem list_any (M : Int × Int → Option Ef) (g : Nat → Int × Int) (d : Ef) (mb ob : Nat) (p : Option Addr) (n cap : Nat) (w : World) (hm : MapB encMk w mb (valM M)) (ho : RdE mkC 2 w ob p n g) (hn : n ≤ 1048578) (hf : ∀ i, i < n → ∀ x, M (g i) = some x → x.okW w ∧ x.ac.ln ≤ 1048577) :
    Calls Tryz.prog 83 #[.agg #[.map (some mb), .slice p n cap]] w fun e w' => ∃ v g', e = .returned v ∧ Below w.heap.size w w' ∧ BuildT w' w.heap.size v (selE M g n).length g' (selF d (selE M g n)) := by
  obtain ⟨ie, hie, hz0, hz1, hz2⟩ := info_parts Tryz.infoEf
  have R0 := boxR_new w 113 #[.map (some mb), .slice p n cap]
  have hb0 := below_new2'' w (.cells #[.map (some mb), .slice p n cap] 113)
  have M0 := hm.grew hb0
  have O0 := ho.grew mkC_ne hb0
  have hWs : (w.alloc (.cells #[.map (some mb), .slice p n cap] 113)).heap.size = w.heap.size + 1 := by simp
  go_enter Tryz.func83, Tryz.ntmps83
  go_upto_region 1 with fail
  generalize hW : w.alloc (.cells #[.map (some mb), .slice p n cap] 113) = W at R0 hb0 M0 O0 hWs ⊢
  clear hW hm ho
  replace hWs : Hid (W.heap.size = w.heap.size + 1) := hWs
  have hown0 : (W.alloc (.cells #[] 32)).ownsRow W.heap.size 32 22 (.slice (some ⟨W.heap.size, 0, none⟩) 0 0) 0 [] := World.ownsRow_lit W #[] 0 (Nat.le_refl _) (by decide) rfl
  have hb1 := below_new2'' W (.cells #[] 32)
  have R1 := R0.alloc (.cells #[] 32)
  have B0 : BuildT (W.alloc (.cells #[] 32)) W.heap.size (.slice (some ⟨W.heap.size, 0, none⟩) 0 0) (selE M g 0).length (fun _ => d) (selF d (selE M g 0)) := ⟨hown0, by simp, fun i hi => absurd hi (Nat.not_lt_zero i), fun i j _ hj => absurd hj (Nat.not_lt_zero j)⟩
  clear hown0
  have k1 : (W.alloc (.cells #[] 32)).cell? ⟨w.heap.size, 1, none⟩ = some (.slice p n cap) := by have := R1.cell 1; simpa using this
  go_upto_region 3 with fail
  generalize W.alloc (.cells #[] 32) = W0 at hb1 B0 R1 k1 ⊢
  clear R1 k1
  go_loopw [3, 12] (fun v i wr => ∃ (k : Nat) (g' : Nat → Ef), k ≤ n ∧ i = .int .i64 k ∧ Below W.heap.size W wr ∧ BuildT wr W.heap.size v (selE M g k).length g' (selF d (selE M g k))) (fun _ i _ => n - (intOf i).toNat)
  case atStart => exact ⟨0, fun _ => d, Nat.zero_le _, rfl, hb1, B0⟩
  case round =>
    clear hb1 B0
    obtain ⟨k, g', hk, rfl, hb, hB⟩ := hrel
    by_cases hlt : k < n
    · rcases O0.grew mkC_ne hb with h3 | ⟨o1, rfl, h3⟩
      · omega
      have ra : wr.rangeAt ob (o1 + k * 2) (mkC (g k)) := fun j v hv => h3 k hlt j v hv
      have mm := M0.grew hb
      have rr := R0.grew hb
      have y1 : (0 : Int) ≤ (k : Int) := by omega
      have y2 : (k : Int) < (n : Int) := by omega
      have hln := selE_len M g k
      have HS := fun x h => selE_some (M := M) (g := g) (k := k) (x := x) h
      have HN := fun h => selE_none (M := M) (g := g) (k := k) h
      have hx := hf k hlt
      have HX := fun x => selF_snoc d (selE M g k) x
      obtain ⟨m, hme⟩ : ∃ m, g k = m := ⟨_, rfl⟩
      rw [hme] at ra hx HS HN
      clear h3 hf hme
      have z0 := boxR_new wr 117 #[.int .i64 0, .int .i64 0]
      have zb := below_setRow (below_new2'' wr (.cells #[.int .i64 0, .int .i64 0] 117)) (Nat.le_refl _) (#[.int .i64 m.1, .int .i64 m.2] : Array Value)
      have z1 : BoxR ((wr.alloc (.cells #[.int .i64 0, .int .i64 0] 117)).setRow wr.heap.size #[.int .i64 m.1, .int .i64 m.2]) wr.heap.size 117 #[.int .i64 m.1, .int .i64 m.2] := setRow_heap _ _ _ _ _ _ z0
      go_upto_region 5 with first | (refine wpList_load_mid rfl 117 _ rfl ob (o1 + k * 2) (by rfl) [.int .i64 m.1, .int .i64 m.2] _ ra Tryz.underlying117 rfl (by kernel_rfl) ?_) | (refine wpList_store_row rfl 117 (.tmp 5) _ rfl wr.heap.size _ (by rfl) (by rfl) _ _ z0 (by kernel_rfl) (by rfl) (by simp [Value.oneCell']) ?_)
      generalize hU : (wr.alloc (.cells #[.int .i64 0, .int .i64 0] 117)).setRow wr.heap.size #[.int .i64 m.1, .int .i64 m.2] = U at zb z1 ⊢
      replace mm := mm.grew zb
      replace rr := rr.grew zb
      replace hB := hB.grew zb
      replace hb := below_app hb zb hb.size
      generalize wr.heap.size = gb at z1 ⊢
      clear z0 zb hU ra
      have c0 : U.cell? ⟨w.heap.size, 0, none⟩ = some (.map (some mb)) := by have := rr.cell 0; simpa using this
      cases hM : M m
      case none =>
        have hV1 : (valM M m).getD (.agg #[.int .i64 0, .int .i64 0, .int .i64 0, .int .i64 0, .int .i64 0, .int .i64 0, .int .i64 0, .int .i64 0, .int .i64 0, .int .i64 0, .int .i64 0, .int .i64 0, .int .i64 0, .int .i64 0, .int .i64 0, .int .i64 0, .int .i64 0, .int .i64 0, .bool false, .slice none 0 0, .int .i64 0, .int .i64 0]) = (.agg #[.int .i64 0, .int .i64 0, .int .i64 0, .int .i64 0, .int .i64 0, .int .i64 0, .int .i64 0, .int .i64 0, .int .i64 0, .int .i64 0, .int .i64 0, .int .i64 0, .int .i64 0, .int .i64 0, .int .i64 0, .int .i64 0, .int .i64 0, .int .i64 0, .bool false, .slice none 0 0, .int .i64 0, .int .i64 0]) := by unfold valM; rw [hM]; rfl
        have hV2 : (valM M m).isSome = false := by unfold valM; rw [hM]; rfl
        have y0 := boxR_new U 32 #[.int .i64 0, .int .i64 0, .int .i64 0, .int .i64 0, .int .i64 0, .int .i64 0, .int .i64 0, .int .i64 0, .int .i64 0, .int .i64 0, .int .i64 0, .int .i64 0, .int .i64 0, .int .i64 0, .int .i64 0, .int .i64 0, .int .i64 0, .int .i64 0, .bool false, .slice none 0 0, .int .i64 0, .int .i64 0]
        have yb := below_setRow (below_new2'' U (.cells #[.int .i64 0, .int .i64 0, .int .i64 0, .int .i64 0, .int .i64 0, .int .i64 0, .int .i64 0, .int .i64 0, .int .i64 0, .int .i64 0, .int .i64 0, .int .i64 0, .int .i64 0, .int .i64 0, .int .i64 0, .int .i64 0, .int .i64 0, .int .i64 0, .bool false, .slice none 0 0, .int .i64 0, .int .i64 0] 32)) (Nat.le_refl _) (#[.int .i64 0, .int .i64 0, .int .i64 0, .int .i64 0, .int .i64 0, .int .i64 0, .int .i64 0, .int .i64 0, .int .i64 0, .int .i64 0, .int .i64 0, .int .i64 0, .int .i64 0, .int .i64 0, .int .i64 0, .int .i64 0, .int .i64 0, .int .i64 0, .bool false, .slice none 0 0, .int .i64 0, .int .i64 0] : Array Value)
        have y9 : BoxR ((U.alloc (.cells #[.int .i64 0, .int .i64 0, .int .i64 0, .int .i64 0, .int .i64 0, .int .i64 0, .int .i64 0, .int .i64 0, .int .i64 0, .int .i64 0, .int .i64 0, .int .i64 0, .int .i64 0, .int .i64 0, .int .i64 0, .int .i64 0, .int .i64 0, .int .i64 0, .bool false, .slice none 0 0, .int .i64 0, .int .i64 0] 32)).setRow U.heap.size #[.int .i64 0, .int .i64 0, .int .i64 0, .int .i64 0, .int .i64 0, .int .i64 0, .int .i64 0, .int .i64 0, .int .i64 0, .int .i64 0, .int .i64 0, .int .i64 0, .int .i64 0, .int .i64 0, .int .i64 0, .int .i64 0, .int .i64 0, .int .i64 0, .bool false, .slice none 0 0, .int .i64 0, .int .i64 0]) U.heap.size 32 #[.int .i64 0, .int .i64 0, .int .i64 0, .int .i64 0, .int .i64 0, .int .i64 0, .int .i64 0, .int .i64 0, .int .i64 0, .int .i64 0, .int .i64 0, .int .i64 0, .int .i64 0, .int .i64 0, .int .i64 0, .int .i64 0, .int .i64 0, .int .i64 0, .bool false, .slice none 0 0, .int .i64 0, .int .i64 0] := setRow_heap _ _ _ _ _ _ y0
        go_upto_region 6 with first | (refine wpList_load_row rfl 117 _ rfl gb (by rfl) _ _ _ _ z1 Tryz.underlying117 rfl (by kernel_rfl) ?_) | (refine wpList_lookM _ rfl (.tmp 18) (.tmp 19) 110 rfl keyM Tryz.underlying110 (zeroEf _) rfl mm m rfl ?_; rw [hV1, hV2]) | (refine wpList_store_row rfl 32 (.tmp 6) _ rfl U.heap.size _ (by rfl) (by rfl) _ _ y0 (by kernel_rfl) (by rfl) (by simp [Value.oneCell']) ?_)
        generalize hV : (U.alloc (.cells #[.int .i64 0, .int .i64 0, .int .i64 0, .int .i64 0, .int .i64 0, .int .i64 0, .int .i64 0, .int .i64 0, .int .i64 0, .int .i64 0, .int .i64 0, .int .i64 0, .int .i64 0, .int .i64 0, .int .i64 0, .int .i64 0, .int .i64 0, .int .i64 0, .bool false, .slice none 0 0, .int .i64 0, .int .i64 0] 32)).setRow U.heap.size #[.int .i64 0, .int .i64 0, .int .i64 0, .int .i64 0, .int .i64 0, .int .i64 0, .int .i64 0, .int .i64 0, .int .i64 0, .int .i64 0, .int .i64 0, .int .i64 0, .int .i64 0, .int .i64 0, .int .i64 0, .int .i64 0, .int .i64 0, .int .i64 0, .bool false, .slice none 0 0, .int .i64 0, .int .i64 0] = V at yb y9 ⊢
        replace hB := hB.grew yb
        replace hb := below_app hb yb hb.size
        generalize U.heap.size = xb at y9 ⊢
        clear y0 yb hV c0 mm rr z1 hV1 hV2
        have HE := HN hM
        rw [← HE] at hB
        clear HS HN hM hx HX y9 M0 O0 R0 hb0 hWs
        go_wp2
        go_roundw
        case rel => first | exact ⟨k + 1, g', by omega, by go_num, hb, hB⟩ | ((repeat apply Exists.intro); exact ⟨⟨k + 1, g', by omega, by go_num, hb, hB⟩, rfl⟩)
        case measure => simp [intOf]; omega
      case some x =>
        have hV1 : (valM M m).getD (.agg #[.int .i64 0, .int .i64 0, .int .i64 0, .int .i64 0, .int .i64 0, .int .i64 0, .int .i64 0, .int .i64 0, .int .i64 0, .int .i64 0, .int .i64 0, .int .i64 0, .int .i64 0, .int .i64 0, .int .i64 0, .int .i64 0, .int .i64 0, .int .i64 0, .bool false, .slice none 0 0, .int .i64 0, .int .i64 0]) = (.agg #[.int .i64 x.id, .int .i64 x.si, .int .i64 x.sr, .int .i64 x.cl, .int .i64 x.pt.kd, .int .i64 x.pt.wh, .int .i64 x.pt.sr, .int .i64 x.pt.tr, .int .i64 x.pt.pi, .int .i64 x.pt.le, .int .i64 x.pt.zo, .int .i64 x.gd.kd, .int .i64 x.gd.nn, .int .i64 x.ac.kd, .int .i64 x.ac.nn, .int .i64 x.ac.pi, .int .i64 x.ac.si, .int .i64 x.ac.zo, .bool x.ac.be, .slice x.ac.la x.ac.ln x.ac.lcap, .int .i64 x.un, .int .i64 x.le]) := by unfold valM; rw [hM]; rfl
        have hV2 : (valM M m).isSome = true := by unfold valM; rw [hM]; rfl
        have y0 := boxR_new U 32 #[.int .i64 0, .int .i64 0, .int .i64 0, .int .i64 0, .int .i64 0, .int .i64 0, .int .i64 0, .int .i64 0, .int .i64 0, .int .i64 0, .int .i64 0, .int .i64 0, .int .i64 0, .int .i64 0, .int .i64 0, .int .i64 0, .int .i64 0, .int .i64 0, .bool false, .slice none 0 0, .int .i64 0, .int .i64 0]
        have yb := below_setRow (below_new2'' U (.cells #[.int .i64 0, .int .i64 0, .int .i64 0, .int .i64 0, .int .i64 0, .int .i64 0, .int .i64 0, .int .i64 0, .int .i64 0, .int .i64 0, .int .i64 0, .int .i64 0, .int .i64 0, .int .i64 0, .int .i64 0, .int .i64 0, .int .i64 0, .int .i64 0, .bool false, .slice none 0 0, .int .i64 0, .int .i64 0] 32)) (Nat.le_refl _) (#[.int .i64 x.id, .int .i64 x.si, .int .i64 x.sr, .int .i64 x.cl, .int .i64 x.pt.kd, .int .i64 x.pt.wh, .int .i64 x.pt.sr, .int .i64 x.pt.tr, .int .i64 x.pt.pi, .int .i64 x.pt.le, .int .i64 x.pt.zo, .int .i64 x.gd.kd, .int .i64 x.gd.nn, .int .i64 x.ac.kd, .int .i64 x.ac.nn, .int .i64 x.ac.pi, .int .i64 x.ac.si, .int .i64 x.ac.zo, .bool x.ac.be, .slice x.ac.la x.ac.ln x.ac.lcap, .int .i64 x.un, .int .i64 x.le] : Array Value)
        have y9 : BoxR ((U.alloc (.cells #[.int .i64 0, .int .i64 0, .int .i64 0, .int .i64 0, .int .i64 0, .int .i64 0, .int .i64 0, .int .i64 0, .int .i64 0, .int .i64 0, .int .i64 0, .int .i64 0, .int .i64 0, .int .i64 0, .int .i64 0, .int .i64 0, .int .i64 0, .int .i64 0, .bool false, .slice none 0 0, .int .i64 0, .int .i64 0] 32)).setRow U.heap.size #[.int .i64 x.id, .int .i64 x.si, .int .i64 x.sr, .int .i64 x.cl, .int .i64 x.pt.kd, .int .i64 x.pt.wh, .int .i64 x.pt.sr, .int .i64 x.pt.tr, .int .i64 x.pt.pi, .int .i64 x.pt.le, .int .i64 x.pt.zo, .int .i64 x.gd.kd, .int .i64 x.gd.nn, .int .i64 x.ac.kd, .int .i64 x.ac.nn, .int .i64 x.ac.pi, .int .i64 x.ac.si, .int .i64 x.ac.zo, .bool x.ac.be, .slice x.ac.la x.ac.ln x.ac.lcap, .int .i64 x.un, .int .i64 x.le]) U.heap.size 32 #[.int .i64 x.id, .int .i64 x.si, .int .i64 x.sr, .int .i64 x.cl, .int .i64 x.pt.kd, .int .i64 x.pt.wh, .int .i64 x.pt.sr, .int .i64 x.pt.tr, .int .i64 x.pt.pi, .int .i64 x.pt.le, .int .i64 x.pt.zo, .int .i64 x.gd.kd, .int .i64 x.gd.nn, .int .i64 x.ac.kd, .int .i64 x.ac.nn, .int .i64 x.ac.pi, .int .i64 x.ac.si, .int .i64 x.ac.zo, .bool x.ac.be, .slice x.ac.la x.ac.ln x.ac.lcap, .int .i64 x.un, .int .i64 x.le] := setRow_heap _ _ _ _ _ _ y0
        go_upto_region 6 with first | (refine wpList_load_row rfl 117 _ rfl gb (by rfl) _ _ _ _ z1 Tryz.underlying117 rfl (by kernel_rfl) ?_) | (refine wpList_lookM _ rfl (.tmp 18) (.tmp 19) 110 rfl keyM Tryz.underlying110 (zeroEf _) rfl mm m rfl ?_; rw [hV1, hV2]) | (refine wpList_store_row rfl 32 (.tmp 6) _ rfl U.heap.size _ (by rfl) (by rfl) _ _ y0 (by kernel_rfl) (by rfl) (by simp [Value.oneCell']) ?_)
        generalize hV : (U.alloc (.cells #[.int .i64 0, .int .i64 0, .int .i64 0, .int .i64 0, .int .i64 0, .int .i64 0, .int .i64 0, .int .i64 0, .int .i64 0, .int .i64 0, .int .i64 0, .int .i64 0, .int .i64 0, .int .i64 0, .int .i64 0, .int .i64 0, .int .i64 0, .int .i64 0, .bool false, .slice none 0 0, .int .i64 0, .int .i64 0] 32)).setRow U.heap.size #[.int .i64 x.id, .int .i64 x.si, .int .i64 x.sr, .int .i64 x.cl, .int .i64 x.pt.kd, .int .i64 x.pt.wh, .int .i64 x.pt.sr, .int .i64 x.pt.tr, .int .i64 x.pt.pi, .int .i64 x.pt.le, .int .i64 x.pt.zo, .int .i64 x.gd.kd, .int .i64 x.gd.nn, .int .i64 x.ac.kd, .int .i64 x.ac.nn, .int .i64 x.ac.pi, .int .i64 x.ac.si, .int .i64 x.ac.zo, .bool x.ac.be, .slice x.ac.la x.ac.ln x.ac.lcap, .int .i64 x.un, .int .i64 x.le] = V at yb y9 ⊢
        replace hB := hB.grew yb
        replace hb := below_app hb yb hb.size
        generalize U.heap.size = xb at y9 ⊢
        clear y0 yb hV c0 mm rr z1 hV1 hV2
        have HE := HS x hM
        have hxx := hx x hM
        have hxw := efw_grew (efw_grew hxx.1 hb0) hb
        have hxl := hxx.2
        replace HX := HX x
        generalize selE M g k = L at hB HX HE hln
        generalize hm : L.length = q at hB hln HX
        clear HS HN hM hx hxx M0 O0 R0 hb0 hWs
        go_wp2_with (refine wpList_load_row rfl 32 _ rfl xb (by rfl) _ _ _ _ y9 Tryz.underlying32 rfl (by kernel_rfl) ?_)
        refine (fresh_any x _ hxw hxl).mono ?_
        rintro e w3 ⟨y, rfl, hb2, oy, ky⟩
        have hown2 := owns_kept9 hB.1 hb2
        have hb3 := below_app hb hb2 hb.size
        have hvl := hown2.lt
        clear y9
        go_wp2_with (at_builtin; refine wpList_append_own_at _ rfl (.tmp 24) (.tmp 27) 56 rfl W.heap.size 32 ie (.agg #[.int .i64 0, .int .i64 0, .int .i64 0, .int .i64 0, .int .i64 0, .int .i64 0, .int .i64 0, .int .i64 0, .int .i64 0, .int .i64 0, .int .i64 0, .int .i64 0, .int .i64 0, .int .i64 0, .int .i64 0, .int .i64 0, .int .i64 0, .int .i64 0, .bool false, .slice none 0 0, .int .i64 0, .int .i64 0]) 22 192 Tryz.underlying56 hie hz0 hz1 hz2 rfl (by decide) _ _ _ rfl (hown2.alloc _) ⟨w3.heap.size, 0, none⟩ 1 1 (efC y) rfl rfl (cells_new _ _ _) (fun u hu => efC_one 1 (fun _ => y) u (by simpa [valsE] using hu)) (by unfold maxLen; omega) (by omega) (by have := hb3.size; simp; omega) ?_)
        intro v4 w4 hown4 hgr4 hnil4 hat4
        have HB := hB.snoc (hb2.alloc (by have := hb2.size; omega) (.cells #[.int .i64 y.id, .int .i64 y.si, .int .i64 y.sr, .int .i64 y.cl, .int .i64 y.pt.kd, .int .i64 y.pt.wh, .int .i64 y.pt.sr, .int .i64 y.pt.tr, .int .i64 y.pt.pi, .int .i64 y.pt.le, .int .i64 y.pt.zo, .int .i64 y.gd.kd, .int .i64 y.gd.nn, .int .i64 y.ac.kd, .int .i64 y.ac.nn, .int .i64 y.ac.pi, .int .i64 y.ac.si, .int .i64 y.ac.zo, .bool y.ac.be, .slice y.ac.la y.ac.ln y.ac.lcap, .int .i64 y.un, .int .i64 y.le] 32)) hb.size (OwnF.grew oy (below_new2'' w3 _)) ky hown4 hgr4 (fun e => by first | exact hnil4 e | exact hB.2.1 (hnil4.1 e).1) (by rw [World.size_alloc]; exact hat4)
        have hb4 : Below W.heap.size W w4 := (hb3.alloc hb3.size _).grown hgr4 (by have := hb3.size; simp; omega) (fun q hq => (hvl q hq).1)
        have hlen : (selE M g (k + 1)).length = q + 1 := by rw [HE]; simp [hm]
        replace HB := HB.congr (g' := _) (f' := selF d (selE M g (k + 1))) (fun i hi => rfl) (fun i hi => by rw [HE]; exact HX i hi)
        rw [← hlen] at HB
        clear hown4 hgr4 hnil4 hat4 hown2 hvl hb3 hb2 oy ky hB hb HX HE hlen hm hxw
        go_wp2
        go_roundw
        case rel => first | exact ⟨k + 1, _, by omega, by go_num, hb4, HB⟩ | ((repeat apply Exists.intro); exact ⟨⟨k + 1, _, by omega, by go_num, hb4, HB⟩, rfl⟩)
        case measure => simp [intOf]; omega
    · obtain rfl : k = n := by omega
      clear M0 O0 R0 hf
      go_wp2
      go_ret
      exact ⟨_, g', rfl, below_app hb0 hb hb0.size, hB.down (by have := hWs.out; omega)⟩
end Go.Proofs.YtodfdfncdoliiadGreat
