/-
  Chapter 11, the program: what stands in a table, in order (selE); marks. Written by tools/tai.gen.py. Chapter 10, the program: freshEffect: an effect with a list of its own. Written by tools/tai.gen.py. Own work.
-/
import Derived.Test.YtodfdfncdoliiauGreatGMaB3
import Derived.Test.YtodfdfncdoliiauGreatGTaH2
import Derived.Deep.DeepCutAuto
import Derived.Deep.CutBlock
import Derived.Laws.OwnMore
import Derived.Test.YtodfdfncdoliiauGreatSpB
namespace Go.Proofs.YtodfdfncdoliiauGreat
open Go.ChangeShapes Go.WideShapes Go.ChangeAt Go.RowKit
set_option maxRecDepth 100000
set_option linter.unusedVariables false
set_option linter.unusedSimpArgs false

/-- what list answers: those of the order that are there -/
def selE (M : Int × Int → Option Ef) (g : Nat → Int × Int) : Nat → List Ef
  | 0 => []
  | k + 1 => match M (g k) with
    | some x => selE M g k ++ [x]
    | none => selE M g k
def selF (d : Ef) (L : List Ef) : Nat → Ef := fun i => L.getD i d
theorem selE_some {M : Int × Int → Option Ef} {g : Nat → Int × Int} {k : Nat} {x : Ef} (h : M (g k) = some x) : selE M g (k + 1) = selE M g k ++ [x] := by
  have e : selE M g (k + 1) = match M (g k) with
    | some x => selE M g k ++ [x]
    | none => selE M g k := rfl
  rw [e, h]
theorem selE_none {M : Int × Int → Option Ef} {g : Nat → Int × Int} {k : Nat} (h : M (g k) = none) : selE M g (k + 1) = selE M g k := by
  have e : selE M g (k + 1) = match M (g k) with
    | some x => selE M g k ++ [x]
    | none => selE M g k := rfl
  rw [e, h]
theorem selE_len (M : Int × Int → Option Ef) (g : Nat → Int × Int) : ∀ k, (selE M g k).length ≤ k
  | 0 => Nat.le_refl _
  | k + 1 => by
    have := selE_len M g k
    cases h : M (g k) with
    | none => rw [selE_none h]; omega
    | some x => rw [selE_some h, List.length_append]; simp; omega
theorem selF_snoc (d : Ef) (L : List Ef) (x : Ef) : ∀ i, i < L.length + 1 → (if i < L.length then selF d L i else x) = selF d (L ++ [x]) i := fun i hi => by
  unfold selF
  by_cases h : i < L.length
  · rw [if_pos h, List.getD_eq_getElem?_getD, List.getD_eq_getElem?_getD, List.getElem?_append_left h]
  · rw [if_neg h]
    obtain rfl : i = L.length := by omega
    rw [List.getD_eq_getElem?_getD, List.getElem?_append_right (Nat.le_refl _)]
    simp
theorem selF_map (d : Ef) (F : Nat → Ef) (L : List Nat) {i : Nat} (hi : i < L.length) : selF d (L.map F) i = F (L.getD i 0) := by
  unfold selF
  rw [List.getD_eq_getElem?_getD, List.getElem?_map, List.getElem?_eq_getElem hi, List.getD_eq_getElem?_getD, List.getElem?_eq_getElem hi]
  rfl
theorem selF_range (d : Ef) (F : Nat → Ef) {n i : Nat} (hi : i < n) : selF d ((List.range n).map F) i = F i := by
  rw [selF_map d F _ (by simpa using hi)]
  congr 1
  rw [List.getD_eq_getElem?_getD, List.getElem?_range hi]
  rfl
theorem selE_all {M : Int × Int → Option Ef} {g : Nat → Int × Int} {F : Nat → Ef} : ∀ {n : Nat}, (∀ i, i < n → M (g i) = some (F i)) → selE M g n = (List.range n).map F
  | 0, _ => rfl
  | n + 1, h => by rw [selE_some (h n (Nat.lt_succ_self n)), selE_all (fun i hi => h i (by omega)), List.range_succ, List.map_append]; rfl
theorem selE_drop {M : Int × Int → Option Ef} {g : Nat → Int × Int} {f : Nat → Ef} {k : Nat} : ∀ {n : Nat}, k < n → (∀ i, i < n → M (g i) = if i = k then none else some (f i)) → selE M g n = (List.range (n - 1)).map (dpF k f)
  | 0, hk, _ => absurd hk (Nat.not_lt_zero k)
  | n + 1, hk, h => by
    have h0 := h n (Nat.lt_succ_self n)
    by_cases e : n = k
    · rw [if_pos e] at h0
      rw [selE_none h0, selE_all (F := dpF k f) (fun i hi => by rw [h i (by omega), if_neg (by omega)]; unfold dpF; rw [if_pos (by omega)])]
      simp
    · rw [if_neg e] at h0
      rw [selE_some h0, selE_drop (by omega) (fun i hi => h i (by omega))]
      obtain ⟨m, rfl⟩ : ∃ m, n = m + 1 := ⟨n - 1, by omega⟩
      simp only [Nat.add_sub_cancel]
      rw [List.range_succ, List.map_append]
      congr 1
      unfold dpF
      rw [List.map_singleton, if_neg (by omega)]
theorem selE_live {M : Int × Int → Option Ef} {g : Nat → Int × Int} {f : Nat → Ef} {c : Int} : ∀ {n : Nat}, (∀ i, i < n → M (g i) = if lvE (f i) c = true then some (f i) else none) → selE M g n = (exL f c n).map f
  | 0, _ => rfl
  | n + 1, h => by
    have h0 := h n (Nat.lt_succ_self n)
    have ih := selE_live (fun i hi => h i (by omega) : ∀ i, i < n → M (g i) = if lvE (f i) c = true then some (f i) else none)
    by_cases e : lvE (f n) c = true
    · rw [if_pos e] at h0
      rw [selE_some h0, ih]
      conv => rhs; unfold exL
      rw [if_pos e, List.map_append]
      rfl
    · rw [if_neg e] at h0
      rw [selE_none h0, ih]
      conv => rhs; unfold exL
      rw [if_neg e]

/-! ### the marks -/
theorem cntI_succ (f : Nat → Ef) (i : Nat) : cntI f (f i).id (i + 1) = cntI f (f i).id i + 1 := by
  conv => lhs; unfold cntI
  rw [if_pos rfl]
theorem cntI_mono (f : Nat → Ef) (id : Int) {a : Nat} : ∀ {b : Nat}, a ≤ b → cntI f id a ≤ cntI f id b
  | 0, h => by obtain rfl : a = 0 := by omega
               exact Nat.le_refl _
  | b + 1, h => by
    by_cases e : a = b + 1
    · rw [e]; exact Nat.le_refl _
    · have := cntI_mono f id (a := a) (b := b) (by omega)
      have h2 : cntI f id (b + 1) = cntI f id b + (if (f b).id = id then 1 else 0) := rfl
      omega
theorem cntI_lt (f : Nat → Ef) {i j : Nat} (h : i < j) : cntI f (f i).id i < cntI f (f i).id j := by
  have := cntI_mono f (f i).id (a := i + 1) (b := j) (by omega)
  rw [cntI_succ] at this
  omega
theorem mkAt_ne (f : Nat → Ef) {i j : Nat} (h : i < j) : mkAt f i ≠ mkAt f j := by
  intro e
  unfold mkAt at e
  have e1 : (f i).id = (f j).id := congrArg Prod.fst e
  have e2 : (cntI f (f i).id i : Int) = (cntI f (f j).id j : Int) := congrArg Prod.snd e
  have := cntI_lt f h
  rw [← e1] at e2
  omega
theorem mkAt_inj (f : Nat → Ef) {i j : Nat} (h : mkAt f i = mkAt f j) : i = j := by
  by_cases h1 : i < j
  · exact absurd h (mkAt_ne f h1)
  · by_cases h2 : j < i
    · exact absurd h.symm (mkAt_ne f h2)
    · omega
theorem tabM_at (f : Nat → Ef) {i : Nat} : ∀ {n : Nat}, i < n → tabM f n (mkAt f i) = some (f i)
  | 0, h => absurd h (Nat.not_lt_zero i)
  | n + 1, h => by
    unfold tabM
    by_cases e : mkAt f i = mkAt f n
    · rw [if_pos e, mkAt_inj f e]
    · rw [if_neg e]
      refine tabM_at f ?_
      have : i ≠ n := fun h2 => e (by rw [h2])
      omega
theorem tabM_some (f : Nat → Ef) {x : Int × Int} {v : Ef} : ∀ {n : Nat}, tabM f n x = some v → ∃ i, i < n ∧ x = mkAt f i ∧ v = f i
  | 0, h => by cases h
  | n + 1, h => by
    unfold tabM at h
    by_cases e : x = mkAt f n
    · rw [if_pos e] at h
      exact ⟨n, Nat.lt_succ_self n, e, (Option.some.inj h).symm⟩
    · rw [if_neg e] at h
      obtain ⟨i, hi, h1, h2⟩ := tabM_some f h
      exact ⟨i, by omega, h1, h2⟩
theorem cntI_zero {f : Nat → Ef} {id : Int} : ∀ {n : Nat}, (∀ j, j < n → (f j).id ≠ id) → cntI f id n = 0
  | 0, _ => rfl
  | n + 1, h => by
    have h2 : cntI f id (n + 1) = cntI f id n + (if (f n).id = id then 1 else 0) := rfl
    rw [h2, cntI_zero (fun j hj => h j (by omega)), if_neg (h n (Nat.lt_succ_self n))]
theorem cntI_zero' {f : Nat → Ef} {id : Int} {n : Nat} (h : cntI f id n = 0) : ∀ j, j < n → (f j).id ≠ id := fun j hj e => by
  have := cntI_lt f hj
  rw [e] at this
  omega
theorem mkAt_first {f : Nat → Ef} {id : Int} {i : Nat} : mkAt f i = (id, 0) ↔ (f i).id = id ∧ ∀ j, j < i → (f j).id ≠ id := by
  constructor
  · intro e
    unfold mkAt at e
    have e1 : (f i).id = id := congrArg Prod.fst e
    have e2 : (cntI f (f i).id i : Int) = 0 := congrArg Prod.snd e
    rw [e1] at e2
    exact ⟨e1, cntI_zero' (by omega)⟩
  · rintro ⟨e1, h⟩
    unfold mkAt
    rw [e1, cntI_zero h]
    rfl
theorem first_eaN {f : Nat → Ef} {id : Int} {n i : Nat} (hi : i < n) : mkAt f i = (id, 0) ↔ (i : Int) = eaN f id n := by
  rw [mkAt_first]
  constructor
  · rintro ⟨e, h⟩
    exact (eaN_hit hi h e).symm
  · intro e
    rcases eaN_cases f id n with ⟨h1, _⟩ | ⟨k, hk, h1, h2, h3⟩
    · rw [h1] at e; omega
    · obtain rfl : i = k := by rw [h1] at e; omega
      exact ⟨h2, h3⟩
theorem tabM_eaN (f : Nat → Ef) (id : Int) (n : Nat) : (eaN f id n = -1 ∧ tabM f n (id, 0) = none) ∨ ∃ k, k < n ∧ eaN f id n = k ∧ (f k).id = id ∧ mkAt f k = (id, 0) ∧ tabM f n (id, 0) = some (f k) := by
  rcases eaN_cases f id n with ⟨h1, h2⟩ | ⟨k, hk, h1, h2, h3⟩
  · refine .inl ⟨h1, ?_⟩
    cases h : tabM f n (id, 0) with
    | none => rfl
    | some v =>
      obtain ⟨i, hi, e, _⟩ := tabM_some f h
      exact absurd (mkAt_first.1 e.symm).1 (h2 i hi)
  · have e := mkAt_first.2 ⟨h2, h3⟩
    refine .inr ⟨k, hk, h1, h2, e, ?_⟩
    rw [← e]
    exact tabM_at f hk
theorem has_eaN (f : Nat → Ef) (id : Int) (n : Nat) : (tabM f n (id, 0)).isSome = decide (0 ≤ eaN f id n) := by
  rcases tabM_eaN f id n with ⟨h1, h2⟩ | ⟨k, hk, h1, _, _, h2⟩
  · rw [h1, h2]; rfl
  · rw [h1, h2]; simp
def delE (M : Int × Int → Option Ef) (x : Int × Int) : Int × Int → Option Ef := fun y => if y = x then none else M y
def putE' (M : Int × Int → Option Ef) (x : Int × Int) (e : Ef) : Int × Int → Option Ef := fun y => if y = x then some e else M y
theorem delE_val (M : Int × Int → Option Ef) (x : Int × Int) : delM (valM M) x = valM (delE M x) := by
  funext y
  unfold delM valM delE
  by_cases h : y = x
  · rw [if_pos h, if_pos h]; rfl
  · rw [if_neg h, if_neg h]
theorem putE_val (M : Int × Int → Option Ef) (x : Int × Int) (e : Ef) : putM (valM M) x (efV e) = valM (putE' M x e) := by
  funext y
  unfold putM valM putE'
  by_cases h : y = x
  · rw [if_pos h, if_pos h]; rfl
  · rw [if_neg h, if_neg h]
theorem sel_drop (d : Ef) (f : Nat → Ef) (id : Int) (n : Nat) : (selE (delE (tabM f n) (id, 0)) (mkAt f) n).length = drN f id n ∧ ∀ i, i < drN f id n → selF d (selE (delE (tabM f n) (id, 0)) (mkAt f) n) i = drG f id n i := by
  have hM : ∀ i, i < n → delE (tabM f n) (id, 0) (mkAt f i) = if (i : Int) = eaN f id n then none else some (f i) := fun i hi => by
    unfold delE
    by_cases e : (i : Int) = eaN f id n
    · rw [if_pos ((first_eaN hi).2 e), if_pos e]
    · rw [if_neg (fun h => e ((first_eaN hi).1 h)), if_neg e, tabM_at f hi]
  rcases eaN_cases f id n with ⟨h1, h2⟩ | ⟨k, hk, h1, h2, h3⟩
  · have hs := selE_all (M := delE (tabM f n) (id, 0)) (g := mkAt f) (F := f) (n := n) (fun i hi => by rw [hM i hi, if_neg (by omega)])
    unfold drN drG
    rw [if_neg (by omega), if_neg (by omega), hs]
    exact ⟨by simp, fun i hi => selF_range d f hi⟩
  · have hs := selE_drop (M := delE (tabM f n) (id, 0)) (g := mkAt f) (f := f) hk (fun i hi => by
      rw [hM i hi]
      by_cases e : i = k
      · rw [if_pos (by omega), if_pos e]
      · rw [if_neg (by omega), if_neg e])
    unfold drN drG
    rw [if_pos (by omega), if_pos (by omega), hs, h1]
    exact ⟨by simp, fun i hi => selF_range d _ hi⟩
theorem sel_live (d : Ef) (f : Nat → Ef) (c : Int) (n : Nat) {M : Int × Int → Option Ef} (h : ∀ i, i < n → M (mkAt f i) = if lvE (f i) c = true then some (f i) else none) : (selE M (mkAt f) n).length = (exL f c n).length ∧ ∀ i, i < (exL f c n).length → selF d (selE M (mkAt f) n) i = exF (exL f c n) f i := by
  rw [selE_live h]
  exact ⟨by simp, fun i hi => selF_map d f _ hi⟩
theorem sel_put (d : Ef) (f : Nat → Ef) (x : Ef) (n : Nat) (h : 0 ≤ eaN f x.id n) : (selE (putE' (tabM f n) (x.id, 0) x) (mkAt f) n).length = n ∧ ∀ i, i < n → selF d (selE (putE' (tabM f n) (x.id, 0) x) (mkAt f) n) i = upF n f x i := by
  rw [selE_all (F := upF n f x) (fun i hi => ?_)]
  · exact ⟨by simp, fun i hi => selF_range d _ hi⟩
  · unfold putE' upF
    by_cases e : (i : Int) = eaN f x.id n
    · rw [if_pos ((first_eaN hi).2 e), if_pos e]
    · rw [if_neg (fun h => e ((first_eaN hi).1 h)), if_neg e, tabM_at f hi]
theorem sel_same (d : Ef) (f : Nat → Ef) (n : Nat) : (selE (tabM f n) (mkAt f) n).length = n ∧ ∀ i, i < n → selF d (selE (tabM f n) (mkAt f) n) i = f i := by
  rw [selE_all (F := f) (fun i hi => tabM_at f hi)]
  exact ⟨by simp, fun i hi => selF_range d _ hi⟩
end Go.Proofs.YtodfdfncdoliiauGreat
namespace Go.Proofs.YtodfdfncdoliiauGreat
open Go.ChangeShapes Go.WideShapes Go.ChangeAt Go.RowKit
set_option maxRecDepth 100000
set_option linter.unusedVariables false
set_option linter.unusedSimpArgs false

set_option maxHeartbeats 4000000 in
theorem fresh_any (a : Ef) (w : World) (hok : a.okW w) (hn : a.ac.ln ≤ 1048577) : Calls Tryz.prog 53 #[(.agg #[.int .i64 a.id, .int .i64 a.si, .int .i64 a.sr, .int .i64 a.cl, .int .i64 a.pt.kd, .int .i64 a.pt.wh, .int .i64 a.pt.sr, .int .i64 a.pt.tr, .int .i64 a.pt.pi, .int .i64 a.pt.le, .int .i64 a.pt.zo, .int .i64 a.gd.kd, .int .i64 a.gd.nn, .int .i64 a.ac.kd, .int .i64 a.ac.nn, .int .i64 a.ac.pi, .int .i64 a.ac.si, .int .i64 a.ac.zo, .bool a.ac.be, .slice a.ac.la a.ac.ln a.ac.lcap, .int .i64 a.un, .int .i64 a.le])] w fun e w' => ∃ t : Ef, e = .returned (.agg #[.int .i64 t.id, .int .i64 t.si, .int .i64 t.sr, .int .i64 t.cl, .int .i64 t.pt.kd, .int .i64 t.pt.wh, .int .i64 t.pt.sr, .int .i64 t.pt.tr, .int .i64 t.pt.pi, .int .i64 t.pt.le, .int .i64 t.pt.zo, .int .i64 t.gd.kd, .int .i64 t.gd.nn, .int .i64 t.ac.kd, .int .i64 t.ac.nn, .int .i64 t.ac.pi, .int .i64 t.ac.si, .int .i64 t.ac.zo, .bool t.ac.be, .slice t.ac.la t.ac.ln t.ac.lcap, .int .i64 t.un, .int .i64 t.le]) ∧ Below w.heap.size w w' ∧ OwnF w' w.heap.size t ∧ AlikeF t a := by
  have HB := ((Below.refl _ w).alloc (Nat.le_refl _) (.cells #[.int .i64 a.id, .int .i64 a.si, .int .i64 a.sr, .int .i64 a.cl, .int .i64 a.pt.kd, .int .i64 a.pt.wh, .int .i64 a.pt.sr, .int .i64 a.pt.tr, .int .i64 a.pt.pi, .int .i64 a.pt.le, .int .i64 a.pt.zo, .int .i64 a.gd.kd, .int .i64 a.gd.nn, .int .i64 a.ac.kd, .int .i64 a.ac.nn, .int .i64 a.ac.pi, .int .i64 a.ac.si, .int .i64 a.ac.zo, .bool a.ac.be, .slice a.ac.la a.ac.ln a.ac.lcap, .int .i64 a.un, .int .i64 a.le] 44)).alloc (by simp) (.cells #[.int .i64 0, .int .i64 0, .int .i64 0, .int .i64 0, .int .i64 0, .int .i64 0, .int .i64 0, .int .i64 0, .int .i64 0, .int .i64 0, .int .i64 0, .int .i64 0, .int .i64 0, .int .i64 0, .int .i64 0, .int .i64 0, .int .i64 0, .int .i64 0, .bool false, .slice none 0 0, .int .i64 0, .int .i64 0] 44)
  have x1 := (boxR_new w 44 #[.int .i64 a.id, .int .i64 a.si, .int .i64 a.sr, .int .i64 a.cl, .int .i64 a.pt.kd, .int .i64 a.pt.wh, .int .i64 a.pt.sr, .int .i64 a.pt.tr, .int .i64 a.pt.pi, .int .i64 a.pt.le, .int .i64 a.pt.zo, .int .i64 a.gd.kd, .int .i64 a.gd.nn, .int .i64 a.ac.kd, .int .i64 a.ac.nn, .int .i64 a.ac.pi, .int .i64 a.ac.si, .int .i64 a.ac.zo, .bool a.ac.be, .slice a.ac.la a.ac.ln a.ac.lcap, .int .i64 a.un, .int .i64 a.le]).alloc (.cells #[.int .i64 0, .int .i64 0, .int .i64 0, .int .i64 0, .int .i64 0, .int .i64 0, .int .i64 0, .int .i64 0, .int .i64 0, .int .i64 0, .int .i64 0, .int .i64 0, .int .i64 0, .int .i64 0, .int .i64 0, .int .i64 0, .int .i64 0, .int .i64 0, .bool false, .slice none 0 0, .int .i64 0, .int .i64 0] 44)
  have x2 : BoxR ((w.alloc (.cells #[.int .i64 a.id, .int .i64 a.si, .int .i64 a.sr, .int .i64 a.cl, .int .i64 a.pt.kd, .int .i64 a.pt.wh, .int .i64 a.pt.sr, .int .i64 a.pt.tr, .int .i64 a.pt.pi, .int .i64 a.pt.le, .int .i64 a.pt.zo, .int .i64 a.gd.kd, .int .i64 a.gd.nn, .int .i64 a.ac.kd, .int .i64 a.ac.nn, .int .i64 a.ac.pi, .int .i64 a.ac.si, .int .i64 a.ac.zo, .bool a.ac.be, .slice a.ac.la a.ac.ln a.ac.lcap, .int .i64 a.un, .int .i64 a.le] 44)).alloc (.cells #[.int .i64 0, .int .i64 0, .int .i64 0, .int .i64 0, .int .i64 0, .int .i64 0, .int .i64 0, .int .i64 0, .int .i64 0, .int .i64 0, .int .i64 0, .int .i64 0, .int .i64 0, .int .i64 0, .int .i64 0, .int .i64 0, .int .i64 0, .int .i64 0, .bool false, .slice none 0 0, .int .i64 0, .int .i64 0] 44)) (w.heap.size + 1) 44 #[.int .i64 0, .int .i64 0, .int .i64 0, .int .i64 0, .int .i64 0, .int .i64 0, .int .i64 0, .int .i64 0, .int .i64 0, .int .i64 0, .int .i64 0, .int .i64 0, .int .i64 0, .int .i64 0, .int .i64 0, .int .i64 0, .int .i64 0, .int .i64 0, .bool false, .slice none 0 0, .int .i64 0, .int .i64 0] := heap_alloc2_new _ _ _
  generalize hW : (w.alloc (.cells #[.int .i64 a.id, .int .i64 a.si, .int .i64 a.sr, .int .i64 a.cl, .int .i64 a.pt.kd, .int .i64 a.pt.wh, .int .i64 a.pt.sr, .int .i64 a.pt.tr, .int .i64 a.pt.pi, .int .i64 a.pt.le, .int .i64 a.pt.zo, .int .i64 a.gd.kd, .int .i64 a.gd.nn, .int .i64 a.ac.kd, .int .i64 a.ac.nn, .int .i64 a.ac.pi, .int .i64 a.ac.si, .int .i64 a.ac.zo, .bool a.ac.be, .slice a.ac.la a.ac.ln a.ac.lcap, .int .i64 a.un, .int .i64 a.le] 44)).alloc (.cells #[.int .i64 0, .int .i64 0, .int .i64 0, .int .i64 0, .int .i64 0, .int .i64 0, .int .i64 0, .int .i64 0, .int .i64 0, .int .i64 0, .int .i64 0, .int .i64 0, .int .i64 0, .int .i64 0, .int .i64 0, .int .i64 0, .int .i64 0, .int .i64 0, .bool false, .slice none 0 0, .int .i64 0, .int .i64 0] 44) = W at HB x1 x2
  have r1 := hok.1.2.2.1.grew evC_ne HB
  have k19 := x1.cell 19
  simp at k19
  have hwl := x2.lt
  go_enter Tryz.func53, Tryz.ntmps53
  go_wp2_with fail
  refine (cloneEv_any a.ac.la a.ac.lb a.ac.ln a.ac.lcap a.ac.es _ hn r1).mono ?_
  rintro e w3 ⟨la, cap, rfl, hc1, hc2, hb, oL⟩
  clear k19 r1 hW
  have hV : w.heap.size + 1 < W.heap.size := hwl
  replace x1 := x1.grew hb
  replace x2 := x2.grew hb
  replace HB := below_app HB hb HB.size
  clear hb
  have k19 := x1.cell 19
  have f19 := x1.froz 19
  simp at k19
  have z1 := x1.put 19 (.slice la a.ac.ln cap)
  have z2 := x2.other (q := ⟨w.heap.size, 19, none⟩) (by simp) (.slice la a.ac.ln cap)
  have zb := HB.setCell (p := ⟨w.heap.size, 19, none⟩) (Nat.le_refl _) (.slice la a.ac.ln cap)
  simp only [List.setIfInBounds_toArray, List.set_cons_zero, List.set_cons_succ] at z1
  have zo : ∃ lb, w.heap.size ≤ lb ∧ lb < (w3.setCell ⟨w.heap.size, 19, none⟩ (.slice la a.ac.ln cap)).heap.size ∧ lb ≠ w.heap.size + 1 ∧ RdE evC 7 (w3.setCell ⟨w.heap.size, 19, none⟩ (.slice la a.ac.ln cap)) lb la a.ac.ln a.ac.es ∧ Free (w3.setCell ⟨w.heap.size, 19, none⟩ (.slice la a.ac.ln cap)) lb := by
    rcases oL with ⟨h1, h2⟩ | ⟨q, hq_, oq⟩
    · exact ⟨w.heap.size, Nat.le_refl _, z1.lt, by omega, .inl h1, free_row z1⟩
    · have oq' := oq.setCell (q := ⟨w.heap.size, 19, none⟩) (by have := oq.1; simp; omega) (.slice la a.ac.ln cap)
      exact ⟨q, by have := oq.1; omega, oq'.2.1, by have := oq.1; omega, oq'.2.2⟩
  go_upto_region 2 with fail
  generalize hU : w3.setCell ⟨w.heap.size, 19, none⟩ (.slice la a.ac.ln cap) = U at z1 z2 zb zo ⊢
  clear x1 x2 HB k19 f19 oL hU
  obtain ⟨lb, zo1, zo2, zo3, zo4, zo5⟩ := zo
  as_aux_lemma =>
    go_wp2_with first | (refine wpList_load_row rfl 44 _ rfl (w.heap.size) (by rfl) _ _ _ _ z1 Tryz.underlying44 rfl (by kernel_rfl) ?_) | (refine wpList_store_row rfl 44 (.tmp 2) _ rfl (w.heap.size + 1) _ (by rfl) (by rfl) _ _ z2 (by kernel_rfl) (by rfl) (by simp [Value.oneCell']) ?_)
    (try simp only [Exit.inBlock, Exit.then]); refine bodyPost_ret (results_cell_row rfl _ _ (w.heap.size + 1) _ _ _ _ rfl (setRow_heap _ _ _ _ _ _ z2) Tryz.underlying44 rfl (by kernel_rfl)) rfl ?_
    exact ⟨⟨a.id, a.si, a.sr, a.cl, a.pt, a.gd, ⟨a.ac.kd, a.ac.nn, a.ac.pi, a.ac.si, a.ac.zo, a.ac.be, la, a.ac.ln, cap, lb, a.ac.es⟩, a.un, a.le⟩, rfl, below_setRow zb (by omega) _, ⟨hc1, hc2, OwnE.setRow (g := w.heap.size + 1) ⟨zo1, zo2, zo4, zo5⟩ zo3 _⟩, ⟨rfl, rfl, rfl, rfl, rfl, rfl, ⟨rfl, rfl, rfl, rfl, rfl, rfl, rfl, rfl⟩, rfl, rfl⟩⟩
end Go.Proofs.YtodfdfncdoliiauGreat
