/-
  Chapter 11: at lists of effects that are alike; what is apart of what (OfT). Written by tools/tab.gen.py. Own work.
-/
import Derived.Test.YtodfdfncdoliiauGreatGTaH2
import Derived.Test.YtodfdfncdoliiauGreatTaD
namespace Go.Proofs.YtodfdfncdoliiauGreat
open Go.ChangeShapes Go.WideShapes Go.ChangeAt Go.RowKit
set_option maxRecDepth 100000
set_option linter.unusedVariables false
set_option linter.unusedSimpArgs false

theorem eaN_alike {n : Nat} {f g : Nat → Ef} {id : Int} (h : ∀ i, i < n → AlikeF (g i) (f i)) : eaN g id n = eaN f id n := by
  rcases eaN_cases f id n with ⟨he, hm⟩ | ⟨k, hk, he, hi, hm⟩
  · rw [he]; exact eaN_miss (fun j hj => by rw [(h j hj).id]; exact hm j hj)
  · rw [he]; exact eaN_hit hk (fun j hj => by rw [(h j (by omega)).id]; exact hm j hj) (by rw [(h k hk).id]; exact hi)
theorem insK_alike {f g : Nat → Ef} {id : Int} : ∀ {n : Nat}, (∀ i, i < n → AlikeF (g i) (f i)) → insK g id n = insK f id n
  | 0, _ => rfl
  | n + 1, h => by
    simp only [insK]
    rw [insK_alike (fun i hi => h i (by omega)), (h n (by omega)).id]
theorem insF_alike {n K : Nat} {f g : Nat → Ef} {x y : Ef} (h : ∀ i, i < n → AlikeF (g i) (f i)) (hx : AlikeF y x) (hK : K ≤ n) : ∀ i, i < n + 1 → AlikeF (insF K g y i) (insF K f x i) := fun i hi => by
  unfold insF
  by_cases h1 : i < K
  · rw [if_pos h1, if_pos h1]; exact h i (by omega)
  · by_cases h2 : i = K
    · rw [if_neg h1, if_neg h1, if_pos h2, if_pos h2]; exact hx
    · rw [if_neg h1, if_neg h1, if_neg h2, if_neg h2]; exact h (i - 1) (by omega)
theorem inOk_alike {n : Nat} {f g : Nat → Ef} {x y : Ef} (h : ∀ i, i < n → AlikeF (g i) (f i)) (hx : AlikeF y x) : inOk n g y = inOk n f x := by
  unfold inOk
  rw [eaN_alike h, insK_alike h, hx.id, okTb_alike (insF_alike h hx (insK_le f x.id n))]
theorem inN_alike {n : Nat} {f g : Nat → Ef} {x y : Ef} (h : ∀ i, i < n → AlikeF (g i) (f i)) (hx : AlikeF y x) : inN n g y = inN n f x := by unfold inN; rw [inOk_alike h hx]
theorem inF_alike {n : Nat} {f g : Nat → Ef} {x y : Ef} (h : ∀ i, i < n → AlikeF (g i) (f i)) (hx : AlikeF y x) : ∀ i, i < inN n f x → AlikeF (inF n g y i) (inF n f x i) := fun i hi => by
  unfold inF
  rw [inOk_alike h hx]
  unfold inN at hi
  by_cases hb : inOk n f x = true
  · rw [if_pos hb] at hi; rw [if_pos hb, if_pos hb, insK_alike h, hx.id]; exact insF_alike h hx (insK_le f x.id n) i hi
  · rw [if_neg hb] at hi; rw [if_neg hb, if_neg hb]; exact h i hi
theorem drN_alike {n : Nat} {f g : Nat → Ef} {id : Int} (h : ∀ i, i < n → AlikeF (g i) (f i)) : drN g id n = drN f id n := by unfold drN; rw [eaN_alike h]
theorem drG_alike {n : Nat} {f g : Nat → Ef} {id : Int} (h : ∀ i, i < n → AlikeF (g i) (f i)) : ∀ i, i < drN f id n → AlikeF (drG g id n i) (drG f id n i) := fun i hi => by
  unfold drG
  rw [eaN_alike h]
  unfold drN at hi
  by_cases hb : 0 ≤ eaN f id n
  · rw [if_pos hb] at hi; rw [if_pos hb, if_pos hb]
    unfold dpF
    by_cases h1 : i < (eaN f id n).toNat
    · rw [if_pos h1, if_pos h1]; exact h i (by omega)
    · rw [if_neg h1, if_neg h1]; exact h (i + 1) (by omega)
  · rw [if_neg hb] at hi; rw [if_neg hb, if_neg hb]; exact h i hi
theorem exL_alike {f g : Nat → Ef} {c : Int} : ∀ {n : Nat}, (∀ i, i < n → AlikeF (g i) (f i)) → exL g c n = exL f c n
  | 0, _ => rfl
  | n + 1, h => by
    simp only [exL]
    rw [exL_alike (fun i hi => h i (by omega))]
    have : lvE (g n) c = lvE (f n) c := by unfold lvE; rw [(h n (by omega)).un, (h n (by omega)).le]
    rw [this]
theorem exF_alike {n : Nat} {f g : Nat → Ef} {c : Int} (h : ∀ i, i < n → AlikeF (g i) (f i)) : ∀ i, i < (exL f c n).length → AlikeF (exF (exL f c n) g i) (exF (exL f c n) f i) := fun i hi => by
  unfold exF
  refine h _ (exL_lt f c n _ ?_)
  rw [List.getD_eq_getElem?_getD, List.getElem?_eq_getElem hi]
  exact List.getElem_mem hi
theorem upF_alike {n : Nat} {f g : Nat → Ef} {x y : Ef} (h : ∀ i, i < n → AlikeF (g i) (f i)) (hx : AlikeF y x) : ∀ i, i < n → AlikeF (upF n g y i) (upF n f x i) := fun i hi => by
  unfold upF
  rw [hx.id, eaN_alike h]
  by_cases hk : (i : Int) = eaN f x.id n
  · rw [if_pos hk, if_pos hk]; exact hx
  · rw [if_neg hk, if_neg hk]; exact h i hi
theorem smTb_alike {n m : Nat} {f g f' g' : Nat → Ef} (h : ∀ i, i < n → AlikeF (f' i) (f i)) (k : ∀ i, i < m → AlikeF (g' i) (g i)) : smTb n m f' g' = smTb n m f g := by
  unfold smTb
  by_cases hn : n = m
  · subst hn
    have : (List.range n).all (fun i => smEf (f' i) (g' i)) = (List.range n).all (fun i => smEf (f i) (g i)) := by
      rw [Bool.eq_iff_iff, List.all_eq_true, List.all_eq_true]
      constructor
      · intro q i hi; rw [← alike_smEf (h i (List.mem_range.1 hi)) (k i (List.mem_range.1 hi))]; exact q i hi
      · intro q i hi; rw [alike_smEf (h i (List.mem_range.1 hi)) (k i (List.mem_range.1 hi))]; exact q i hi
    rw [this]
  · simp [hn]
theorem AnsT.alike {w : World} {B N : Nat} {q : Tb} {F F' : Nat → Ef} (h : AnsT w B q N F) (e : ∀ i, i < N → AlikeF (F i) (F' i)) : AnsT w B q N F' := ⟨h.1, h.2.1, fun i hi => (h.2.2 i hi).trans (e i hi)⟩
/-- what a list says, wherever it lies -/
def sayT (N : Nat) (F : Nat → Ef) : Tb := ⟨none, N, 0, 0, F⟩
theorem AnsT.say {w : World} {B N : Nat} {q : Tb} {F : Nat → Ef} (h : AnsT w B q N F) : AlikeT q (sayT N F) := ⟨h.2.1, h.2.2⟩
theorem Tb.ok.w {t : Tb} {w : World} (h : t.ok w) (hl : ∀ i, i < t.n → (t.f i).ac.ln ≤ 1048576) : t.okW w := ⟨h.1, h.2.1, h.2.2.1, fun i hi => ⟨(h.2.2.2 i hi).w, by have := hl i hi; omega⟩⟩
theorem okW_al {w0 w : World} {B : Nat} {t a : Tb} (h : OwnTb w B t) (k : AlikeT t a) (hs : a.ok w0) (hl : ∀ i, i < a.n → (a.f i).ac.ln ≤ 1048576) : t.okW w :=
  (okT11 h k hs).w (fun i hi => by rw [(k.f i (by rw [← k.n]; exact hi)).ac.ln]; exact hl i (by rw [← k.n]; exact hi))
theorem AlikeT.g {t a : Tb} (k : AlikeT t a) : ∀ i, i < t.n → AlikeF (t.f i) (a.f i) := fun i hi => k.f i (by rw [← k.n]; exact hi)
/-- two that were made one behind the other have no block in common -/
theorem apartT {w w' : World} {B1 B2 : Nat} {t1 t2 : Tb} (h1 : OwnTb w B1 t1) (h2 : OwnTb w' B2 t2) (hB : w.heap.size ≤ B2) : ∀ k, OfT t1.b t1.n t1.f k → ¬ OfT t2.b t2.n t2.f k := by
  have l1 : ∀ k, OfT t1.b t1.n t1.f k → k < w.heap.size := fun k hk => by
    rcases hk with rfl | ⟨i, hi, rfl⟩
    · exact h1.2.2.1.2.1
    · exact (h1.2.2.2.1 i hi).1.lt.2
  have l2 : ∀ k, OfT t2.b t2.n t2.f k → B2 ≤ k := fun k hk => by
    rcases hk with rfl | ⟨i, hi, rfl⟩
    · exact h2.2.2.1.1
    · exact (h2.2.2.2.1 i hi).1.lt.1
  intro k a b
  have := l1 k a
  have := l2 k b
  omega
theorem OwnTb.all {w : World} {B : Nat} {t : Tb} (h : OwnTb w B t) : ∀ k, OfT t.b t.n t.f k → B ≤ k ∧ k < w.heap.size := fun k hk => by
  rcases hk with rfl | ⟨i, hi, rfl⟩
  · exact ⟨h.2.2.1.1, h.2.2.1.2.1⟩
  · exact (h.2.2.2.1 i hi).1.lt
theorem drG_ln {n : Nat} {f : Nat → Ef} {id : Int} (h : ∀ i, i < n → (f i).ac.ln ≤ 1048577) : ∀ i, i < drN f id n → (drG f id n i).ac.ln ≤ 1048577 := fun i hi => by
  unfold drG
  unfold drN at hi
  by_cases hb : 0 ≤ eaN f id n
  · rw [if_pos hb] at hi; rw [if_pos hb]; unfold dpF
    by_cases h1 : i < (eaN f id n).toNat
    · rw [if_pos h1]; exact h i (by omega)
    · rw [if_neg h1]; exact h (i + 1) (by omega)
  · rw [if_neg hb] at hi; rw [if_neg hb]; exact h i hi
theorem upF_ln {n : Nat} {f : Nat → Ef} {x : Ef} (h : ∀ i, i < n → (f i).ac.ln ≤ 1048577) (hx : x.ac.ln ≤ 1048577) : ∀ i, i < n → (upF n f x i).ac.ln ≤ 1048577 := fun i hi => by
  unfold upF
  split
  · exact hx
  · exact h i hi
theorem inF_ln {n : Nat} {f : Nat → Ef} {x : Ef} (h : ∀ i, i < n → (f i).ac.ln ≤ 1048577) (hx : x.ac.ln ≤ 1048577) : ∀ i, i < inN n f x → (inF n f x i).ac.ln ≤ 1048577 := fun i hi => by
  unfold inF
  unfold inN at hi
  by_cases hb : inOk n f x = true
  · rw [if_pos hb] at hi; rw [if_pos hb]
    have hK := insK_le f x.id n
    unfold insF
    by_cases h1 : i < insK f x.id n
    · rw [if_pos h1]; exact h i (by omega)
    · by_cases h2 : i = insK f x.id n
      · rw [if_neg h1, if_pos h2]; exact hx
      · rw [if_neg h1, if_neg h2]; exact h (i - 1) (by omega)
  · rw [if_neg hb] at hi; rw [if_neg hb]; exact h i hi
theorem OwnF.onlyS {S : Nat → Prop} {w w' : World} {B : Nat} {t : Ef} (h : OwnF w B t) (ho : OnlyS S w w') (hs : ¬ S t.ac.lb) : OwnF w' B t := ⟨h.1, h.2.1, h.2.2.same (ho.block _ h.lt.2 hs) ho.size⟩
theorem apartFT {w w' : World} {B1 B2 : Nat} {v : Ef} {t : Tb} (h1 : OwnF w B1 v) (h2 : OwnTb w' B2 t) (hB : w.heap.size ≤ B2) : ¬ OfT t.b t.n t.f v.ac.lb := fun k => by
  have := (h2.all _ k).1
  have := h1.lt.2
  omega
theorem apartTF {w w' : World} {B1 B2 : Nat} {v : Ef} {t : Tb} (h1 : OwnTb w B1 t) (h2 : OwnF w' B2 v) (hB : w.heap.size ≤ B2) : ¬ OfT t.b t.n t.f v.ac.lb := fun k => by
  have := (h1.all _ k).2
  have := h2.lt.1
  omega
theorem apartTB {w : World} {B g : Nat} {t : Tb} (h : OwnTb w B t) (hg : g < B ∨ w.heap.size ≤ g) : ¬ OfT t.b t.n t.f g := fun k => by
  have := h.all _ k
  omega
theorem OfT_mk (t : Tb) (k0 : Int) (k : Nat) : OfT (mkT t k0).b (mkT t k0).n (mkT t k0).f k ↔ OfT t.b t.n t.f k := Iff.rfl
theorem specTableOk_al {w0 w : World} {B : Nat} {t a : Tb} (h : OwnTb w B t) (k : AlikeT t a) (hs : a.ok w0) (hn : a.n ≤ 1048576) (hl : ∀ i, i < a.n → (a.f i).ac.ln ≤ 1048576) : Calls Tryz.prog 19 #[.slice t.p t.n t.cap] w fun e w' => e = .returned (.bool (okTb a.n a.f)) ∧ Below w.heap.size w w' := by
  rw [← okTb_alike k.f, ← k.n]; exact specTableOk_any t w (okW_al h k hs hl)
theorem specEffectAt_al (id : Int) {w0 w : World} {B : Nat} {t a : Tb} (h : OwnTb w B t) (k : AlikeT t a) (hs : a.ok w0) (hn : a.n ≤ 1048576) (hl : ∀ i, i < a.n → (a.f i).ac.ln ≤ 1048576) : Calls Tryz.prog 18 #[.slice t.p t.n t.cap, .int .i64 id] w fun e w' => e = .returned (.int .i64 (eaN a.f id a.n)) ∧ Below w.heap.size w w' := by
  rw [← eaN_alike k.f, ← k.n]; exact specEffectAt_any t id w (okW_al h k hs hl)
theorem specInstall_al {w0 w : World} {B : Nat} {t a : Tb} (h : OwnTb w B t) (k : AlikeT t a) (hs : a.ok w0) (hn : a.n ≤ 1048576) (hl : ∀ i, i < a.n → (a.f i).ac.ln ≤ 1048576) {Bx : Nat} {y x : Ef} (hy : OwnF w Bx y) (ky : AlikeF y x) (hsx : x.ok w0) (hlx : x.ac.ln ≤ 1048576) : Calls Tryz.prog 6 #[.slice t.p t.n t.cap, (.agg #[.int .i64 y.id, .int .i64 y.si, .int .i64 y.sr, .int .i64 y.cl, .int .i64 y.pt.kd, .int .i64 y.pt.wh, .int .i64 y.pt.sr, .int .i64 y.pt.tr, .int .i64 y.pt.pi, .int .i64 y.pt.le, .int .i64 y.pt.zo, .int .i64 y.gd.kd, .int .i64 y.gd.nn, .int .i64 y.ac.kd, .int .i64 y.ac.nn, .int .i64 y.ac.pi, .int .i64 y.ac.si, .int .i64 y.ac.zo, .bool y.ac.be, .slice y.ac.la y.ac.ln y.ac.lcap, .int .i64 y.un, .int .i64 y.le])] w fun e w' => ∃ q : Tb, e = .returned (.tuple #[.slice q.p q.n q.cap, .bool (inOk a.n a.f x)]) ∧ Below w.heap.size w w' ∧ AnsT w' w.heap.size q (inN a.n a.f x) (inF a.n a.f x) := by
  refine (specInstall_any t y w (okW_al h k hs hl) (by rw [k.n]; omega) (okT10 hy ky hsx).w (by rw [ky.ac.ln]; omega)).mono ?_
  rw [k.n, inOk_alike k.f ky, inN_alike k.f ky]
  rintro e w' ⟨q, h1, h2, h3⟩
  exact ⟨q, h1, h2, h3.alike (inF_alike k.f ky)⟩
end Go.Proofs.YtodfdfncdoliiauGreat
