/-
  Chapter 11: at lists of effects that are alike; what is apart of what (OfT). Written by tools/tab.gen.py. Chapter 10: facts of what is left (spE). Written by tools/sp.gen.py. Chapter 11: facts of lists of effects: what came and goes again, what lives still. Written by tools/tab.gen.py. Chapter 11, the program: what Install lets in, where it goes (words of the specification). Written by tools/tai.gen.py. Own work.
-/
import Derived.Test.YtodfdfncdoliiadGreatGTaH2
import Derived.Test.YtodfdfncdoliiadGreatTaD
import Derived.Test.YtodfdfncdoliiadGreatGSpA5
import Derived.Test.YtodfdfncdoliiadGreatGPaB5
import Derived.Test.YtodfdfncdoliiadGreatGStAt3
import Derived.Test.YtodfdfncdoliiadGreatGTbS4
import Derived.Deep.DeepCutAuto
import Derived.Deep.CutBlock
import Derived.Laws.OwnMore
namespace Go.Proofs.YtodfdfncdoliiadGreat
open Go.ChangeShapes Go.WideShapes Go.ChangeAt Go.RowKit
set_option maxRecDepth 100000
set_option linter.unusedVariables false
set_option linter.unusedSimpArgs false

theorem eaN_alike {n : Nat} {f g : Nat → Ef} {id : Int} (h : ∀ i, i < n → AlikeF (g i) (f i)) : eaN g id n = eaN f id n := by
  rcases eaN_cases f id n with ⟨he, hm⟩ | ⟨k, hk, he, hi, hm⟩
  · rw [he]; exact eaN_miss (fun j hj => by rw [(h j hj).id]; exact hm j hj)
  · rw [he]; exact eaN_hit hk (fun j hj => by rw [(h j (by omega)).id]; exact hm j hj) (by rw [(h k hk).id]; exact hi)
theorem insK_alike {f g : Nat → Ef} {id : Int} : ∀ {n : Nat}, (∀ i, i < n → AlikeF (g i) (f i)) → insK g id n = insK f id n
  | 0, _ => rfl
  | n + 1, h => by
    simp only [insK]
    rw [insK_alike (fun i hi => h i (by omega)), (h n (by omega)).id]
theorem insF_alike {n K : Nat} {f g : Nat → Ef} {x y : Ef} (h : ∀ i, i < n → AlikeF (g i) (f i)) (hx : AlikeF y x) (hK : K ≤ n) : ∀ i, i < n + 1 → AlikeF (insF K g y i) (insF K f x i) := fun i hi => by
  unfold insF
  by_cases h1 : i < K
  · rw [if_pos h1, if_pos h1]; exact h i (by omega)
  · by_cases h2 : i = K
    · rw [if_neg h1, if_neg h1, if_pos h2, if_pos h2]; exact hx
    · rw [if_neg h1, if_neg h1, if_neg h2, if_neg h2]; exact h (i - 1) (by omega)
theorem inOk_alike {n : Nat} {f g : Nat → Ef} {x y : Ef} (h : ∀ i, i < n → AlikeF (g i) (f i)) (hx : AlikeF y x) : inOk n g y = inOk n f x := by
  unfold inOk
  rw [eaN_alike h, insK_alike h, hx.id, okTb_alike (insF_alike h hx (insK_le f x.id n))]
theorem inN_alike {n : Nat} {f g : Nat → Ef} {x y : Ef} (h : ∀ i, i < n → AlikeF (g i) (f i)) (hx : AlikeF y x) : inN n g y = inN n f x := by unfold inN; rw [inOk_alike h hx]
theorem inF_alike {n : Nat} {f g : Nat → Ef} {x y : Ef} (h : ∀ i, i < n → AlikeF (g i) (f i)) (hx : AlikeF y x) : ∀ i, i < inN n f x → AlikeF (inF n g y i) (inF n f x i) := fun i hi => by
  unfold inF
  rw [inOk_alike h hx]
  unfold inN at hi
  by_cases hb : inOk n f x = true
  · rw [if_pos hb] at hi; rw [if_pos hb, if_pos hb, insK_alike h, hx.id]; exact insF_alike h hx (insK_le f x.id n) i hi
  · rw [if_neg hb] at hi; rw [if_neg hb, if_neg hb]; exact h i hi
theorem drN_alike {n : Nat} {f g : Nat → Ef} {id : Int} (h : ∀ i, i < n → AlikeF (g i) (f i)) : drN g id n = drN f id n := by unfold drN; rw [eaN_alike h]
theorem drG_alike {n : Nat} {f g : Nat → Ef} {id : Int} (h : ∀ i, i < n → AlikeF (g i) (f i)) : ∀ i, i < drN f id n → AlikeF (drG g id n i) (drG f id n i) := fun i hi => by
  unfold drG
  rw [eaN_alike h]
  unfold drN at hi
  by_cases hb : 0 ≤ eaN f id n
  · rw [if_pos hb] at hi; rw [if_pos hb, if_pos hb]
    unfold dpF
    by_cases h1 : i < (eaN f id n).toNat
    · rw [if_pos h1, if_pos h1]; exact h i (by omega)
    · rw [if_neg h1, if_neg h1]; exact h (i + 1) (by omega)
  · rw [if_neg hb] at hi; rw [if_neg hb, if_neg hb]; exact h i hi
theorem exL_alike {f g : Nat → Ef} {c : Int} : ∀ {n : Nat}, (∀ i, i < n → AlikeF (g i) (f i)) → exL g c n = exL f c n
  | 0, _ => rfl
  | n + 1, h => by
    simp only [exL]
    rw [exL_alike (fun i hi => h i (by omega))]
    have : lvE (g n) c = lvE (f n) c := by unfold lvE; rw [(h n (by omega)).un, (h n (by omega)).le]
    rw [this]
theorem exF_alike {n : Nat} {f g : Nat → Ef} {c : Int} (h : ∀ i, i < n → AlikeF (g i) (f i)) : ∀ i, i < (exL f c n).length → AlikeF (exF (exL f c n) g i) (exF (exL f c n) f i) := fun i hi => by
  unfold exF
  refine h _ (exL_lt f c n _ ?_)
  rw [List.getD_eq_getElem?_getD, List.getElem?_eq_getElem hi]
  exact List.getElem_mem hi
theorem upF_alike {n : Nat} {f g : Nat → Ef} {x y : Ef} (h : ∀ i, i < n → AlikeF (g i) (f i)) (hx : AlikeF y x) : ∀ i, i < n → AlikeF (upF n g y i) (upF n f x i) := fun i hi => by
  unfold upF
  rw [hx.id, eaN_alike h]
  by_cases hk : (i : Int) = eaN f x.id n
  · rw [if_pos hk, if_pos hk]; exact hx
  · rw [if_neg hk, if_neg hk]; exact h i hi
theorem smTb_alike {n m : Nat} {f g f' g' : Nat → Ef} (h : ∀ i, i < n → AlikeF (f' i) (f i)) (k : ∀ i, i < m → AlikeF (g' i) (g i)) : smTb n m f' g' = smTb n m f g := by
  unfold smTb
  by_cases hn : n = m
  · subst hn
    have : (List.range n).all (fun i => smEf (f' i) (g' i)) = (List.range n).all (fun i => smEf (f i) (g i)) := by
      rw [Bool.eq_iff_iff, List.all_eq_true, List.all_eq_true]
      constructor
      · intro q i hi; rw [← alike_smEf (h i (List.mem_range.1 hi)) (k i (List.mem_range.1 hi))]; exact q i hi
      · intro q i hi; rw [alike_smEf (h i (List.mem_range.1 hi)) (k i (List.mem_range.1 hi))]; exact q i hi
    rw [this]
  · simp [hn]
theorem AnsT.alike {w : World} {B N : Nat} {q : Tb} {F F' : Nat → Ef} (h : AnsT w B q N F) (e : ∀ i, i < N → AlikeF (F i) (F' i)) : AnsT w B q N F' := ⟨h.1, h.2.1, fun i hi => (h.2.2 i hi).trans (e i hi)⟩
/-- what a list says, wherever it lies -/
def sayT (N : Nat) (F : Nat → Ef) : Tb := ⟨none, N, 0, 0, F⟩
theorem AnsT.say {w : World} {B N : Nat} {q : Tb} {F : Nat → Ef} (h : AnsT w B q N F) : AlikeT q (sayT N F) := ⟨h.2.1, h.2.2⟩
theorem Tb.ok.w {t : Tb} {w : World} (h : t.ok w) (hl : ∀ i, i < t.n → (t.f i).ac.ln ≤ 1048576) : t.okW w := ⟨h.1, h.2.1, h.2.2.1, fun i hi => ⟨(h.2.2.2 i hi).w, by have := hl i hi; omega⟩⟩
theorem okW_al {w0 w : World} {B : Nat} {t a : Tb} (h : OwnTb w B t) (k : AlikeT t a) (hs : a.ok w0) (hl : ∀ i, i < a.n → (a.f i).ac.ln ≤ 1048576) : t.okW w :=
  (okT11 h k hs).w (fun i hi => by rw [(k.f i (by rw [← k.n]; exact hi)).ac.ln]; exact hl i (by rw [← k.n]; exact hi))
theorem AlikeT.g {t a : Tb} (k : AlikeT t a) : ∀ i, i < t.n → AlikeF (t.f i) (a.f i) := fun i hi => k.f i (by rw [← k.n]; exact hi)
/-- two that were made one behind the other have no block in common -/
theorem apartT {w w' : World} {B1 B2 : Nat} {t1 t2 : Tb} (h1 : OwnTb w B1 t1) (h2 : OwnTb w' B2 t2) (hB : w.heap.size ≤ B2) : ∀ k, OfT t1.b t1.n t1.f k → ¬ OfT t2.b t2.n t2.f k := by
  have l1 : ∀ k, OfT t1.b t1.n t1.f k → k < w.heap.size := fun k hk => by
    rcases hk with rfl | ⟨i, hi, rfl⟩
    · exact h1.2.2.1.2.1
    · exact (h1.2.2.2.1 i hi).1.lt.2
  have l2 : ∀ k, OfT t2.b t2.n t2.f k → B2 ≤ k := fun k hk => by
    rcases hk with rfl | ⟨i, hi, rfl⟩
    · exact h2.2.2.1.1
    · exact (h2.2.2.2.1 i hi).1.lt.1
  intro k a b
  have := l1 k a
  have := l2 k b
  omega
theorem OwnTb.all {w : World} {B : Nat} {t : Tb} (h : OwnTb w B t) : ∀ k, OfT t.b t.n t.f k → B ≤ k ∧ k < w.heap.size := fun k hk => by
  rcases hk with rfl | ⟨i, hi, rfl⟩
  · exact ⟨h.2.2.1.1, h.2.2.1.2.1⟩
  · exact (h.2.2.2.1 i hi).1.lt
theorem drG_ln {n : Nat} {f : Nat → Ef} {id : Int} (h : ∀ i, i < n → (f i).ac.ln ≤ 1048577) : ∀ i, i < drN f id n → (drG f id n i).ac.ln ≤ 1048577 := fun i hi => by
  unfold drG
  unfold drN at hi
  by_cases hb : 0 ≤ eaN f id n
  · rw [if_pos hb] at hi; rw [if_pos hb]; unfold dpF
    by_cases h1 : i < (eaN f id n).toNat
    · rw [if_pos h1]; exact h i (by omega)
    · rw [if_neg h1]; exact h (i + 1) (by omega)
  · rw [if_neg hb] at hi; rw [if_neg hb]; exact h i hi
theorem upF_ln {n : Nat} {f : Nat → Ef} {x : Ef} (h : ∀ i, i < n → (f i).ac.ln ≤ 1048577) (hx : x.ac.ln ≤ 1048577) : ∀ i, i < n → (upF n f x i).ac.ln ≤ 1048577 := fun i hi => by
  unfold upF
  split
  · exact hx
  · exact h i hi
theorem inF_ln {n : Nat} {f : Nat → Ef} {x : Ef} (h : ∀ i, i < n → (f i).ac.ln ≤ 1048577) (hx : x.ac.ln ≤ 1048577) : ∀ i, i < inN n f x → (inF n f x i).ac.ln ≤ 1048577 := fun i hi => by
  unfold inF
  unfold inN at hi
  by_cases hb : inOk n f x = true
  · rw [if_pos hb] at hi; rw [if_pos hb]
    have hK := insK_le f x.id n
    unfold insF
    by_cases h1 : i < insK f x.id n
    · rw [if_pos h1]; exact h i (by omega)
    · by_cases h2 : i = insK f x.id n
      · rw [if_neg h1, if_pos h2]; exact hx
      · rw [if_neg h1, if_neg h2]; exact h (i - 1) (by omega)
  · rw [if_neg hb] at hi; rw [if_neg hb]; exact h i hi
theorem OwnF.onlyS {S : Nat → Prop} {w w' : World} {B : Nat} {t : Ef} (h : OwnF w B t) (ho : OnlyS S w w') (hs : ¬ S t.ac.lb) : OwnF w' B t := ⟨h.1, h.2.1, h.2.2.same (ho.block _ h.lt.2 hs) ho.size⟩
theorem apartFT {w w' : World} {B1 B2 : Nat} {v : Ef} {t : Tb} (h1 : OwnF w B1 v) (h2 : OwnTb w' B2 t) (hB : w.heap.size ≤ B2) : ¬ OfT t.b t.n t.f v.ac.lb := fun k => by
  have := (h2.all _ k).1
  have := h1.lt.2
  omega
theorem apartTF {w w' : World} {B1 B2 : Nat} {v : Ef} {t : Tb} (h1 : OwnTb w B1 t) (h2 : OwnF w' B2 v) (hB : w.heap.size ≤ B2) : ¬ OfT t.b t.n t.f v.ac.lb := fun k => by
  have := (h1.all _ k).2
  have := h2.lt.1
  omega
theorem apartTB {w : World} {B g : Nat} {t : Tb} (h : OwnTb w B t) (hg : g < B ∨ w.heap.size ≤ g) : ¬ OfT t.b t.n t.f g := fun k => by
  have := h.all _ k
  omega
theorem OfT_mk (t : Tb) (k0 : Int) (k : Nat) : OfT (mkT t k0).b (mkT t k0).n (mkT t k0).f k ↔ OfT t.b t.n t.f k := Iff.rfl
theorem specTableOk_al {w0 w : World} {B : Nat} {t a : Tb} (h : OwnTb w B t) (k : AlikeT t a) (hs : a.ok w0) (hn : a.n ≤ 1048576) (hl : ∀ i, i < a.n → (a.f i).ac.ln ≤ 1048576) : Calls Tryz.prog 32 #[.slice t.p t.n t.cap] w fun e w' => e = .returned (.bool (okTb a.n a.f)) ∧ Below w.heap.size w w' := by
  rw [← okTb_alike k.f, ← k.n]; exact specTableOk_any t w (okW_al h k hs hl)
theorem specEffectAt_al (id : Int) {w0 w : World} {B : Nat} {t a : Tb} (h : OwnTb w B t) (k : AlikeT t a) (hs : a.ok w0) (hn : a.n ≤ 1048576) (hl : ∀ i, i < a.n → (a.f i).ac.ln ≤ 1048576) : Calls Tryz.prog 87 #[.slice t.p t.n t.cap, .int .i64 id] w fun e w' => e = .returned (.int .i64 (eaN a.f id a.n)) ∧ Below w.heap.size w w' := by
  rw [← eaN_alike k.f, ← k.n]; exact specEffectAt_any t id w (okW_al h k hs hl)
theorem specSameTable_al {w0 w : World} {B B2 : Nat} {t a s c : Tb} (h : OwnTb w B t) (k : AlikeT t a) (h2 : OwnTb w B2 s) (k2 : AlikeT s c) (hs : a.ok w0) (hs2 : c.ok w0) (hl : ∀ i, i < a.n → (a.f i).ac.ln ≤ 1048576) (hl2 : ∀ i, i < c.n → (c.f i).ac.ln ≤ 1048576) : Calls Tryz.prog 34 #[.slice t.p t.n t.cap, .slice s.p s.n s.cap] w fun e w' => e = .returned (.bool (smTb a.n c.n a.f c.f)) ∧ Below w.heap.size w w' := by
  rw [← smTb_alike k.f k2.f, ← k.n, ← k2.n]; exact specSameTable_any t s w (okW_al h k hs hl) (okW_al h2 k2 hs2 hl2)
theorem specInstall_al {w0 w : World} {B : Nat} {t a : Tb} (h : OwnTb w B t) (k : AlikeT t a) (hs : a.ok w0) (hn : a.n ≤ 1048576) (hl : ∀ i, i < a.n → (a.f i).ac.ln ≤ 1048576) {Bx : Nat} {y x : Ef} (hy : OwnF w Bx y) (ky : AlikeF y x) (hsx : x.ok w0) (hlx : x.ac.ln ≤ 1048576) : Calls Tryz.prog 40 #[.slice t.p t.n t.cap, (.agg #[.int .i64 y.id, .int .i64 y.si, .int .i64 y.sr, .int .i64 y.cl, .int .i64 y.pt.kd, .int .i64 y.pt.wh, .int .i64 y.pt.sr, .int .i64 y.pt.tr, .int .i64 y.pt.pi, .int .i64 y.pt.le, .int .i64 y.pt.zo, .int .i64 y.gd.kd, .int .i64 y.gd.nn, .int .i64 y.ac.kd, .int .i64 y.ac.nn, .int .i64 y.ac.pi, .int .i64 y.ac.si, .int .i64 y.ac.zo, .bool y.ac.be, .slice y.ac.la y.ac.ln y.ac.lcap, .int .i64 y.un, .int .i64 y.le])] w fun e w' => ∃ q : Tb, e = .returned (.tuple #[.slice q.p q.n q.cap, .bool (inOk a.n a.f x)]) ∧ Below w.heap.size w w' ∧ AnsT w' w.heap.size q (inN a.n a.f x) (inF a.n a.f x) := by
  refine (specInstall_any t y w (okW_al h k hs hl) (by rw [k.n]; omega) (okT10 hy ky hsx).w (by rw [ky.ac.ln]; omega)).mono ?_
  rw [k.n, inOk_alike k.f ky, inN_alike k.f ky]
  rintro e w' ⟨q, h1, h2, h3⟩
  exact ⟨q, h1, h2, h3.alike (inF_alike k.f ky)⟩
theorem specDrop_al (id : Int) {w0 w : World} {B : Nat} {t a : Tb} (h : OwnTb w B t) (k : AlikeT t a) (hs : a.ok w0) (hn : a.n ≤ 1048576) (hl : ∀ i, i < a.n → (a.f i).ac.ln ≤ 1048576) : Calls Tryz.prog 43 #[.slice t.p t.n t.cap, .int .i64 id] w fun e w' => ∃ q : Tb, e = .returned (.tuple #[.slice q.p q.n q.cap, .bool (decide (0 ≤ eaN a.f id a.n))]) ∧ Below w.heap.size w w' ∧ AnsT w' w.heap.size q (drN a.f id a.n) (drG a.f id a.n) := by
  refine (specDrop_any t id w (okW_al h k hs hl) (by rw [k.n]; omega)).mono ?_
  rw [k.n, eaN_alike k.f, drN_alike k.f]
  rintro e w' ⟨q, h1, h2, h3⟩
  exact ⟨q, h1, h2, h3.alike (drG_alike k.f)⟩
theorem specExpire_al (c : Int) {w0 w : World} {B : Nat} {t a : Tb} (h : OwnTb w B t) (k : AlikeT t a) (hs : a.ok w0) (hn : a.n ≤ 1048576) (hl : ∀ i, i < a.n → (a.f i).ac.ln ≤ 1048576) : Calls Tryz.prog 35 #[.slice t.p t.n t.cap, .int .i64 c] w fun e w' => ∃ q : Tb, e = .returned (.slice q.p q.n q.cap) ∧ Below w.heap.size w w' ∧ AnsT w' w.heap.size q (exL a.f c a.n).length (exF (exL a.f c a.n) a.f) := by
  refine (specExpire_any t c w (okW_al h k hs hl) (by rw [k.n]; omega)).mono ?_
  rw [k.n, exL_alike k.f]
  rintro e w' ⟨q, h1, h2, h3⟩
  exact ⟨q, h1, h2, h3.alike (exF_alike k.f)⟩
theorem specUpdate_al {w0 w : World} {B : Nat} {t a : Tb} (h : OwnTb w B t) (k : AlikeT t a) (hs : a.ok w0) (hn : a.n ≤ 1048576) (hl : ∀ i, i < a.n → (a.f i).ac.ln ≤ 1048576) {Bx : Nat} {y x : Ef} (hy : OwnF w Bx y) (ky : AlikeF y x) (hsx : x.ok w0) (hlx : x.ac.ln ≤ 1048576) : Calls Tryz.prog 36 #[.slice t.p t.n t.cap, (.agg #[.int .i64 y.id, .int .i64 y.si, .int .i64 y.sr, .int .i64 y.cl, .int .i64 y.pt.kd, .int .i64 y.pt.wh, .int .i64 y.pt.sr, .int .i64 y.pt.tr, .int .i64 y.pt.pi, .int .i64 y.pt.le, .int .i64 y.pt.zo, .int .i64 y.gd.kd, .int .i64 y.gd.nn, .int .i64 y.ac.kd, .int .i64 y.ac.nn, .int .i64 y.ac.pi, .int .i64 y.ac.si, .int .i64 y.ac.zo, .bool y.ac.be, .slice y.ac.la y.ac.ln y.ac.lcap, .int .i64 y.un, .int .i64 y.le])] w fun e w' => ∃ q : Tb, e = .returned (.slice q.p q.n q.cap) ∧ Below w.heap.size w w' ∧ AnsT w' w.heap.size q a.n (upF a.n a.f x) := by
  refine (specUpdate_any t y w (okW_al h k hs hl) (by rw [k.n]; omega) (okT10 hy ky hsx).w (by rw [ky.ac.ln]; omega)).mono ?_
  rw [k.n]
  rintro e w' ⟨q, h1, h2, h3⟩
  exact ⟨q, h1, h2, h3.alike (upF_alike k.f ky)⟩
end Go.Proofs.YtodfdfncdoliiadGreat
namespace Go.Proofs.YtodfdfncdoliiadGreat
open Go.ChangeShapes Go.WideShapes Go.ChangeAt Go.RowKit
set_option maxRecDepth 100000
set_option linter.unusedVariables false
set_option linter.unusedSimpArgs false

theorem smEf_self (a : Ef) : smEf a a = true := by
  unfold smEf smH smK
  rw [smPt_self, smGd_self, smL_yes (fun k _ => by unfold smE; simp)]
  simp
theorem le_okEf {e : Ef} (h : okEf e = true) : -1 ≤ e.le ∧ e.le ≤ 2147483647 ∧ (e.ac.kd = 2 → 0 ≤ e.le) := by
  unfold okEf hdE cdE ib at h
  simp only [Bool.and_eq_true, Bool.not_eq_true', Bool.or_eq_false_iff, Bool.and_eq_false_iff, decide_eq_true_eq, decide_eq_false_iff_not] at h
  refine ⟨h.1.1.2.1, h.1.1.2.2, fun hk => ?_⟩
  have h2 := h.1.2.2
  rcases h2 with h3 | h3
  · exact absurd hk h3
  · omega
theorem lf_shield {e : Ef} {n : Int} (hk : e.ac.kd = 2) (h : 0 ≤ e.le ∧ e.le ≤ 2147483647) (h0 : 0 ≤ n) (h1 : n ≤ 2147483647) : lfE e n = up (e.le - n) e.le ∧ 0 ≤ lfE e n ∧ lfE e n ≤ e.le := by
  unfold lfE
  rw [if_pos hk]
  have e1 : ls e.le n = e.le - n := by unfold ls bnd; (repeat' split) <;> omega
  rw [e1]
  unfold up upt
  refine ⟨?_, ?_, ?_⟩ <;> (repeat' split) <;> omega
theorem lf_other {e : Ef} {n : Int} (hk : ¬ e.ac.kd = 2) : (lfE e n = e.le ∨ lfE e n = e.le - 1) ∧ lfE e n ≤ e.le ∧ (-1 ≤ e.le → -1 ≤ lfE e n) := by
  unfold lfE
  rw [if_neg hk]
  split <;> omega
theorem sp_ok {e : Ef} {n : Int} (h : okEf e = true) (h0 : 0 ≤ n) (h1 : n ≤ 2147483647) : okEf (spE e n) = true := by
  obtain ⟨l0, l1, l2⟩ := le_okEf h
  have hr : -1 ≤ lfE e n ∧ lfE e n ≤ 2147483647 ∧ (e.ac.kd = 2 → 0 ≤ lfE e n) := by
    by_cases hk : e.ac.kd = 2
    · have := lf_shield hk ⟨l2 hk, l1⟩ h0 h1; exact ⟨by omega, by omega, fun _ => this.2.1⟩
    · have := lf_other (n := n) hk; exact ⟨this.2.2 l0, by omega, fun k => absurd k hk⟩
  unfold okEf hdE cdE ib at h ⊢
  show (((decide (1 ≤ e.id) && decide (e.id ≤ 99)) && (decide (0 ≤ e.si) && decide (e.si ≤ 2)) && (decide (0 ≤ e.sr) && decide (e.sr ≤ 99)) && (decide (0 ≤ e.cl) && decide (e.cl ≤ 4)) && (decide (-1 ≤ e.un) && decide (e.un ≤ 9999)) && (decide (-1 ≤ lfE e n) && decide (lfE e n ≤ 2147483647))) && !((decide (e.cl = 0) && decide (e.sr = 0)) || (decide (e.ac.kd = 2) && decide (lfE e n < 0))) && (okPt e.pt && okGd e.gd && okAc e.ac && fiA e.ac e.pt.kd)) = true
  simp only [Bool.and_eq_true, Bool.not_eq_true', Bool.or_eq_false_iff, Bool.and_eq_false_iff, decide_eq_true_eq, decide_eq_false_iff_not] at h ⊢
  refine ⟨⟨⟨h.1.1.1, hr.1, hr.2.1⟩, h.1.2.1, ?_⟩, h.2⟩
  by_cases hk : e.ac.kd = 2
  · exact .inr (by have := hr.2.2 hk; omega)
  · exact .inl hk
end Go.Proofs.YtodfdfncdoliiadGreat
namespace Go.Proofs.YtodfdfncdoliiadGreat
open Go.ChangeShapes Go.WideShapes Go.ChangeAt Go.RowKit
set_option maxRecDepth 100000
set_option linter.unusedVariables false
set_option linter.unusedSimpArgs false

/-- two lists that are like the same one are the same -/
theorem smTb_like {n : Nat} {f g F : Nat → Ef} (h : ∀ i, i < n → AlikeF (f i) (F i)) (k : ∀ i, i < n → AlikeF (g i) (F i)) : smTb n n f g = true :=
  smTb_yes fun i hi => by rw [alike_smEf (h i hi) (k i hi)]; exact smEf_self _
theorem goodAt_of {n : Nat} {f : Nat → Ef} (h : okTb n f = true) : n ≤ 5 ∧ ∀ i, i < n → okEf (f i) = true ∧ (0 < i → (f (i - 1)).id < (f i).id) := by
  unfold okTb at h
  simp only [Bool.and_eq_true, List.all_eq_true, decide_eq_true_eq] at h
  refine ⟨h.2, fun i hi => ?_⟩
  have h1 := h.1 i (List.mem_range.2 hi)
  unfold goodAt at h1
  simp only [Bool.and_eq_true, Bool.not_eq_true', Bool.and_eq_false_iff, decide_eq_false_iff_not] at h1
  refine ⟨h1.1, fun h0 => ?_⟩
  rcases h1.2 with h2 | h2
  · exact absurd h0 h2
  · omega
theorem asc_of {n : Nat} {f : Nat → Ef} (h : okTb n f = true) : ∀ b, b < n → ∀ a, a < b → (f a).id < (f b).id
  | 0, _, a, ha => absurd ha (Nat.not_lt_zero a)
  | b + 1, hb, a, ha => by
    have h1 := ((goodAt_of h).2 (b + 1) hb).2 (by omega)
    simp only [Nat.add_sub_cancel] at h1
    by_cases he : a = b
    · subst he; exact h1
    · have := asc_of h b (by omega) a (by omega)
      omega
theorem okTb_of {n : Nat} {f : Nat → Ef} (hn : n ≤ 5) (h : ∀ i, i < n → okEf (f i) = true ∧ (0 < i → (f (i - 1)).id < (f i).id)) : okTb n f = true := by
  rw [okTb_yes (fun j hj => ?_)]
  · simpa using hn
  · unfold goodAt
    rw [(h j hj).1]
    simp only [Bool.true_and, Bool.not_eq_true', Bool.and_eq_false_iff, decide_eq_false_iff_not]
    by_cases h0 : 0 < j
    · right; have := (h j hj).2 h0; omega
    · left; exact h0
/-- what was let in is right, stands where it goes, and goes again -/
theorem in_facts {n : Nat} {f : Nat → Ef} {x : Ef} (h : inOk n f x = true) : insK f x.id n ≤ n ∧ okTb (n + 1) (insF (insK f x.id n) f x) = true ∧ eaN (insF (insK f x.id n) f x) x.id (n + 1) = (insK f x.id n : Int) ∧ insF (insK f x.id n) f x (insK f x.id n) = x ∧ (∀ i, i < n → dpF (insK f x.id n) (insF (insK f x.id n) f x) i = f i) := by
  have hK := insK_le f x.id n
  unfold inOk at h
  simp only [Bool.and_eq_true, decide_eq_true_eq] at h
  have hx : insF (insK f x.id n) f x (insK f x.id n) = x := by unfold insF; rw [if_neg (by omega), if_pos rfl]
  have hno : ∀ j, j < n → (f j).id ≠ x.id := by
    rcases eaN_cases f x.id n with ⟨_, hm⟩ | ⟨k, _, he, _, _⟩
    · exact hm
    · rw [he] at h; omega
  refine ⟨hK, h.2, eaN_hit (by omega) (fun j hj => ?_) (by rw [hx]), hx, fun i hi => ?_⟩
  · unfold insF; rw [if_pos hj]; exact hno j (by omega)
  · unfold dpF insF
    by_cases h1 : i < insK f x.id n
    · rw [if_pos h1, if_pos h1]
    · rw [if_neg h1, if_neg (by omega), if_neg (by omega)]; rfl
theorem in_twice {n : Nat} {f : Nat → Ef} {x : Ef} (h : inOk n f x = true) : inOk (n + 1) (insF (insK f x.id n) f x) x = false := by
  have := (in_facts h).2.2.1
  unfold inOk
  rw [this, decide_eq_false (by omega)]
  rfl
/-- the list of those that live: ascending places -/
theorem exL_asc (f : Nat → Ef) (c : Int) : ∀ n, ∀ i j, i < j → j < (exL f c n).length → (exL f c n).getD i 0 < (exL f c n).getD j 0
  | 0, i, j, _, hj => by simp [exL] at hj
  | n + 1, i, j, hij, hj => by
    simp only [exL] at hj ⊢
    split at hj
    · rename_i hl
      rw [if_pos hl]
      simp only [List.length_append, List.length_cons, List.length_nil] at hj
      have hgi : (exL f c n ++ [n]).getD i 0 = (exL f c n).getD i 0 := by rw [List.getD_eq_getElem?_getD, List.getD_eq_getElem?_getD, List.getElem?_append_left (by omega)]
      rw [hgi]
      by_cases hjl : j < (exL f c n).length
      · have hgj : (exL f c n ++ [n]).getD j 0 = (exL f c n).getD j 0 := by rw [List.getD_eq_getElem?_getD, List.getD_eq_getElem?_getD, List.getElem?_append_left hjl]
        rw [hgj]
        exact exL_asc f c n i j hij hjl
      · obtain rfl : j = (exL f c n).length := by omega
        have hgj : (exL f c n ++ [n]).getD (exL f c n).length 0 = n := by rw [List.getD_eq_getElem?_getD, List.getElem?_append_right (Nat.le_refl _)]; simp
        rw [hgj, List.getD_eq_getElem?_getD, List.getElem?_eq_getElem hij]
        exact exL_lt f c n _ (List.getElem_mem hij)
    · rename_i hl
      rw [if_neg hl]
      exact exL_asc f c n i j hij hj
theorem exL_live (f : Nat → Ef) (c : Int) : ∀ n, ∀ i ∈ exL f c n, lvE (f i) c = true
  | 0, i, h => by simp [exL] at h
  | n + 1, i, h => by
    simp only [exL] at h
    split at h
    · rename_i hl
      rcases List.mem_append.1 h with h | h
      · exact exL_live f c n i h
      · simp at h; subst h; exact hl
    · exact exL_live f c n i h
theorem exF_live (f : Nat → Ef) (c : Int) (n : Nat) : ∀ i, i < (exL f c n).length → lvE (exF (exL f c n) f i) c = true := fun i hi => by
  unfold exF
  refine exL_live f c n _ ?_
  rw [List.getD_eq_getElem?_getD, List.getElem?_eq_getElem hi]
  exact List.getElem_mem hi
/-- where all live, all stay -/
theorem exL_all {f : Nat → Ef} {c : Int} : ∀ {n : Nat}, (∀ i, i < n → lvE (f i) c = true) → exL f c n = List.range n
  | 0, _ => rfl
  | n + 1, h => by
    simp only [exL]
    rw [if_pos (h n (by omega)), exL_all (fun i hi => h i (by omega)), List.range_succ]
theorem exF_range {n : Nat} (f : Nat → Ef) : ∀ i, i < n → exF (List.range n) f i = f i := fun i hi => by
  unfold exF
  rw [List.getD_eq_getElem?_getD, List.getElem?_range hi]
  rfl
/-- of a right list those that live are one -/
theorem ex_ok {n : Nat} {f : Nat → Ef} {c : Int} (h : okTb n f = true) : okTb (exL f c n).length (exF (exL f c n) f) = true := by
  have hl := exL_len f c n
  have hmem : ∀ i, i < (exL f c n).length → (exL f c n).getD i 0 < n := fun i hi => by
    refine exL_lt f c n _ ?_
    rw [List.getD_eq_getElem?_getD, List.getElem?_eq_getElem hi]
    exact List.getElem_mem hi
  refine okTb_of (by have := (goodAt_of h).1; omega) (fun i hi => ⟨((goodAt_of h).2 _ (hmem i hi)).1, fun h0 => ?_⟩)
  exact asc_of h _ (hmem i hi) _ (exL_asc f c n (i - 1) i (by omega) hi)
theorem AnsT.okW {w w0 : World} {B N : Nat} {q : Tb} {F : Nat → Ef} (h : AnsT w B q N F) (hF : ∀ i, i < N → (F i).okW w0 ∧ (F i).ac.ln ≤ 1048577) : q.okW w := by
  obtain ⟨h1, h2, h3⟩ := h
  refine ⟨h1.1, h1.2.1, h1.2.2.1.rd, fun i hi => ?_⟩
  have hi2 : i < N := by omega
  have ha := h3 i hi2
  exact ⟨⟨okT9 (h1.2.2.2.1 i hi).1 ha.ac (hF i hi2).1.1, by rw [ha.le]; exact (hF i hi2).1.2⟩, by rw [ha.ac.ln]; exact (hF i hi2).2⟩
theorem AnsT.grew {w w' : World} {B N : Nat} {q : Tb} {F : Nat → Ef} (h : AnsT w B q N F) (hb : Below w.heap.size w w') : AnsT w' B q N F := ⟨h.1.grew hb, h.2⟩
theorem inF_ok {n : Nat} {f : Nat → Ef} {x : Ef} {w : World} (h : ∀ i, i < n → (f i).okW w ∧ (f i).ac.ln ≤ 1048577) (hx : x.okW w ∧ x.ac.ln ≤ 1048577) : ∀ i, i < inN n f x → (inF n f x i).okW w ∧ (inF n f x i).ac.ln ≤ 1048577 := fun i hi => by
  unfold inF
  unfold inN at hi
  by_cases hb : inOk n f x = true
  · rw [if_pos hb] at hi; rw [if_pos hb]; exact insF_ok h hx (insK_le f x.id n) i hi
  · rw [if_neg hb] at hi; rw [if_neg hb]; exact h i hi
theorem drG_ok {n : Nat} {f : Nat → Ef} {id : Int} {w : World} (h : ∀ i, i < n → (f i).okW w ∧ (f i).ac.ln ≤ 1048577) : ∀ i, i < drN f id n → (drG f id n i).okW w ∧ (drG f id n i).ac.ln ≤ 1048577 := fun i hi => by
  unfold drG
  unfold drN at hi
  by_cases hb : 0 ≤ eaN f id n
  · rw [if_pos hb] at hi; rw [if_pos hb]; unfold dpF
    by_cases h1 : i < (eaN f id n).toNat
    · rw [if_pos h1]; exact h i (by omega)
    · rw [if_neg h1]; exact h (i + 1) (by omega)
  · rw [if_neg hb] at hi; rw [if_neg hb]; exact h i hi
theorem like_ans {w1 w2 : World} {B1 B2 N : Nat} {q1 q2 : Tb} {F : Nat → Ef} (h1 : AnsT w1 B1 q1 N F) (h2 : AnsT w2 B2 q2 N F) : smTb q1.n q2.n q1.f q2.f = true := by rw [h1.2.1, h2.2.1]; exact smTb_like h1.2.2 h2.2.2
/-- what an answer says of the one that was let in -/
theorem in_ans {w : World} {B : Nat} {q : Tb} {t : Tb} {x : Ef} (h : inOk t.n t.f x = true) (a : AnsT w B q (inN t.n t.f x) (inF t.n t.f x)) : ∃ K : Nat, K < t.n + 1 ∧ q.n = t.n + 1 ∧ okTb q.n q.f = true ∧ eaN q.f x.id q.n = (K : Int) ∧ smEf (q.f K) x = true ∧ inOk q.n q.f x = false ∧ drN q.f x.id q.n = t.n ∧ ∀ i, i < t.n → AlikeF (drG q.f x.id q.n i) (t.f i) := by
  have hN : inN t.n t.f x = t.n + 1 := by unfold inN; rw [if_pos h]
  have hF : inF t.n t.f x = insF (insK t.f x.id t.n) t.f x := by unfold inF; rw [if_pos h]
  rw [hN, hF] at a
  obtain ⟨hK, f1, f2, f3, f4⟩ := in_facts h
  have f5 := in_twice h
  obtain ⟨_, hn, ha⟩ := a
  have hE : eaN q.f x.id q.n = (insK t.f x.id t.n : Int) := by rw [hn, eaN_alike ha]; exact f2
  have hD : drN q.f x.id q.n = t.n := by unfold drN; rw [hE, if_pos (by omega), hn]; rfl
  refine ⟨insK t.f x.id t.n, by omega, hn, by rw [hn, okTb_alike ha]; exact f1, hE, ?_, by rw [hn, inOk_alike ha (AlikeF.rfl' x)]; exact f5, hD, fun i hi => ?_⟩
  · have h1 := ha (insK t.f x.id t.n) (by omega)
    rw [f3] at h1
    rw [alike_smEf h1 (AlikeF.rfl' x)]
    exact smEf_self x
  · have h1 := drG_alike (id := x.id) (n := t.n + 1) ha i (by
      unfold drN; rw [f2, if_pos (by omega)]; omega)
    rw [hn]
    refine h1.trans ?_
    unfold drG
    rw [f2, if_pos (by omega)]
    have h2 := f4 i hi
    rw [show ((insK t.f x.id t.n : Nat) : Int).toNat = insK t.f x.id t.n by omega, h2]
    exact AlikeF.rfl' _
/-- the one that was put in the place of the first of its Id stands there -/
theorem up_at {n : Nat} {f : Nat → Ef} {x : Ef} {k : Nat} (h : eaN f x.id n = k) : upF n f x k = x := by unfold upF; rw [h, if_pos rfl]
end Go.Proofs.YtodfdfncdoliiadGreat
namespace Go.Proofs.YtodfdfncdoliiadGreat
open Go.ChangeShapes Go.WideShapes Go.ChangeAt Go.RowKit
set_option maxRecDepth 100000
set_option linter.unusedVariables false
set_option linter.unusedSimpArgs false

theorem insK_of {n K : Nat} {f : Nat → Ef} {id : Int} (hK : K ≤ n) (h1 : ∀ j, j < K → (f j).id < id) (h2 : ∀ j, K ≤ j → j < n → ¬ (f j).id < id) : insK f id n = K := by
  by_cases e : K = n
  · subst e; exact insK_full h1
  · exact insK_eq h1 (h2 K (Nat.le_refl _) (by omega)) hK
theorem insK_low (f : Nat → Ef) (id : Int) : ∀ n, ∀ j, j < insK f id n → (f j).id < id
  | 0, j, h => absurd h (Nat.not_lt_zero j)
  | n + 1, j, h => by
    simp only [insK] at h
    split at h
    · rename_i hc
      by_cases e : j = n
      · subst e; exact hc.2
      · exact insK_low f id n j (by omega)
    · exact insK_low f id n j h
theorem insK_stop (f : Nat → Ef) (id : Int) : ∀ n, insK f id n < n → ¬ (f (insK f id n)).id < id
  | 0, h => absurd h (Nat.not_lt_zero _)
  | n + 1, h => by
    have hle := insK_le f id n
    simp only [insK] at h ⊢
    split at h
    · omega
    · rename_i hc
      rw [if_neg hc]
      by_cases e : insK f id n = n
      · rw [e]
        exact fun h2 => hc ⟨e, h2⟩
      · exact insK_stop f id n (by omega)
theorem inOk_of {n : Nat} {f : Nat → Ef} {x : Ef} (h1 : okTb n f = true) (h2 : n < 5) (h3 : okEf x = true) (h4 : ¬ 0 ≤ eaN f x.id n) : inOk n f x = true := by
  have hno : ∀ j, j < n → (f j).id ≠ x.id := by
    rcases eaN_cases f x.id n with ⟨_, hm⟩ | ⟨k, _, he, _, _⟩
    · exact hm
    · rw [he] at h4; omega
  have hg := (goodAt_of h1).2
  have hasc := asc_of h1
  have hK := insK_le f x.id n
  have hlow := insK_low f x.id n
  have hstop := insK_stop f x.id n
  have hhigh : ∀ j, insK f x.id n ≤ j → j < n → x.id < (f j).id := fun j hj hjn => by
    have a1 := hstop (by omega)
    have a2 := hno (insK f x.id n) (by omega)
    by_cases e : insK f x.id n = j
    · rw [e] at a1 a2; omega
    · have := hasc j hjn (insK f x.id n) (by omega)
      omega
  unfold inOk
  generalize insK f x.id n = K at hK hlow hhigh ⊢
  have hea : eaN f x.id n < 0 := by omega
  rw [decide_eq_true hea, Bool.true_and]
  refine okTb_of (by omega) (fun i hi => ?_)
  by_cases c1 : i < K
  · have e1 : insF K f x i = f i := by unfold insF; rw [if_pos c1]
    have e2 : insF K f x (i - 1) = f (i - 1) := by unfold insF; rw [if_pos (by omega)]
    rw [e1, e2]
    exact hg i (by omega)
  · by_cases c2 : i = K
    · have e1 : insF K f x i = x := by unfold insF; rw [if_neg c1, if_pos c2]
      rw [e1]
      refine ⟨h3, fun h0 => ?_⟩
      have e2 : insF K f x (i - 1) = f (i - 1) := by unfold insF; rw [if_pos (by omega)]
      rw [e2]
      exact hlow (i - 1) (by omega)
    · have e1 : insF K f x i = f (i - 1) := by unfold insF; rw [if_neg c1, if_neg c2]
      rw [e1]
      refine ⟨(hg (i - 1) (by omega)).1, fun h0 => ?_⟩
      by_cases c3 : i - 1 = K
      · have e2 : insF K f x (i - 1) = x := by unfold insF; rw [if_neg (by omega), if_pos c3]
        rw [e2]
        exact hhigh (i - 1) (by omega) (by omega)
      · have e2 : insF K f x (i - 1) = f (i - 1 - 1) := by unfold insF; rw [if_neg (by omega), if_neg c3]
        rw [e2]
        exact hasc (i - 1) (by omega) (i - 1 - 1) (by omega)
theorem inOk_parts {n : Nat} {f : Nat → Ef} {x : Ef} (h : inOk n f x = true) : okTb n f = true ∧ n < 5 ∧ okEf x = true ∧ ¬ 0 ≤ eaN f x.id n := by
  obtain ⟨hK, hok, _, hx, hd⟩ := in_facts h
  have hea : eaN f x.id n < 0 := by unfold inOk at h; simp only [Bool.and_eq_true, decide_eq_true_eq] at h; exact h.1
  generalize insK f x.id n = K at hK hok hx hd
  have hg := goodAt_of hok
  have hasc := asc_of hok
  have hx2 := (hg.2 K (by omega)).1
  rw [hx] at hx2
  have key : ∀ i, i < n → f i = insF K f x (if i < K then i else i + 1) := fun i hi => by
    rw [← hd i hi]
    unfold dpF
    split <;> rfl
  refine ⟨okTb_of (by omega) (fun i hi => ⟨?_, fun h0 => ?_⟩), by omega, hx2, by omega⟩
  · have k1 := key i hi
    rw [k1]
    refine (hg.2 _ ?_).1
    split <;> omega
  · have k1 := key i hi
    have k2 := key (i - 1) (by omega)
    rw [k1, k2]
    refine hasc _ ?_ _ ?_
    · split <;> omega
    · split <;> split <;> omega
theorem inOk_no {n : Nat} {f : Nat → Ef} {x : Ef} (h : ¬ (okTb n f = true ∧ n < 5 ∧ okEf x = true ∧ ¬ 0 ≤ eaN f x.id n)) : inOk n f x = false := by
  cases hi : inOk n f x with
  | false => rfl
  | true => exact absurd (inOk_parts hi) h
theorem sel_ins (d : Ef) (f : Nat → Ef) (x : Ef) (n K : Nat) (hK : K ≤ n) (hno : ∀ j, j < n → (f j).id ≠ x.id) : (selE (putE' (tabM f n) (x.id, 0) x) (insG K (mkAt f) (x.id, 0)) (n + 1)).length = n + 1 ∧ ∀ i, i < n + 1 → selF d (selE (putE' (tabM f n) (x.id, 0) x) (insG K (mkAt f) (x.id, 0)) (n + 1)) i = insF K f x i := by
  have hne : ∀ i, i < n → mkAt f i ≠ (x.id, 0) := fun i hi e => hno i hi (mkAt_first.1 e).1
  rw [selE_all (F := insF K f x) (fun i hi => ?_)]
  · exact ⟨by simp, fun i hi => selF_range d _ hi⟩
  · unfold putE' insG insF
    by_cases c1 : i < K
    · rw [if_pos c1, if_pos c1, if_neg (hne i (by omega)), tabM_at f (by omega)]
    · by_cases c2 : i = K
      · rw [if_neg c1, if_neg c1, if_pos c2, if_pos c2, if_pos rfl]
      · rw [if_neg c1, if_neg c1, if_neg c2, if_neg c2, if_neg (hne (i - 1) (by omega)), tabM_at f (by omega)]
end Go.Proofs.YtodfdfncdoliiadGreat
