/-
  Chapter 9: the specification at acts that are alike. Written by tools/ac.gen.py. Chapter 10: the specification at effects that are alike. Written by tools/ef.gen.py. Chapter 11: the specification's Install (inOk, insF), Drop (dpF). Written by tools/tab.gen.py. Own work.
-/
import Derived.Test.YtodfdfncdoliiauGStAt3
import Derived.Test.YtodfdfncdoliiauAcD
import Derived.Test.YtodfdfncdoliiauEfD
import Derived.Test.YtodfdfncdoliiauTaF
import Derived.Deep.RegionHeld
import Derived.Deep.MidRow
namespace Go.Proofs.Ytodfdfncdoliiau
open Go.ChangeShapes Go.WideShapes Go.ChangeAt Go.RowKit
set_option maxRecDepth 100000
set_option linter.unusedVariables false
set_option linter.unusedSimpArgs false

theorem alike_okAc {t a : Ac} (h : AlikeA t a) : okAc t = okAc a := by unfold okAc plA ac6 ac7 ac8 ac9; rw [h.kd, h.nn, h.pi, h.si, h.zo, h.be, h.ln, h.es]
theorem alike_fiA {t a : Ac} (h : AlikeA t a) (k : Int) : fiA t k = fiA a k := by unfold fiA; rw [h.kd]
theorem alike_amA {t a : Ac} (h : AlikeA t a) (n : Int) : amA t n = amA a n := by unfold amA; rw [h.kd, h.nn]
theorem alike_paN {t a : Ac} (h : AlikeA t a) : paN t = paN a := by unfold paN; rw [h.kd, h.ln]
theorem alike_paF {t a : Ac} (h : AlikeA t a) (e : Ev) : paF t e = paF a e := by unfold paF; rw [h.es]
theorem specActOk_al {w0 w : World} {B : Nat} {t a : Ac} (h : OwnA w B t) (k : AlikeA t a) (hs : a.ok w0) (hn : a.ln ≤ 1048576) : Calls Try.prog 87 #[(.agg #[.int .i64 t.kd, .int .i64 t.nn, .int .i64 t.pi, .int .i64 t.si, .int .i64 t.zo, .bool t.be, .slice t.la t.ln t.lcap])] w fun e w' => e = .returned (.bool (okAc a)) ∧ Below w.heap.size w w' := by
  rw [← alike_okAc k]; exact specActOk_any t w (okT9 h k hs) (by rw [k.ln]; omega)
theorem specActFits_al {w0 w : World} {B : Nat} {t a : Ac} (c : Int) (h : OwnA w B t) (k : AlikeA t a) (hs : a.ok w0) (hn : a.ln ≤ 1048576) : Calls Try.prog 88 #[(.agg #[.int .i64 t.kd, .int .i64 t.nn, .int .i64 t.pi, .int .i64 t.si, .int .i64 t.zo, .bool t.be, .slice t.la t.ln t.lcap]), .int .i64 c] w fun e w' => e = .returned (.bool (fiA a c)) ∧ Below w.heap.size w w' := by
  rw [← alike_fiA k]; exact specActFits_any t c w
end Go.Proofs.Ytodfdfncdoliiau
namespace Go.Proofs.Ytodfdfncdoliiau
open Go.ChangeShapes Go.WideShapes Go.ChangeAt Go.RowKit
set_option maxRecDepth 100000
set_option linter.unusedVariables false
set_option linter.unusedSimpArgs false

theorem alike_okEf {t a : Ef} (h : AlikeF t a) : okEf t = okEf a := by unfold okEf hdE cdE; rw [h.id, h.si, h.sr, h.cl, h.pt, h.gd, h.un, h.le, alike_okAc h.ac, alike_fiA h.ac, h.ac.kd]
theorem alike_lvE {t a : Ef} (h : AlikeF t a) (c : Int) : lvE t c = lvE a c := by unfold lvE; rw [h.un, h.le]
theorem alike_nrE {t a : Ef} (h : AlikeF t a) (v : Ev) : nrE t v = nrE a v := by unfold nrE; rw [h.cl, h.sr]
theorem alike_smEf {t a s b : Ef} (h : AlikeF t a) (k : AlikeF s b) : smEf t s = smEf a b := by unfold smEf smH smK; rw [h.id, h.si, h.sr, h.cl, h.pt, h.gd, h.un, h.le, h.ac.kd, h.ac.nn, h.ac.pi, h.ac.si, h.ac.zo, h.ac.be, h.ac.ln, h.ac.es, k.id, k.si, k.sr, k.cl, k.pt, k.gd, k.un, k.le, k.ac.kd, k.ac.nn, k.ac.pi, k.ac.si, k.ac.zo, k.ac.be, k.ac.ln, k.ac.es]
theorem specEffectOk_al {w0 w : World} {B : Nat} {t a : Ef} (h : OwnF w B t) (k : AlikeF t a) (hs : a.ok w0) (hn : a.ac.ln ≤ 1048576) : Calls Try.prog 74 #[(.agg #[.int .i64 t.id, .int .i64 t.si, .int .i64 t.sr, .int .i64 t.cl, .int .i64 t.pt.kd, .int .i64 t.pt.wh, .int .i64 t.pt.sr, .int .i64 t.pt.tr, .int .i64 t.pt.pi, .int .i64 t.pt.le, .int .i64 t.pt.zo, .int .i64 t.gd.kd, .int .i64 t.gd.nn, .int .i64 t.ac.kd, .int .i64 t.ac.nn, .int .i64 t.ac.pi, .int .i64 t.ac.si, .int .i64 t.ac.zo, .bool t.ac.be, .slice t.ac.la t.ac.ln t.ac.lcap, .int .i64 t.un, .int .i64 t.le])] w fun e w' => e = .returned (.bool (okEf a)) ∧ Below w.heap.size w w' := by
  rw [← alike_okEf k]; exact specEffectOk_any t w (okT10 h k hs).w (by rw [k.ac.ln]; omega)
theorem specLives_al {w0 w : World} {B : Nat} {t a : Ef} (c : Int) (h : OwnF w B t) (k : AlikeF t a) (hs : a.ok w0) (hn : a.ac.ln ≤ 1048576) : Calls Try.prog 44 #[(.agg #[.int .i64 t.id, .int .i64 t.si, .int .i64 t.sr, .int .i64 t.cl, .int .i64 t.pt.kd, .int .i64 t.pt.wh, .int .i64 t.pt.sr, .int .i64 t.pt.tr, .int .i64 t.pt.pi, .int .i64 t.pt.le, .int .i64 t.pt.zo, .int .i64 t.gd.kd, .int .i64 t.gd.nn, .int .i64 t.ac.kd, .int .i64 t.ac.nn, .int .i64 t.ac.pi, .int .i64 t.ac.si, .int .i64 t.ac.zo, .bool t.ac.be, .slice t.ac.la t.ac.ln t.ac.lcap, .int .i64 t.un, .int .i64 t.le]), .int .i64 c] w fun e w' => e = .returned (.bool (lvE a c)) ∧ Below w.heap.size w w' := by
  rw [← alike_lvE k]; exact specLives_any t c w
theorem specNear_al {w0 w : World} {B : Nat} {t a : Ef} (v : Ev) (h : OwnF w B t) (k : AlikeF t a) (hs : a.ok w0) (hn : a.ac.ln ≤ 1048576) : Calls Try.prog 75 #[(.agg #[.int .i64 t.id, .int .i64 t.si, .int .i64 t.sr, .int .i64 t.cl, .int .i64 t.pt.kd, .int .i64 t.pt.wh, .int .i64 t.pt.sr, .int .i64 t.pt.tr, .int .i64 t.pt.pi, .int .i64 t.pt.le, .int .i64 t.pt.zo, .int .i64 t.gd.kd, .int .i64 t.gd.nn, .int .i64 t.ac.kd, .int .i64 t.ac.nn, .int .i64 t.ac.pi, .int .i64 t.ac.si, .int .i64 t.ac.zo, .bool t.ac.be, .slice t.ac.la t.ac.ln t.ac.lcap, .int .i64 t.un, .int .i64 t.le]), (.agg #[.int .i64 v.kd, .int .i64 v.sr, .int .i64 v.pi, .int .i64 v.si, .int .i64 v.nn, .int .i64 v.zo, .bool v.be])] w fun e w' => e = .returned (.bool (nrE a v)) ∧ Below w.heap.size w w' := by
  rw [← alike_nrE k]; exact specNear_any t v w
end Go.Proofs.Ytodfdfncdoliiau
namespace Go.Proofs.Ytodfdfncdoliiau
open Go.ChangeShapes Go.WideShapes Go.ChangeAt Go.RowKit
set_option maxRecDepth 100000
set_option linter.unusedVariables false
set_option linter.unusedSimpArgs false

/-- before which one this Id goes -/
def insK (f : Nat → Ef) (id : Int) : Nat → Nat
  | 0 => 0
  | n + 1 => if insK f id n = n ∧ (f n).id < id then n + 1 else insK f id n
theorem insK_le (f : Nat → Ef) (id : Int) : ∀ n, insK f id n ≤ n
  | 0 => Nat.le_refl _
  | n + 1 => by have := insK_le f id n; simp only [insK]; split <;> omega
theorem insK_full {f : Nat → Ef} {id : Int} : ∀ {n : Nat}, (∀ j, j < n → (f j).id < id) → insK f id n = n
  | 0, _ => rfl
  | n + 1, h => by
    have h1 := insK_full (n := n) (fun j hj => h j (by omega))
    simp only [insK]
    rw [if_pos ⟨h1, h n (by omega)⟩]
theorem insK_eq {f : Nat → Ef} {id : Int} {K : Nat} (h : ∀ j, j < K → (f j).id < id) (hK : ¬ (f K).id < id) : ∀ {n : Nat}, K ≤ n → insK f id n = K
  | 0, hn => by have : K = 0 := by omega
                subst this; rfl
  | n + 1, hn => by
    by_cases he : K = n + 1
    · subst he; exact insK_full h
    · have h1 := insK_eq h hK (n := n) (by omega)
      simp only [insK]
      rw [h1, if_neg ?_]
      rintro ⟨h2, h3⟩
      subst h2
      exact hK h3
def insF (K : Nat) (f : Nat → Ef) (e : Ef) : Nat → Ef := fun i => if i < K then f i else if i = K then e else f (i - 1)
def inOk (n : Nat) (f : Nat → Ef) (e : Ef) : Bool := decide (eaN f e.id n < 0) && okTb (n + 1) (insF (insK f e.id n) f e)
def inN (n : Nat) (f : Nat → Ef) (e : Ef) : Nat := if inOk n f e = true then n + 1 else n
def inF (n : Nat) (f : Nat → Ef) (e : Ef) : Nat → Ef := if inOk n f e = true then insF (insK f e.id n) f e else f
theorem insF_ok {n K : Nat} {f : Nat → Ef} {x : Ef} {w : World} (h : ∀ i, i < n → (f i).okW w ∧ (f i).ac.ln ≤ 1048577) (hx : x.okW w ∧ x.ac.ln ≤ 1048577) (hK : K ≤ n) : ∀ i, i < n + 1 → (insF K f x i).okW w ∧ (insF K f x i).ac.ln ≤ 1048577 := fun i hi => by
  unfold insF
  by_cases h1 : i < K
  · rw [if_pos h1]; exact h i (by omega)
  · by_cases h2 : i = K
    · rw [if_neg h1, if_pos h2]; exact hx
    · rw [if_neg h1, if_neg h2]; exact h (i - 1) (by omega)
def dpF (k : Nat) (f : Nat → Ef) : Nat → Ef := fun i => if i < k then f i else f (i + 1)
theorem okTb_alike {n : Nat} {f g : Nat → Ef} (h : ∀ i, i < n → AlikeF (g i) (f i)) : okTb n g = okTb n f := by
  have e : ∀ i, i < n → goodAt g i = goodAt f i := fun i hi => by
    unfold goodAt
    rw [alike_okEf (h i hi), (h i hi).id]
    by_cases h0 : 0 < i
    · rw [(h (i - 1) (by omega)).id]
    · simp [h0]
  unfold okTb
  have : (List.range n).all (goodAt g) = (List.range n).all (goodAt f) := by
    rw [Bool.eq_iff_iff, List.all_eq_true, List.all_eq_true]
    constructor
    · intro q i hi; rw [← e i (List.mem_range.1 hi)]; exact q i hi
    · intro q i hi; rw [e i (List.mem_range.1 hi)]; exact q i hi
  rw [this]
theorem Tb.okW.upto {p : Option Addr} {n cap b : Nat} {f : Nat → Ef} {w : World} (h : Tb.okW ⟨p, n, cap, b, f⟩ w) {k : Nat} (hk : k ≤ n) : Tb.okW ⟨p, k, cap, b, f⟩ w :=
  ⟨Nat.le_trans hk h.1, h.2.1, h.2.2.1.first hk, fun i hi => h.2.2.2 i (Nat.lt_of_lt_of_le hi hk)⟩
theorem Tb.okW.from {b o n cap : Nat} {f : Nat → Ef} {w : World} (h : Tb.okW ⟨some ⟨b, o, none⟩, n, cap, b, f⟩ w) {k : Nat} (hk : k ≤ n) {p : Option Addr} (hp : k < n → p = some ⟨b, o + k * 22, none⟩) : Tb.okW ⟨p, n - k, cap - k, b, fun i => f (k + i)⟩ w := by
  obtain ⟨h1, h2, h3, h4⟩ := h
  dsimp only at h1 h2 h3 h4
  refine ⟨by show n - k ≤ cap - k; omega, by show cap - k ≤ maxLen; omega, ?_, fun i hi => h4 (k + i) (by dsimp only at hi; omega)⟩
  dsimp only
  by_cases hkn : k < n
  · rcases h3 with h3 | ⟨o1, e, h3⟩
    · omega
    · simp only [Option.some.injEq, Addr.mk.injEq, and_true, true_and] at e
      subst e
      refine .inr ⟨o + k * 22, hp hkn, fun i hi j v hv => ?_⟩
      have := h3 (k + i) (by omega) j v hv
      rw [show o + k * 22 + i * 22 + j = o + (k + i) * 22 + j by omega]
      exact this
  · exact .inl (by omega)
theorem BuildT.okW {w w0 : World} {B : Nat} {v : Value} {k : Nat} {g f : Nat → Ef} (h : BuildT w B v k g f) (hf : ∀ i, i < k → (f i).okW w0 ∧ (f i).ac.ln ≤ 1048577) {b cap : Nat} (hv : v = .slice (some ⟨b, 0, none⟩) k cap) : Tb.okW ⟨some ⟨b, 0, none⟩, k, cap, b, g⟩ w := by
  obtain ⟨b', cap', e, ho⟩ := h.tb
  rw [hv] at e
  simp only [Value.slice.injEq, Option.some.injEq, Addr.mk.injEq, and_true, true_and] at e
  obtain ⟨rfl, rfl⟩ := e
  refine ⟨ho.1, ho.2.1, ho.2.2.1.rd, fun i hi => ?_⟩
  have ha := (h.2.2.1 i hi).2.2
  exact ⟨⟨okT9 (h.2.2.1 i hi).1 ha.ac (hf i hi).1.1, by rw [ha.le]; exact (hf i hi).1.2⟩, by rw [ha.ac.ln]; exact (hf i hi).2⟩
/-- the answer: a list of the call's own, of N effects like F's -/
def AnsT (w : World) (B : Nat) (q : Tb) (N : Nat) (F : Nat → Ef) : Prop := OwnTb w B q ∧ q.n = N ∧ ∀ i, i < N → AlikeF (q.f i) (F i)
theorem BuildT.ans {w : World} {B : Nat} {v : Value} {k : Nat} {g f : Nat → Ef} (h : BuildT w B v k g f) : ∃ q : Tb, v = .slice q.p q.n q.cap ∧ AnsT w B q k f := by
  obtain ⟨b, cap, rfl, ho⟩ := h.tb
  exact ⟨⟨some ⟨b, 0, none⟩, k, cap, b, g⟩, rfl, ho, rfl, fun i hi => (h.2.2.1 i hi).2.2⟩
end Go.Proofs.Ytodfdfncdoliiau
