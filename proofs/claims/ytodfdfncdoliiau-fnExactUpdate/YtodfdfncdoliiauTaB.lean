/-
  Chapter 11: rows of effects: how a law takes one over (toEffectS), measures it (szEffectS). Written by tools/tab.gen.py. Own work.
-/
import Derived.Test.YtodfdfncdoliiauTaA
namespace Go.Proofs.Ytodfdfncdoliiau
open Go.ChangeShapes Go.WideShapes Go.ChangeAt Go.RowKit
set_option maxRecDepth 100000
set_option linter.unusedVariables false
set_option linter.unusedSimpArgs false

theorem OwnF.down {w : World} {B B' : Nat} {t : Ef} (h : OwnF w B t) (hB : B' ≤ B) : OwnF w B' t := ⟨h.1, h.2.1, Nat.le_trans hB h.2.2.1, h.2.2.2⟩
theorem OwnF.lt {w : World} {B : Nat} {t : Ef} (h : OwnF w B t) : B ≤ t.ac.lb ∧ t.ac.lb < w.heap.size := ⟨h.2.2.1, h.2.2.2.1⟩
theorem RdE.rangeD {w : World} {b o n : Nat} {f : Nat → Ef} (h : ∀ i, i < n → ∀ j v, (efC (f i))[j]? = some v → w.cell? ⟨b, o + i * 22 + j, none⟩ = some v) {i : Nat} (hi : i < n) : w.rangeAt b (o + i * 22) (efC (f i)) := fun j v hv => h i hi j v hv
/-- one more is laid into a row of the call's own -/
def LaidF (w : World) (B r k : Nat) (g f : Nat → Ef) : Prop := (∀ i, i < k → OwnF w B (g i) ∧ (g i).ac.lb ≠ r ∧ AlikeF (g i) (f i)) ∧ ∀ i j, i < j → j < k → (g i).ac.lb ≠ (g j).ac.lb
theorem LaidF.next {w w' : World} {B r k : Nat} {g f : Nat → Ef} {y : Ef} (h : LaidF w B r k g f) (hB : B ≤ w.heap.size) (hr : r < w.heap.size) (hb : Below w.heap.size w w') (oy : OwnF w' w.heap.size y) (ky : AlikeF y (f k)) (o : Nat) (L : List Value) :
    LaidF (w'.setCells r o L) B r (k + 1) (fun i => if i = k then y else g i) f := by
  have hy := oy.lt
  refine ⟨fun i hi => ?_, fun i j hij hj => ?_⟩
  · by_cases hk : i = k
    · subst hk
      simp only [if_true]
      exact ⟨OwnF.down (OwnA.setL oy (by omega) o L) hB, by omega, ky⟩
    · simp only [if_neg hk]
      obtain ⟨h1, h2, h3⟩ := h.1 i (by omega)
      exact ⟨OwnA.setL (OwnF.grew h1 hb) h2 o L, h2, h3⟩
  · have hi : i ≠ k := by omega
    simp only [if_neg hi]
    by_cases hk : j = k
    · subst hk
      simp only [if_true]
      have := (h.1 i (by omega)).1.lt
      omega
    · simp only [if_neg hk]
      exact h.2 i j hij (by omega)
theorem tilE_put {α : Type} (k : Nat) (y : α) (g z : Nat → α) : (fun i => if i = k then y else tilE k g z i) = tilE (k + 1) (fun i => if i = k then y else g i) z := by
  funext i
  unfold tilE
  by_cases h : i = k
  · subst h; simp
  · simp only [if_neg h]
    by_cases h2 : i < k
    · rw [if_pos h2, if_pos (by omega)]
    · rw [if_neg h2, if_neg (by omega)]
set_option maxHeartbeats 4000000 in
theorem toEffectS_ans (t : Tb) (w : World) (hok : t.ok w) (hn : t.n ≤ 1048576) (hl : ∀ i, i < t.n → (t.f i).ac.ln ≤ 1048576) :
    Calls Try.prog 10 #[.slice t.p t.n t.cap] w fun e w' => ∃ q : Tb, e = .returned (.slice q.p q.n q.cap) ∧ Below w.heap.size w w' ∧ OwnTb w' w.heap.size q ∧ AlikeT q t := by
  obtain ⟨i0, hi, hz0, hz1, hz2⟩ := info_parts Try.infoEf
  obtain ⟨p, n, cap, b, f⟩ := t
  obtain ⟨hc1, hc2, h, hf⟩ := hok
  dsimp only at hc1 hc2 h hf hn hl ⊢
  go_enter Try.func10, Try.ntmps10
  go_wp2_with (at_make; refine wpList_make_full _ rfl _ _ 24 rfl w.heap.size 49 i0 _ 22 Try.underlying24 hi hz0 hz1 _ _ _ _ n rfl rfl rfl rfl (by rw [hz2]; omega) (by unfold maxLen; omega) (Nat.le_refl _) ?_)
  intro w1 hown hgr
  have hown' : w1.ownsRow w.heap.size 49 22 (.slice (some ⟨w.heap.size, 0, none⟩) n n) n (valsE efC n (fun _ => zEf)) := by rw [← made_effect]; exact hown
  have hrow := row_madeE hown'
  have HR : Hid (w1.heap[w.heap.size]? = some (.cells (valsE efC n (tilE 0 f (fun _ => zEf))).toArray 49 (0, 0))) := by rw [tilE_zero]; exact hrow
  have hb1 : Below w.heap.size w w1 := (Below.refl _ _).grown hgr (Nat.le_refl _) (by simp)
  clear hown hown' hgr hrow
  go_wp2
  go_loopw [4] (fun i wr => ∃ (k : Nat) (g : Nat → Ef), k ≤ n ∧ i = .int .i64 k ∧ Below w.heap.size w wr ∧ Hid (wr.heap[w.heap.size]? = some (.cells (valsE efC n (tilE k g (fun _ => zEf))).toArray 49 (0, 0))) ∧ LaidF wr w.heap.size w.heap.size k g f) (fun i _ => n - (intOf i).toNat)
  case atStart => exact ⟨0, f, Nat.zero_le _, rfl, hb1, HR, fun i hi => by omega, fun i j _ hj => by omega⟩
  case round =>
    clear HR hb1
    obtain ⟨k, g, hk, rfl, hb, hr, hg⟩ := hrel
    by_cases hlt : k < n
    · rcases h.grew efC_ne hb with h3 | ⟨o1, rfl, h3⟩
      · omega
      have hx := ef_grew (hf k hlt) hb
      have hlx := hl k hlt
      have hra := RdE.rangeD h3 hlt
      have hrw := lt_row hr.out
      obtain ⟨x, hxe⟩ : ∃ x, Hid (f k = x) := ⟨f k, (rfl : f k = f k)⟩
      rw [hxe.out] at hx hlx hra
      clear h3
      go_wp2_with (refine wpList_load_mid rfl 40 _ rfl b (o1 + k * 22) (by rfl) [.int .i64 x.id, .int .i64 x.si, .int .i64 x.sr, .int .i64 x.cl, .int .i64 x.pt.kd, .int .i64 x.pt.wh, .int .i64 x.pt.sr, .int .i64 x.pt.tr, .int .i64 x.pt.pi, .int .i64 x.pt.le, .int .i64 x.pt.zo, .int .i64 x.gd.kd, .int .i64 x.gd.nn, .int .i64 x.ac.kd, .int .i64 x.ac.nn, .int .i64 x.ac.pi, .int .i64 x.ac.si, .int .i64 x.ac.zo, .bool x.ac.be, .slice x.ac.la x.ac.ln x.ac.lcap, .int .i64 x.un, .int .i64 x.le] _ hra Try.underlying40 rfl (by kernel_rfl) ?_)
      refine (toEffect_ans x _ hx hlx).mono ?_
      rintro e w2 ⟨y, rfl, hb2, oy, ky⟩
      rw [← hxe.out] at ky
      have hr2 := (hb2.block _ hrw).trans hr.out
      have ht : w2.there w.heap.size (k * 22) 22 := there_row hr2 (by simp [valsE_len efC_len]; omega)
      have hput := row_putE efC_len hr2 k y hlt
      rw [tilE_put] at hput
      have hB3 := below_setCells' (Nat.le_refl w.heap.size) (efC y) (k * 22) w2 (below_app hb hb2 hb.size)
      have hg3 := hg.next hb.size hrw hb2 oy ky (k * 22) (efC y)
      clear hra hr hr2 hb hb2 hg oy ky hxe hx hlx hrw
      go_wp2_with (refine wpList_store_mid rfl 49 _ _ rfl w.heap.size (k * 22) #[.int .i64 y.id, .int .i64 y.si, .int .i64 y.sr, .int .i64 y.cl, .int .i64 y.pt.kd, .int .i64 y.pt.wh, .int .i64 y.pt.sr, .int .i64 y.pt.tr, .int .i64 y.pt.pi, .int .i64 y.pt.le, .int .i64 y.pt.zo, .int .i64 y.gd.kd, .int .i64 y.gd.nn, .int .i64 y.ac.kd, .int .i64 y.ac.nn, .int .i64 y.ac.pi, .int .i64 y.ac.si, .int .i64 y.ac.zo, .bool y.ac.be, .slice y.ac.la y.ac.ln y.ac.lcap, .int .i64 y.un, .int .i64 y.le] (by first | rfl | simp [Act.eval]) rfl ht (by kernel_rfl) (by simp [Value.oneCell']) ?_; generalize hV : w2.setCells w.heap.size (k * 22) _ = V; rw [show w2.setCells w.heap.size (k * 22) (efC y) = V from hV] at hput hB3 hg3; clear hV ht)
      have HR2 : Hid (V.heap[w.heap.size]? = some (.cells (valsE efC n (tilE (k + 1) (fun i => if i = k then y else g i) (fun _ => zEf))).toArray 49 (0, 0))) := hput
      clear hput
      go_roundw
      case rel => first | exact ⟨k + 1, _, by omega, by go_num, hB3, HR2, hg3⟩ | ((repeat apply Exists.intro); exact ⟨⟨k + 1, _, by omega, by go_num, hB3, HR2, hg3⟩, rfl⟩)
      case measure => simp [intOf]; omega
    · have hr2 := hr.out
      obtain rfl : k = n := by omega
      rw [valsE_congr efC_len (tilE_all g (fun _ => zEf) (Nat.le_refl k))] at hr2
      have ho := ownE_row efC_len hr2 (Nat.le_refl w.heap.size)
      clear hr hr2
      go_wp2
      go_ret
      exact ⟨⟨some ⟨w.heap.size, 0, none⟩, k, k, w.heap.size, g⟩, rfl, hb, ⟨Nat.le_refl _, Nat.le_trans hc1 hc2, ho, fun i hi => ⟨(hg.1 i hi).1, (hg.1 i hi).2.1⟩, fun i j hij hj => hg.2 i j hij hj⟩, ⟨rfl, fun i hi => (hg.1 i hi).2.2⟩⟩
set_option maxHeartbeats 4000000 in
theorem szEffectS_any (t : Tb) (x : Int) (w : World) (hok : t.ok w) (hx : 0 ≤ x ∧ x ≤ 1048576) :
    Calls Try.prog 8 #[.slice t.p t.n t.cap, .int .i64 x] w fun e w' => ∃ r : Int, e = .returned (.int .i64 r) ∧ Below w.heap.size w w' ∧ (r = -1 ∨ (0 ≤ r ∧ r ≤ 1048576 ∧ t.n ≤ 1048576 ∧ ∀ i, i < t.n → (t.f i).ac.ln ≤ 1048576)) := by
  obtain ⟨p, n, cap, b, f⟩ := t
  obtain ⟨hc1, hc2, h, hf⟩ := hok
  dsimp only at hc1 hc2 h hf ⊢
  have hcm : n ≤ 9223372036854775807 := by unfold maxLen at hc2; omega
  obtain ⟨x1, x2⟩ := hx
  by_cases h0 : x - n < 0
  · go_enter Try.func8, Try.ntmps8
    go_wp2
    go_ret
    exact ⟨-1, rfl, Below.refl _ _, .inl rfl⟩
  · have h' : 0 ≤ x - (n : Int) := by omega
    have hn1 : (n : Int) ≤ 1048576 := by omega
    go_enter Try.func8, Try.ntmps8
    go_wp2
    go_loopw [1, 5] (fun m i wr => ∃ (k : Nat) (r : Int), k ≤ n ∧ i = .int .i64 k ∧ m = .int .i64 r ∧ 0 ≤ r ∧ r ≤ 1048576 ∧ Below w.heap.size w wr ∧ ∀ j, j < k → (f j).ac.ln ≤ 1048576) (fun _ i _ => n - (intOf i).toNat)
    case atStart => exact ⟨0, x - n, Nat.zero_le _, rfl, by first | rfl | go_num, h', by omega, Below.refl _ _, fun j hj => by omega⟩
    case round =>
      obtain ⟨k, r, hk, rfl, rfl, r0, r1, hb, hg⟩ := hrel
      by_cases hlt : k < n
      · rcases h.grew efC_ne hb with h3 | ⟨o1, rfl, h3⟩
        · omega
        have hlx : (f k).ac.ln ≤ 9223372036854775807 := by have h1 := (hf k hlt).1.1; have h2 := (hf k hlt).1.2.1; unfold maxLen at h2; omega
        have hra := RdE.rangeD h3 hlt
        obtain ⟨y, hxe⟩ : ∃ y, Hid (f k = y) := ⟨f k, (rfl : f k = f k)⟩
        rw [hxe.out] at hlx hra
        clear h3
        go_wp2_with (refine wpList_load_mid rfl 40 _ rfl b (o1 + k * 22) (by rfl) [.int .i64 y.id, .int .i64 y.si, .int .i64 y.sr, .int .i64 y.cl, .int .i64 y.pt.kd, .int .i64 y.pt.wh, .int .i64 y.pt.sr, .int .i64 y.pt.tr, .int .i64 y.pt.pi, .int .i64 y.pt.le, .int .i64 y.pt.zo, .int .i64 y.gd.kd, .int .i64 y.gd.nn, .int .i64 y.ac.kd, .int .i64 y.ac.nn, .int .i64 y.ac.pi, .int .i64 y.ac.si, .int .i64 y.ac.zo, .bool y.ac.be, .slice y.ac.la y.ac.ln y.ac.lcap, .int .i64 y.un, .int .i64 y.le] _ hra Try.underlying40 rfl (by kernel_rfl) ?_)
        refine (szEffect_any y r _ hlx ⟨r0, r1⟩).mono ?_
        rintro e w2 ⟨rfl, hb2⟩
        replace hb := below_app hb hb2 hb.size
        clear hb2 hra
        by_cases hs : r - y.ac.ln < 0
        · have HS : Hid (szN y.ac.ln r = -1) := by show szN y.ac.ln r = -1; unfold szN; rw [if_pos hs]
          rw [HS.out]
          go_wp2
          go_ret
          exact ⟨-1, rfl, hb, .inl rfl⟩
        · have HS : Hid (szN y.ac.ln r = r - y.ac.ln) := by show szN y.ac.ln r = r - y.ac.ln; unfold szN; rw [if_neg hs]
          rw [HS.out]
          have h9 : 0 ≤ r - (y.ac.ln : Int) := by omega
          clear hs HS
          go_wp2
          go_roundw
          case rel => exact ⟨k + 1, r - y.ac.ln, by omega, by go_num, rfl, h9, by omega, hb, fun j hj => by
            by_cases hjk : j = k
            · subst hjk; rw [hxe.out]; omega
            · exact hg j (by omega)⟩
          case measure => simp [intOf]; omega
      · obtain rfl : k = n := by omega
        go_wp2
        go_ret
        exact ⟨r, rfl, hb, .inr ⟨r0, r1, by omega, hg⟩⟩
end Go.Proofs.Ytodfdfncdoliiau
