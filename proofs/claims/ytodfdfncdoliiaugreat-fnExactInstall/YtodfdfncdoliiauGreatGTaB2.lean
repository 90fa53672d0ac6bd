/-
  Chapter 11: rows of effects: how a law takes one over (toEffectS), measures it (szEffectS). Written by tools/tab.gen.py. Chapter 11: rows of effects: how a law compares two (eqEffectS). Written by tools/tab.gen.py. Own work.
-/
import Derived.Test.YtodfdfncdoliiauGreatGEfC2
import Derived.Deep.RegionHeld
import Derived.Deep.MidRow
namespace Go.Proofs.YtodfdfncdoliiauGreat
open Go.ChangeShapes Go.WideShapes Go.ChangeAt Go.RowKit
set_option maxRecDepth 100000
set_option linter.unusedVariables false
set_option linter.unusedSimpArgs false

theorem OwnF.down {w : World} {B B' : Nat} {t : Ef} (h : OwnF w B t) (hB : B' ≤ B) : OwnF w B' t := ⟨h.1, h.2.1, Nat.le_trans hB h.2.2.1, h.2.2.2⟩
theorem OwnF.lt {w : World} {B : Nat} {t : Ef} (h : OwnF w B t) : B ≤ t.ac.lb ∧ t.ac.lb < w.heap.size := ⟨h.2.2.1, h.2.2.2.1⟩
theorem RdE.rangeD {w : World} {b o n : Nat} {f : Nat → Ef} (h : ∀ i, i < n → ∀ j v, (efC (f i))[j]? = some v → w.cell? ⟨b, o + i * 22 + j, none⟩ = some v) {i : Nat} (hi : i < n) : w.rangeAt b (o + i * 22) (efC (f i)) := fun j v hv => h i hi j v hv
/-- one more is laid into a row of the call's own -/
def LaidF (w : World) (B r k : Nat) (g f : Nat → Ef) : Prop := (∀ i, i < k → OwnF w B (g i) ∧ (g i).ac.lb ≠ r ∧ AlikeF (g i) (f i)) ∧ ∀ i j, i < j → j < k → (g i).ac.lb ≠ (g j).ac.lb
theorem LaidF.next {w w' : World} {B r k : Nat} {g f : Nat → Ef} {y : Ef} (h : LaidF w B r k g f) (hB : B ≤ w.heap.size) (hr : r < w.heap.size) (hb : Below w.heap.size w w') (oy : OwnF w' w.heap.size y) (ky : AlikeF y (f k)) (o : Nat) (L : List Value) :
    LaidF (w'.setCells r o L) B r (k + 1) (fun i => if i = k then y else g i) f := by
  have hy := oy.lt
  refine ⟨fun i hi => ?_, fun i j hij hj => ?_⟩
  · by_cases hk : i = k
    · subst hk
      simp only [if_true]
      exact ⟨OwnF.down (OwnA.setL oy (by omega) o L) hB, by omega, ky⟩
    · simp only [if_neg hk]
      obtain ⟨h1, h2, h3⟩ := h.1 i (by omega)
      exact ⟨OwnA.setL (OwnF.grew h1 hb) h2 o L, h2, h3⟩
  · have hi : i ≠ k := by omega
    simp only [if_neg hi]
    by_cases hk : j = k
    · subst hk
      simp only [if_true]
      have := (h.1 i (by omega)).1.lt
      omega
    · simp only [if_neg hk]
      exact h.2 i j hij (by omega)
theorem tilE_put {α : Type} (k : Nat) (y : α) (g z : Nat → α) : (fun i => if i = k then y else tilE k g z i) = tilE (k + 1) (fun i => if i = k then y else g i) z := by
  funext i
  unfold tilE
  by_cases h : i = k
  · subst h; simp
  · simp only [if_neg h]
    by_cases h2 : i < k
    · rw [if_pos h2, if_pos (by omega)]
    · rw [if_neg h2, if_neg (by omega)]
set_option maxHeartbeats 4000000 in
theorem toEffectS_ans (t : Tb) (w : World) (hok : t.ok w) (hn : t.n ≤ 1048576) (hl : ∀ i, i < t.n → (t.f i).ac.ln ≤ 1048576) :
    Calls Tryz.prog 7 #[.slice t.p t.n t.cap] w fun e w' => ∃ q : Tb, e = .returned (.slice q.p q.n q.cap) ∧ Below w.heap.size w w' ∧ OwnTb w' w.heap.size q ∧ AlikeT q t := by
  obtain ⟨i0, hi, hz0, hz1, hz2⟩ := info_parts Tryz.infoEf
  obtain ⟨p, n, cap, b, f⟩ := t
  obtain ⟨hc1, hc2, h, hf⟩ := hok
  dsimp only at hc1 hc2 h hf hn hl ⊢
  go_enter Tryz.func7, Tryz.ntmps7
  go_wp2_with (at_make; refine wpList_make_full _ rfl _ _ 34 rfl w.heap.size 44 i0 _ 22 Tryz.underlying34 hi hz0 hz1 _ _ _ _ n rfl rfl rfl rfl (by rw [hz2]; omega) (by unfold maxLen; omega) (Nat.le_refl _) ?_)
  intro w1 hown hgr
  have hown' : w1.ownsRow w.heap.size 44 22 (.slice (some ⟨w.heap.size, 0, none⟩) n n) n (valsE efC n (fun _ => zEf)) := by rw [← made_effect]; exact hown
  have hrow := row_madeE hown'
  have HR : Hid (w1.heap[w.heap.size]? = some (.cells (valsE efC n (tilE 0 f (fun _ => zEf))).toArray 44 (0, 0))) := by rw [tilE_zero]; exact hrow
  have hb1 : Below w.heap.size w w1 := (Below.refl _ _).grown hgr (Nat.le_refl _) (by simp)
  clear hown hown' hgr hrow
  go_wp2
  go_loopw [4] (fun i wr => ∃ (k : Nat) (g : Nat → Ef), k ≤ n ∧ i = .int .i64 k ∧ Below w.heap.size w wr ∧ Hid (wr.heap[w.heap.size]? = some (.cells (valsE efC n (tilE k g (fun _ => zEf))).toArray 44 (0, 0))) ∧ LaidF wr w.heap.size w.heap.size k g f) (fun i _ => n - (intOf i).toNat)
  case atStart => exact ⟨0, f, Nat.zero_le _, rfl, hb1, HR, fun i hi => by omega, fun i j _ hj => by omega⟩
  case round =>
    clear HR hb1
    obtain ⟨k, g, hk, rfl, hb, hr, hg⟩ := hrel
    by_cases hlt : k < n
    · rcases h.grew efC_ne hb with h3 | ⟨o1, rfl, h3⟩
      · omega
      have hx := ef_grew (hf k hlt) hb
      have hlx := hl k hlt
      have hra := RdE.rangeD h3 hlt
      have hrw := lt_row hr.out
      obtain ⟨x, hxe⟩ : ∃ x, Hid (f k = x) := ⟨f k, (rfl : f k = f k)⟩
      rw [hxe.out] at hx hlx hra
      clear h3
      go_wp2_with (refine wpList_load_mid rfl 31 _ rfl b (o1 + k * 22) (by rfl) [.int .i64 x.id, .int .i64 x.si, .int .i64 x.sr, .int .i64 x.cl, .int .i64 x.pt.kd, .int .i64 x.pt.wh, .int .i64 x.pt.sr, .int .i64 x.pt.tr, .int .i64 x.pt.pi, .int .i64 x.pt.le, .int .i64 x.pt.zo, .int .i64 x.gd.kd, .int .i64 x.gd.nn, .int .i64 x.ac.kd, .int .i64 x.ac.nn, .int .i64 x.ac.pi, .int .i64 x.ac.si, .int .i64 x.ac.zo, .bool x.ac.be, .slice x.ac.la x.ac.ln x.ac.lcap, .int .i64 x.un, .int .i64 x.le] _ hra Tryz.underlying31 rfl (by kernel_rfl) ?_)
      refine (toEffect_ans x _ hx hlx).mono ?_
      rintro e w2 ⟨y, rfl, hb2, oy, ky⟩
      rw [← hxe.out] at ky
      have hr2 := (hb2.block _ hrw).trans hr.out
      have ht : w2.there w.heap.size (k * 22) 22 := there_row hr2 (by simp [valsE_len efC_len]; omega)
      have hput := row_putE efC_len hr2 k y hlt
      rw [tilE_put] at hput
      have hB3 := below_setCells' (Nat.le_refl w.heap.size) (efC y) (k * 22) w2 (below_app hb hb2 hb.size)
      have hg3 := hg.next hb.size hrw hb2 oy ky (k * 22) (efC y)
      clear hra hr hr2 hb hb2 hg oy ky hxe hx hlx hrw
      go_wp2_with (refine wpList_store_mid rfl 44 _ _ rfl w.heap.size (k * 22) #[.int .i64 y.id, .int .i64 y.si, .int .i64 y.sr, .int .i64 y.cl, .int .i64 y.pt.kd, .int .i64 y.pt.wh, .int .i64 y.pt.sr, .int .i64 y.pt.tr, .int .i64 y.pt.pi, .int .i64 y.pt.le, .int .i64 y.pt.zo, .int .i64 y.gd.kd, .int .i64 y.gd.nn, .int .i64 y.ac.kd, .int .i64 y.ac.nn, .int .i64 y.ac.pi, .int .i64 y.ac.si, .int .i64 y.ac.zo, .bool y.ac.be, .slice y.ac.la y.ac.ln y.ac.lcap, .int .i64 y.un, .int .i64 y.le] (by first | rfl | simp [Act.eval]) rfl ht (by kernel_rfl) (by simp [Value.oneCell']) ?_; generalize hV : w2.setCells w.heap.size (k * 22) _ = V; rw [show w2.setCells w.heap.size (k * 22) (efC y) = V from hV] at hput hB3 hg3; clear hV ht)
      have HR2 : Hid (V.heap[w.heap.size]? = some (.cells (valsE efC n (tilE (k + 1) (fun i => if i = k then y else g i) (fun _ => zEf))).toArray 44 (0, 0))) := hput
      clear hput
      go_roundw
      case rel => first | exact ⟨k + 1, _, by omega, by go_num, hB3, HR2, hg3⟩ | ((repeat apply Exists.intro); exact ⟨⟨k + 1, _, by omega, by go_num, hB3, HR2, hg3⟩, rfl⟩)
      case measure => simp [intOf]; omega
    · have hr2 := hr.out
      obtain rfl : k = n := by omega
      rw [valsE_congr efC_len (tilE_all g (fun _ => zEf) (Nat.le_refl k))] at hr2
      have ho := ownE_row efC_len hr2 (Nat.le_refl w.heap.size)
      clear hr hr2
      go_wp2
      go_ret
      exact ⟨⟨some ⟨w.heap.size, 0, none⟩, k, k, w.heap.size, g⟩, rfl, hb, ⟨Nat.le_refl _, Nat.le_trans hc1 hc2, ho, fun i hi => ⟨(hg.1 i hi).1, (hg.1 i hi).2.1⟩, fun i j hij hj => hg.2 i j hij hj⟩, ⟨rfl, fun i hi => (hg.1 i hi).2.2⟩⟩
set_option maxHeartbeats 4000000 in
theorem szEffectS_any (t : Tb) (x : Int) (w : World) (hok : t.ok w) (hx : 0 ≤ x ∧ x ≤ 1048576) :
    Calls Tryz.prog 4 #[.slice t.p t.n t.cap, .int .i64 x] w fun e w' => ∃ r : Int, e = .returned (.int .i64 r) ∧ Below w.heap.size w w' ∧ (r = -1 ∨ (0 ≤ r ∧ r ≤ 1048576 ∧ t.n ≤ 1048576 ∧ ∀ i, i < t.n → (t.f i).ac.ln ≤ 1048576)) := by
  obtain ⟨p, n, cap, b, f⟩ := t
  obtain ⟨hc1, hc2, h, hf⟩ := hok
  dsimp only at hc1 hc2 h hf ⊢
  have hcm : n ≤ 9223372036854775807 := by unfold maxLen at hc2; omega
  obtain ⟨x1, x2⟩ := hx
  by_cases h0 : x - n < 0
  · go_enter Tryz.func4, Tryz.ntmps4
    go_wp2
    go_ret
    exact ⟨-1, rfl, Below.refl _ _, .inl rfl⟩
  · have h' : 0 ≤ x - (n : Int) := by omega
    have hn1 : (n : Int) ≤ 1048576 := by omega
    go_enter Tryz.func4, Tryz.ntmps4
    go_wp2
    go_loopw [1, 5] (fun m i wr => ∃ (k : Nat) (r : Int), k ≤ n ∧ i = .int .i64 k ∧ m = .int .i64 r ∧ 0 ≤ r ∧ r ≤ 1048576 ∧ Below w.heap.size w wr ∧ ∀ j, j < k → (f j).ac.ln ≤ 1048576) (fun _ i _ => n - (intOf i).toNat)
    case atStart => exact ⟨0, x - n, Nat.zero_le _, rfl, by first | rfl | go_num, h', by omega, Below.refl _ _, fun j hj => by omega⟩
    case round =>
      obtain ⟨k, r, hk, rfl, rfl, r0, r1, hb, hg⟩ := hrel
      by_cases hlt : k < n
      · rcases h.grew efC_ne hb with h3 | ⟨o1, rfl, h3⟩
        · omega
        have hlx : (f k).ac.ln ≤ 9223372036854775807 := by have h1 := (hf k hlt).1.1; have h2 := (hf k hlt).1.2.1; unfold maxLen at h2; omega
        have hra := RdE.rangeD h3 hlt
        obtain ⟨y, hxe⟩ : ∃ y, Hid (f k = y) := ⟨f k, (rfl : f k = f k)⟩
        rw [hxe.out] at hlx hra
        clear h3
        go_wp2_with (refine wpList_load_mid rfl 31 _ rfl b (o1 + k * 22) (by rfl) [.int .i64 y.id, .int .i64 y.si, .int .i64 y.sr, .int .i64 y.cl, .int .i64 y.pt.kd, .int .i64 y.pt.wh, .int .i64 y.pt.sr, .int .i64 y.pt.tr, .int .i64 y.pt.pi, .int .i64 y.pt.le, .int .i64 y.pt.zo, .int .i64 y.gd.kd, .int .i64 y.gd.nn, .int .i64 y.ac.kd, .int .i64 y.ac.nn, .int .i64 y.ac.pi, .int .i64 y.ac.si, .int .i64 y.ac.zo, .bool y.ac.be, .slice y.ac.la y.ac.ln y.ac.lcap, .int .i64 y.un, .int .i64 y.le] _ hra Tryz.underlying31 rfl (by kernel_rfl) ?_)
        refine (szEffect_any y r _ hlx ⟨r0, r1⟩).mono ?_
        rintro e w2 ⟨rfl, hb2⟩
        replace hb := below_app hb hb2 hb.size
        clear hb2 hra
        by_cases hs : r - y.ac.ln < 0
        · have HS : Hid (szN y.ac.ln r = -1) := by show szN y.ac.ln r = -1; unfold szN; rw [if_pos hs]
          rw [HS.out]
          go_wp2
          go_ret
          exact ⟨-1, rfl, hb, .inl rfl⟩
        · have HS : Hid (szN y.ac.ln r = r - y.ac.ln) := by show szN y.ac.ln r = r - y.ac.ln; unfold szN; rw [if_neg hs]
          rw [HS.out]
          have h9 : 0 ≤ r - (y.ac.ln : Int) := by omega
          clear hs HS
          go_wp2
          go_roundw
          case rel => exact ⟨k + 1, r - y.ac.ln, by omega, by go_num, rfl, h9, by omega, hb, fun j hj => by
            by_cases hjk : j = k
            · subst hjk; rw [hxe.out]; omega
            · exact hg j (by omega)⟩
          case measure => simp [intOf]; omega
      · obtain rfl : k = n := by omega
        go_wp2
        go_ret
        exact ⟨r, rfl, hb, .inr ⟨r0, r1, by omega, hg⟩⟩
end Go.Proofs.YtodfdfncdoliiauGreat
namespace Go.Proofs.YtodfdfncdoliiauGreat
open Go.ChangeShapes Go.WideShapes Go.ChangeAt Go.RowKit
set_option maxRecDepth 100000
set_option linter.unusedVariables false
set_option linter.unusedSimpArgs false

theorem rangeAt_below {w w' : World} {b o : Nat} {cs : List Value} (h : w.rangeAt b o cs) (hb : Below w.heap.size w w') : w'.rangeAt b o cs := fun j v hv =>
  (World.cell?_of_block (w := w) (a := ⟨b, o + j, none⟩) (hb.block b (World.block_lt_of_cell? w _ (h j v hv)))).trans (h j v hv)
theorem cell_below {w w' : World} {a : Addr} {v : Value} (h : w.cell? a = some v) (hb : Below w.heap.size w w') : w'.cell? a = some v := (World.cell?_of_block (w := w) (a := a) (hb.block a.block (World.block_lt_of_cell? w _ h))).trans h
set_option maxHeartbeats 8000000 in
theorem eqEffectS_alike (t1 t2 a : Tb) (w : World) {B1 B2 : Nat} (o1 : OwnTb w B1 t1) (o2 : OwnTb w B2 t2) (k1 : AlikeT t1 a) (k2 : AlikeT t2 a) (hl : ∀ i, i < a.n → (a.f i).ac.ln ≤ 1048577) :
    Calls Tryz.prog 10 #[.slice t1.p t1.n t1.cap, .slice t2.p t2.n t2.cap] w fun e w' => e = .returned (.bool true) ∧ Below w.heap.size w w' := by
  have m_ : Tryz.prog.follows Departure.mixedOrders = true := by kernel_rfl
  obtain ⟨p1, n1, c1, b1, f1⟩ := t1
  obtain ⟨p2, n2, c2, b2, f2⟩ := t2
  obtain ⟨hn1, h1⟩ := k1
  obtain ⟨hn2, h2⟩ := k2
  dsimp only at hn1 hn2 h1 h2 ⊢
  obtain ⟨a1, a2, r1, g1, _⟩ := o1
  obtain ⟨a3, a4, r2, g2, _⟩ := o2
  dsimp only at a1 a2 a3 a4 r1 r2 g1 g2
  generalize hN : a.n = n at hn1 hn2 h1 h2 hl
  subst hn1
  obtain rfl := hn2
  have hnm : n2 ≤ 9223372036854775807 := by unfold maxLen at a2; omega
  go_enter Tryz.func10, Tryz.ntmps10
  go_wp2
  go_loopw [5] (fun i wr => ∃ k : Nat, k ≤ n2 ∧ i = .int .i64 k ∧ Below w.heap.size w wr) (fun i _ => n2 - (intOf i).toNat)
  case atStart => exact ⟨0, Nat.zero_le _, rfl, Below.refl _ _⟩
  case round =>
    obtain ⟨k, hk, rfl, hb0⟩ := hrel
    by_cases hlt : k < n2
    · rcases r1.rd.grew efC_ne hb0 with q1 | ⟨x1, rfl, q1⟩
      · omega
      rcases r2.rd.grew efC_ne hb0 with q2 | ⟨x2, rfl, q2⟩
      · omega
      have ra := RdE.rangeD q1 hlt
      have rb := RdE.rangeD q2 hlt
      have oa := OwnF.grew (g1 k hlt).1 hb0
      have ob := OwnF.grew (g2 k hlt).1 hb0
      have ka := h1 k hlt
      have kb := h2 k hlt
      have hlk := hl k hlt
      clear q1 q2 h1 h2 g1 g2 r1 r2 hl
      generalize f1 k = x at ra oa ka
      generalize f2 k = y at rb ob kb
      generalize a.f k = z at ka kb hlk
      have y1 : (0 : Int) ≤ (k : Int) := by omega
      have y2 : (k : Int) < (n2 : Int) := by omega
      go_wp2_with fail
      have hq : Below wr.heap.size wr wr.drew := (Below.refl _ wr).drew
      refine wp_region_held_drew (S := fun u : World => Below wr.heap.size wr u) (by kernel_rfl) hq (fun hHeld => ?_)
      refine wpAnyH_take (i := 0) (oi := ⟨some 17, _, _, _, _, _⟩) (v := .slice (some ⟨b1, x1, none⟩) n2 c1) rfl (by kernel_rfl) (by kernel_rfl) (by kernel_rfl) (fun _ _ _ h => h) (Or.inl ⟨by kernel_rfl, fun u hSu => by clear hSu; go_simp⟩) hHeld ?_
      try simp only [Act.put, List.setIfInBounds_toArray, List.set_cons_zero, List.set_cons_succ]
      refine wpAnyH_take (i := 1) (oi := ⟨some 18, _, _, _, _, _⟩) (v := .int .i64 k) rfl (by kernel_rfl) (by kernel_rfl) (by kernel_rfl) (fun _ _ _ h => h) (Or.inl ⟨by kernel_rfl, fun u hSu => by clear hSu; go_simp⟩) hHeld ?_
      try simp only [Act.put, List.setIfInBounds_toArray, List.set_cons_zero, List.set_cons_succ]
      refine wpAnyH_take (i := 2) (oi := ⟨some 19, _, _, _, _, _⟩) (v := .pointer (some ⟨b1, x1 + k * 22, none⟩)) rfl (by kernel_rfl) (by kernel_rfl) (by kernel_rfl) (fun _ _ _ h => h) (Or.inl ⟨by kernel_rfl, fun u hSu => by clear hSu; go_simp⟩) hHeld ?_
      try simp only [Act.put, List.setIfInBounds_toArray, List.set_cons_zero, List.set_cons_succ]
      refine wpAnyH_take (i := 3) (oi := ⟨some 20, _, _, _, _, _⟩) (v := .agg #[.int .i64 x.id, .int .i64 x.si, .int .i64 x.sr, .int .i64 x.cl, .int .i64 x.pt.kd, .int .i64 x.pt.wh, .int .i64 x.pt.sr, .int .i64 x.pt.tr, .int .i64 x.pt.pi, .int .i64 x.pt.le, .int .i64 x.pt.zo, .int .i64 x.gd.kd, .int .i64 x.gd.nn, .int .i64 x.ac.kd, .int .i64 x.ac.nn, .int .i64 x.ac.pi, .int .i64 x.ac.si, .int .i64 x.ac.zo, .bool x.ac.be, .slice x.ac.la x.ac.ln x.ac.lcap, .int .i64 x.un, .int .i64 x.le]) rfl (by kernel_rfl) (by kernel_rfl) (by kernel_rfl) (fun _ _ _ h => h) (yieldsIf_load_mid (by kernel_rfl) 44 (.tmp 19) rfl (b1) (x1 + k * 22) (by rfl) [.int .i64 x.id, .int .i64 x.si, .int .i64 x.sr, .int .i64 x.cl, .int .i64 x.pt.kd, .int .i64 x.pt.wh, .int .i64 x.pt.sr, .int .i64 x.pt.tr, .int .i64 x.pt.pi, .int .i64 x.pt.le, .int .i64 x.pt.zo, .int .i64 x.gd.kd, .int .i64 x.gd.nn, .int .i64 x.ac.kd, .int .i64 x.ac.nn, .int .i64 x.ac.pi, .int .i64 x.ac.si, .int .i64 x.ac.zo, .bool x.ac.be, .slice x.ac.la x.ac.ln x.ac.lcap, .int .i64 x.un, .int .i64 x.le] _ (fun u hu => rangeAt_below ra hu) Tryz.underlying44 rfl (by kernel_rfl)) hHeld ?_
      try simp only [Act.put, List.setIfInBounds_toArray, List.set_cons_zero, List.set_cons_succ]
      refine wpAnyH_take (i := 4) (oi := ⟨some 21, _, _, _, _, _⟩) (v := .slice (some ⟨b2, x2, none⟩) n2 c2) rfl (by kernel_rfl) (by kernel_rfl) (by kernel_rfl) (fun _ _ _ h => h) (Or.inl ⟨by kernel_rfl, fun u hSu => by clear hSu; go_simp⟩) hHeld ?_
      try simp only [Act.put, List.setIfInBounds_toArray, List.set_cons_zero, List.set_cons_succ]
      refine wpAnyH_take (i := 5) (oi := ⟨some 22, _, _, _, _, _⟩) (v := .int .i64 k) rfl (by kernel_rfl) (by kernel_rfl) (by kernel_rfl) (fun _ _ _ h => h) (Or.inl ⟨by kernel_rfl, fun u hSu => by clear hSu; go_simp⟩) hHeld ?_
      try simp only [Act.put, List.setIfInBounds_toArray, List.set_cons_zero, List.set_cons_succ]
      refine wpAnyH_take (i := 6) (oi := ⟨some 23, _, _, _, _, _⟩) (v := .pointer (some ⟨b2, x2 + k * 22, none⟩)) rfl (by kernel_rfl) (by kernel_rfl) (by kernel_rfl) (fun _ _ _ h => h) (Or.inl ⟨by kernel_rfl, fun u hSu => by clear hSu; go_simp⟩) hHeld ?_
      try simp only [Act.put, List.setIfInBounds_toArray, List.set_cons_zero, List.set_cons_succ]
      refine wpAnyH_take (i := 7) (oi := ⟨some 24, _, _, _, _, _⟩) (v := .agg #[.int .i64 y.id, .int .i64 y.si, .int .i64 y.sr, .int .i64 y.cl, .int .i64 y.pt.kd, .int .i64 y.pt.wh, .int .i64 y.pt.sr, .int .i64 y.pt.tr, .int .i64 y.pt.pi, .int .i64 y.pt.le, .int .i64 y.pt.zo, .int .i64 y.gd.kd, .int .i64 y.gd.nn, .int .i64 y.ac.kd, .int .i64 y.ac.nn, .int .i64 y.ac.pi, .int .i64 y.ac.si, .int .i64 y.ac.zo, .bool y.ac.be, .slice y.ac.la y.ac.ln y.ac.lcap, .int .i64 y.un, .int .i64 y.le]) rfl (by kernel_rfl) (by kernel_rfl) (by kernel_rfl) (fun _ _ _ h => h) (yieldsIf_load_mid (by kernel_rfl) 44 (.tmp 23) rfl (b2) (x2 + k * 22) (by rfl) [.int .i64 y.id, .int .i64 y.si, .int .i64 y.sr, .int .i64 y.cl, .int .i64 y.pt.kd, .int .i64 y.pt.wh, .int .i64 y.pt.sr, .int .i64 y.pt.tr, .int .i64 y.pt.pi, .int .i64 y.pt.le, .int .i64 y.pt.zo, .int .i64 y.gd.kd, .int .i64 y.gd.nn, .int .i64 y.ac.kd, .int .i64 y.ac.nn, .int .i64 y.ac.pi, .int .i64 y.ac.si, .int .i64 y.ac.zo, .bool y.ac.be, .slice y.ac.la y.ac.ln y.ac.lcap, .int .i64 y.un, .int .i64 y.le] _ (fun u hu => rangeAt_below rb hu) Tryz.underlying44 rfl (by kernel_rfl)) hHeld ?_
      try simp only [Act.put, List.setIfInBounds_toArray, List.set_cons_zero, List.set_cons_succ]
      refine wpAnyH_ready (rs := [8]) (by kernel_rfl) (by simp) ?_
      refine AllReadyH.cons rfl (fun K' hK => ?_) AllReadyH.nil
      go_simp
      go_at_call 11
      refine (eqEffect_alike x y z _ (oa.grew hq) (ob.grew hq) ka kb hlk).mono ?_
      rintro e v8 ⟨rfl, hb⟩
      have hq' := below_app hq hb hq.size
      clear hq hb
      have hq := hq'
      clear hq'
      refine hK.out _ _ hq (fun hHeld => ?_)
      clear hK
      try simp only [Act.put, List.setIfInBounds_toArray, List.set_cons_zero, List.set_cons_succ]
      refine wpAnyH_take (i := 9) (oi := ⟨some 26, _, _, _, _, _⟩) (v := .bool false) rfl (by kernel_rfl) (by kernel_rfl) (by kernel_rfl) (fun _ _ _ h => h) (Or.inl ⟨by kernel_rfl, fun u hSu => by clear hSu; go_simp⟩) hHeld ?_
      try simp only [Act.put, List.setIfInBounds_toArray, List.set_cons_zero, List.set_cons_succ]
      refine wpAnyH_done (by kernel_rfl) ?_ _
      clear hHeld
      have hB := below_app hb0 hq hb0.size
      clear hq hb0 ra rb oa ob ka kb hlk
      go_wp2
      go_roundw
      case rel => first | exact ⟨k + 1, by omega, by go_num, hB⟩ | ((repeat apply Exists.intro); exact ⟨⟨k + 1, by omega, by go_num, hB⟩, rfl⟩)
      case measure => simp [intOf]; omega
    · go_wp2
      go_ret
      exact ⟨rfl, hb0⟩
end Go.Proofs.YtodfdfncdoliiauGreat
