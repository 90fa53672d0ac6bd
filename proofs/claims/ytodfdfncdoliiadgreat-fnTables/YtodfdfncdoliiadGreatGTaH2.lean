/-
  Chapter 11: the specification's Expire (exL), Update (upF). Written by tools/tab.gen.py. Chapter 11: the specification's Drop (drN, drG). Written by tools/tab.gen.py. Own work.
-/
import Derived.Test.YtodfdfncdoliiadGreatTaG
import Derived.Deep.RegionHeld
import Derived.Deep.MidRow
namespace Go.Proofs.YtodfdfncdoliiadGreat
open Go.ChangeShapes Go.WideShapes Go.ChangeAt Go.RowKit
set_option maxRecDepth 100000
set_option linter.unusedVariables false
set_option linter.unusedSimpArgs false

/-- the places of those that live -/
def exL (f : Nat → Ef) (c : Int) : Nat → List Nat
  | 0 => []
  | k + 1 => if lvE (f k) c = true then exL f c k ++ [k] else exL f c k
theorem exL_lt (f : Nat → Ef) (c : Int) : ∀ n, ∀ i ∈ exL f c n, i < n
  | 0, i, h => by simp [exL] at h
  | n + 1, i, h => by
    simp only [exL] at h
    split at h
    · rcases List.mem_append.1 h with h | h
      · have := exL_lt f c n i h; omega
      · simp at h; omega
    · have := exL_lt f c n i h; omega
theorem exL_len (f : Nat → Ef) (c : Int) : ∀ n, (exL f c n).length ≤ n
  | 0 => Nat.le_refl _
  | n + 1 => by have := exL_len f c n; simp only [exL]; split <;> simp <;> omega
def exF (L : List Nat) (f : Nat → Ef) : Nat → Ef := fun i => f (L.getD i 0)
theorem exF_snoc (L : List Nat) (k : Nat) (f : Nat → Ef) : ∀ i, i < L.length + 1 → (if i < L.length then exF L f i else f k) = exF (L ++ [k]) f i := fun i hi => by
  unfold exF
  by_cases h : i < L.length
  · rw [if_pos h]; congr 1
    rw [List.getD_eq_getElem?_getD, List.getD_eq_getElem?_getD, List.getElem?_append_left h]
  · rw [if_neg h]; congr 1
    obtain rfl : i = L.length := by omega
    rw [List.getD_eq_getElem?_getD, List.getElem?_append_right (Nat.le_refl _)]
    simp
theorem eaN_cases (f : Nat → Ef) (id : Int) (n : Nat) : (eaN f id n = -1 ∧ ∀ j, j < n → (f j).id ≠ id) ∨ ∃ k, k < n ∧ eaN f id n = k ∧ (f k).id = id ∧ ∀ j, j < k → (f j).id ≠ id := by
  by_cases h : ∃ k, k < n ∧ (f k).id = id
  · have : ∃ k, (k < n ∧ (f k).id = id) ∧ ∀ j, j < k → ¬ (j < n ∧ (f j).id = id) := by
      obtain ⟨k, hk⟩ := h
      induction k using Nat.strongRecOn with
      | ind k ih =>
        by_cases h2 : ∃ j, j < k ∧ (j < n ∧ (f j).id = id)
        · obtain ⟨j, hj, hj2⟩ := h2; exact ih j hj hj2
        · exact ⟨k, hk, fun j hj hj2 => h2 ⟨j, hj, hj2⟩⟩
    obtain ⟨k, ⟨hk, he⟩, hm⟩ := this
    have hm2 : ∀ j, j < k → (f j).id ≠ id := fun j hj e => hm j hj ⟨by omega, e⟩
    exact .inr ⟨k, hk, eaN_hit hk hm2 he, he, hm2⟩
  · have hm : ∀ j, j < n → (f j).id ≠ id := fun j hj e => h ⟨j, hj, e⟩
    exact .inl ⟨eaN_miss hm, hm⟩
def upF (n : Nat) (f : Nat → Ef) (x : Ef) : Nat → Ef := fun i => if (i : Int) = eaN f x.id n then x else f i
theorem OwnTb.down {w : World} {B B' : Nat} {t : Tb} (h : OwnTb w B t) (hB : B' ≤ B) : OwnTb w B' t := ⟨h.1, h.2.1, ⟨Nat.le_trans hB h.2.2.1.1, h.2.2.1.2⟩, fun i hi => ⟨OwnF.down (h.2.2.2.1 i hi).1 hB, (h.2.2.2.1 i hi).2⟩, h.2.2.2.2⟩
theorem OwnTb.put {w w2 : World} {B b off n cap : Nat} {f : Nat → Ef} {y : Ef} (h : OwnTb w B ⟨some ⟨b, off, none⟩, n, cap, b, f⟩) (hb : Below w.heap.size w w2) (hB : B ≤ w.heap.size) (oy : OwnF w2 w.heap.size y) (k : Nat) (hk : k < n) :
    OwnTb (w2.setCells b (off + k * 22) (efC y)) B ⟨some ⟨b, off, none⟩, n, cap, b, fun i => if i = k then y else f i⟩ := by
  have hl := oy.lt
  obtain ⟨c1, c2, c3, c4, c5⟩ := h
  dsimp only at c1 c2 c3 c4 c5
  have hbl := c3.2.1
  refine ⟨c1, c2, (c3.grew hb).putE efC_len k hk y, fun i hi => ?_, fun i j hij hj => ?_⟩
  · dsimp only at hi ⊢
    by_cases hik : i = k
    · simp only [if_pos hik]
      exact ⟨OwnF.down (OwnA.setL oy (by omega) _ _) hB, by omega⟩
    · simp only [if_neg hik]
      exact ⟨OwnA.setL (OwnF.grew (c4 i hi).1 hb) (c4 i hi).2 _ _, (c4 i hi).2⟩
  · dsimp only at hj ⊢
    by_cases hik : i = k
    · have hjk : ¬ j = k := by omega
      simp only [if_pos hik, if_neg hjk]
      have := ((c4 j hj).1.lt).2
      omega
    · by_cases hjk : j = k
      · simp only [if_neg hik, if_pos hjk]
        have := ((c4 i (by omega)).1.lt).2
        omega
      · simp only [if_neg hik, if_neg hjk]
        exact c5 i j hij hj
set_option maxHeartbeats 4000000 in
theorem specExpire_any (t : Tb) (c : Int) (w : World) (hok : t.okW w) (hn : t.n ≤ 1048577) : Calls Tryz.prog 35 #[.slice t.p t.n t.cap, .int .i64 c] w fun e w' => ∃ q : Tb, e = .returned (.slice q.p q.n q.cap) ∧ Below w.heap.size w w' ∧ AnsT w' w.heap.size q (exL t.f c t.n).length (exF (exL t.f c t.n) t.f) := by
  have hnm := hok.le
  obtain ⟨i0, hi, hz0, hz1, hz2⟩ := info_parts Tryz.infoEf
  obtain ⟨p, n, cap, b, f⟩ := t
  obtain ⟨hc1, hc2, h, hf⟩ := hok
  dsimp only at hc1 hc2 h hf hn hnm ⊢
  have hown0 : (w.alloc (.cells #[] 32)).ownsRow w.heap.size 32 22 (.slice (some ⟨w.heap.size, 0, none⟩) 0 0) 0 [] := World.ownsRow_lit w #[] 0 (Nat.le_refl _) (by decide) rfl
  have hb1 := below_new2'' w (.cells #[] 32)
  have B0 : BuildT (w.alloc (.cells #[] 32)) w.heap.size (.slice (some ⟨w.heap.size, 0, none⟩) 0 0) (exL f c 0).length f (exF (exL f c 0) f) := ⟨hown0, by simp, fun i hi => absurd hi (Nat.not_lt_zero i), fun i j _ hj => absurd hj (Nat.not_lt_zero j)⟩
  clear hown0
  go_enter Tryz.func35, Tryz.ntmps35
  go_wp2
  generalize w.alloc (.cells #[] 32) = W0 at hb1 B0 ⊢
  go_loopw [5, 6] (fun v i wr => ∃ (k : Nat) (g : Nat → Ef), k ≤ n ∧ i = .int .i64 k ∧ Below w.heap.size w wr ∧ BuildT wr w.heap.size v (exL f c k).length g (exF (exL f c k) f)) (fun _ i _ => n - (intOf i).toNat)
  case atStart => exact ⟨0, f, Nat.zero_le _, rfl, hb1, B0⟩
  case round =>
    clear hb1 B0
    obtain ⟨k, g, hk, rfl, hb, hB⟩ := hrel
    by_cases hlt : k < n
    · rcases h.grew efC_ne hb with h3 | ⟨o1, rfl, h3⟩
      · omega
      have ra := RdE.rangeD h3 hlt
      have hx := efw_grew (hf k hlt).1 hb
      have hxl := (hf k hlt).2
      have y1 : (0 : Int) ≤ (k : Int) := by omega
      have y2 : (k : Int) < (n : Int) := by omega
      have HL0 : Hid (exL f c (k + 1) = if lvE (f k) c = true then exL f c k ++ [k] else exL f c k) := (rfl : exL f c (k + 1) = _)
      have hln := exL_len f c k
      have HX := exF_snoc (exL f c k) k f
      obtain ⟨x, hxe⟩ : ∃ x, Hid (f k = x) := ⟨f k, (rfl : f k = f k)⟩
      rw [hxe.out] at ra hx hxl HX
      have HL1 : Hid (lvE x c = true → exL f c (k + 1) = exL f c k ++ [k]) := fun e => by rw [HL0.out, hxe.out, if_pos e]
      have HL2 : Hid (lvE x c = false → exL f c (k + 1) = exL f c k) := fun e => by rw [HL0.out, hxe.out, e]; rfl
      clear h3 h HL0
      have LD := ra
      go_wp2_with (refine wpList_load_mid rfl 32 _ rfl b (o1 + k * 22) (by rfl) [.int .i64 x.id, .int .i64 x.si, .int .i64 x.sr, .int .i64 x.cl, .int .i64 x.pt.kd, .int .i64 x.pt.wh, .int .i64 x.pt.sr, .int .i64 x.pt.tr, .int .i64 x.pt.pi, .int .i64 x.pt.le, .int .i64 x.pt.zo, .int .i64 x.gd.kd, .int .i64 x.gd.nn, .int .i64 x.ac.kd, .int .i64 x.ac.nn, .int .i64 x.ac.pi, .int .i64 x.ac.si, .int .i64 x.ac.zo, .bool x.ac.be, .slice x.ac.la x.ac.ln x.ac.lcap, .int .i64 x.un, .int .i64 x.le] _ ra Tryz.underlying32 rfl (by kernel_rfl) ?_)
      refine (specLives_any x c _).mono ?_
      rintro e w2 ⟨rfl, hb2⟩
      replace ra := rangeAt_below ra hb2
      replace hx := efw_grew hx hb2
      replace hB := hB.grew hb2
      replace hb := below_app hb hb2 hb.size
      clear hb2 LD
      cases hv : lvE x c
      case false =>
        have HE := HL2.out hv
        rw [← HE] at hB
        clear ra hx HL1 HL2
        go_wp2
        go_roundw
        case rel => first | exact ⟨k + 1, g, by omega, by go_num, hb, hB⟩ | ((repeat apply Exists.intro); exact ⟨⟨k + 1, g, by omega, by go_num, hb, hB⟩, rfl⟩)
        case measure => simp [intOf]; omega
      case true =>
        have HE := HL1.out hv
        generalize exL f c k = L at hB HX HE hln
        generalize hm : L.length = m at hB hln HX
        go_wp2_with (refine wpList_load_mid rfl 32 _ rfl b (o1 + k * 22) (by rfl) [.int .i64 x.id, .int .i64 x.si, .int .i64 x.sr, .int .i64 x.cl, .int .i64 x.pt.kd, .int .i64 x.pt.wh, .int .i64 x.pt.sr, .int .i64 x.pt.tr, .int .i64 x.pt.pi, .int .i64 x.pt.le, .int .i64 x.pt.zo, .int .i64 x.gd.kd, .int .i64 x.gd.nn, .int .i64 x.ac.kd, .int .i64 x.ac.nn, .int .i64 x.ac.pi, .int .i64 x.ac.si, .int .i64 x.ac.zo, .bool x.ac.be, .slice x.ac.la x.ac.ln x.ac.lcap, .int .i64 x.un, .int .i64 x.le] _ ra Tryz.underlying32 rfl (by kernel_rfl) ?_)
        refine (l10Copy_any x _ hx hxl).mono ?_
        rintro e w3 ⟨y, rfl, hb2, oy, ky⟩
        have hown2 := owns_kept9 hB.1 hb2
        have hb3 := below_app hb hb2 hb.size
        have hvl := hown2.lt
        go_wp2_with (at_builtin; refine wpList_append_own_at _ rfl (.tmp 20) (.tmp 26) 56 rfl w.heap.size 32 i0 (.agg #[.int .i64 0, .int .i64 0, .int .i64 0, .int .i64 0, .int .i64 0, .int .i64 0, .int .i64 0, .int .i64 0, .int .i64 0, .int .i64 0, .int .i64 0, .int .i64 0, .int .i64 0, .int .i64 0, .int .i64 0, .int .i64 0, .int .i64 0, .int .i64 0, .bool false, .slice none 0 0, .int .i64 0, .int .i64 0]) 22 192 Tryz.underlying56 hi hz0 hz1 hz2 rfl (by decide) _ _ _ rfl (hown2.alloc _) ⟨w3.heap.size, 0, none⟩ 1 1 (efC y) rfl rfl (cells_new _ _ _) (fun u hu => efC_one 1 (fun _ => y) u (by simpa [valsE] using hu)) (by unfold maxLen; omega) (by omega) (by have := hb3.size; simp; omega) ?_)
        intro v4 w4 hown4 hgr4 hnil4 hat4
        have HB := hB.snoc (hb2.alloc (by have := hb2.size; omega) (.cells #[.int .i64 y.id, .int .i64 y.si, .int .i64 y.sr, .int .i64 y.cl, .int .i64 y.pt.kd, .int .i64 y.pt.wh, .int .i64 y.pt.sr, .int .i64 y.pt.tr, .int .i64 y.pt.pi, .int .i64 y.pt.le, .int .i64 y.pt.zo, .int .i64 y.gd.kd, .int .i64 y.gd.nn, .int .i64 y.ac.kd, .int .i64 y.ac.nn, .int .i64 y.ac.pi, .int .i64 y.ac.si, .int .i64 y.ac.zo, .bool y.ac.be, .slice y.ac.la y.ac.ln y.ac.lcap, .int .i64 y.un, .int .i64 y.le] 32)) hb.size (OwnF.grew oy (below_new2'' w3 _)) ky hown4 hgr4 (fun e => by first | exact hnil4 e | exact hB.2.1 (hnil4.1 e).1) (by rw [World.size_alloc]; exact hat4)
        have hb4 : Below w.heap.size w w4 := (hb3.alloc hb3.size _).grown hgr4 (by have := hb3.size; simp; omega) (fun q hq => (hvl q hq).1)
        have hlen : (exL f c (k + 1)).length = m + 1 := by rw [HE]; simp [hm]
        replace HB := HB.congr (g' := _) (f' := exF (exL f c (k + 1)) f) (fun i hi => rfl) (fun i hi => by rw [HE]; exact HX i hi)
        rw [← hlen] at HB
        clear hown4 hgr4 hnil4 hat4 hown2 hvl hb3 hb2 oy ky hB hb ra hx HX HE HL1 HL2 hlen hm
        go_wp2
        go_roundw
        case rel => first | exact ⟨k + 1, _, by omega, by go_num, hb4, HB⟩ | ((repeat apply Exists.intro); exact ⟨⟨k + 1, _, by omega, by go_num, hb4, HB⟩, rfl⟩)
        case measure => simp [intOf]; omega
    · obtain rfl : k = n := by omega
      obtain ⟨q, rfl, aq⟩ := hB.ans
      go_wp2
      go_ret
      first | exact ⟨q, rfl, hb, aq⟩ | exact ⟨q, hb, aq⟩
set_option maxHeartbeats 4000000 in
theorem specUpdate_any (t : Tb) (x : Ef) (w : World) (hok : t.okW w) (hn : t.n ≤ 1048577) (hx : x.okW w) (hxl : x.ac.ln ≤ 1048577) :
    Calls Tryz.prog 36 #[.slice t.p t.n t.cap, (.agg #[.int .i64 x.id, .int .i64 x.si, .int .i64 x.sr, .int .i64 x.cl, .int .i64 x.pt.kd, .int .i64 x.pt.wh, .int .i64 x.pt.sr, .int .i64 x.pt.tr, .int .i64 x.pt.pi, .int .i64 x.pt.le, .int .i64 x.pt.zo, .int .i64 x.gd.kd, .int .i64 x.gd.nn, .int .i64 x.ac.kd, .int .i64 x.ac.nn, .int .i64 x.ac.pi, .int .i64 x.ac.si, .int .i64 x.ac.zo, .bool x.ac.be, .slice x.ac.la x.ac.ln x.ac.lcap, .int .i64 x.un, .int .i64 x.le])] w fun e w' => ∃ q : Tb, e = .returned (.slice q.p q.n q.cap) ∧ Below w.heap.size w w' ∧ AnsT w' w.heap.size q t.n (upF t.n t.f x) := by
  have hnm := hok.le
  have bx := boxR_new w 32 #[.int .i64 x.id, .int .i64 x.si, .int .i64 x.sr, .int .i64 x.cl, .int .i64 x.pt.kd, .int .i64 x.pt.wh, .int .i64 x.pt.sr, .int .i64 x.pt.tr, .int .i64 x.pt.pi, .int .i64 x.pt.le, .int .i64 x.pt.zo, .int .i64 x.gd.kd, .int .i64 x.gd.nn, .int .i64 x.ac.kd, .int .i64 x.ac.nn, .int .i64 x.ac.pi, .int .i64 x.ac.si, .int .i64 x.ac.zo, .bool x.ac.be, .slice x.ac.la x.ac.ln x.ac.lcap, .int .i64 x.un, .int .i64 x.le]
  have hb1 := below_new2'' w (.cells #[.int .i64 x.id, .int .i64 x.si, .int .i64 x.sr, .int .i64 x.cl, .int .i64 x.pt.kd, .int .i64 x.pt.wh, .int .i64 x.pt.sr, .int .i64 x.pt.tr, .int .i64 x.pt.pi, .int .i64 x.pt.le, .int .i64 x.pt.zo, .int .i64 x.gd.kd, .int .i64 x.gd.nn, .int .i64 x.ac.kd, .int .i64 x.ac.nn, .int .i64 x.ac.pi, .int .i64 x.ac.si, .int .i64 x.ac.zo, .bool x.ac.be, .slice x.ac.la x.ac.ln x.ac.lcap, .int .i64 x.un, .int .i64 x.le] 32)
  go_enter Tryz.func36, Tryz.ntmps36
  go_wp2_with fail
  generalize w.alloc (.cells #[.int .i64 x.id, .int .i64 x.si, .int .i64 x.sr, .int .i64 x.cl, .int .i64 x.pt.kd, .int .i64 x.pt.wh, .int .i64 x.pt.sr, .int .i64 x.pt.tr, .int .i64 x.pt.pi, .int .i64 x.pt.le, .int .i64 x.pt.zo, .int .i64 x.gd.kd, .int .i64 x.gd.nn, .int .i64 x.ac.kd, .int .i64 x.ac.nn, .int .i64 x.ac.pi, .int .i64 x.ac.si, .int .i64 x.ac.zo, .bool x.ac.be, .slice x.ac.la x.ac.ln x.ac.lcap, .int .i64 x.un, .int .i64 x.le] 32) = W0 at hb1 bx ⊢
  refine (l11Copy_build t _ (hok.grew hb1) hn).mono ?_
  rintro e u1 ⟨v1, g1, rfl, hb2, B1⟩
  obtain ⟨b1, cap1, rfl, ho1⟩ := B1.tb
  have hwl := bx.lt
  replace bx := bx.grew hb2
  have hbl : b1 ≠ w.heap.size := by have := ho1.2.2.1.1; dsimp only at this; omega
  have hB := below_app hb1 hb2 hb1.size
  have hAl := fun i hi => (B1.2.2.1 i hi).2.2
  clear hb1 hb2 B1
  have cx : u1.cell? ⟨w.heap.size, 0, none⟩ = some (.int .i64 x.id) := by have := bx.cell 0; simpa using this
  go_wp2_with fail
  refine (specEffectAt_any t x.id _ (hok.grew hB)).mono ?_
  rintro e u2 ⟨rfl, hb2⟩
  replace bx := bx.grew hb2
  replace ho1 := ho1.grew hb2
  replace hB := below_app hB hb2 hB.size
  clear hb2 cx
  rcases eaN_cases t.f x.id t.n with ⟨he, hm⟩ | ⟨k, hk, he, _, _⟩
  · have HF : ∀ i, i < t.n → upF t.n t.f x i = t.f i := fun i hi => by unfold upF; rw [he, if_neg (by omega)]
    rw [he]
    go_wp2
    go_ret
    exact ⟨⟨some ⟨b1, 0, none⟩, t.n, cap1, b1, g1⟩, rfl, hB, ho1.down (by omega), rfl, fun i hi => by rw [HF i hi]; exact hAl i hi⟩
  · have HF : ∀ i, i < t.n → upF t.n t.f x i = if i = k then x else t.f i := fun i hi => by
      unfold upF; rw [he]
      by_cases h : i = k
      · rw [if_pos h, if_pos (by omega)]
      · rw [if_neg h, if_neg (by omega)]
    rw [he]
    have hx2 := efw_grew hx hB
    have y1 : (0 : Int) ≤ (k : Int) := by omega
    have y2 : (k : Int) < (t.n : Int) := by omega
    go_wp2_with (refine wpList_load_row rfl 32 _ rfl (w.heap.size) (by rfl) _ _ _ _ bx Tryz.underlying32 rfl (by kernel_rfl) ?_)
    refine (l10Copy_any x _ hx2 hxl).mono ?_
    rintro e u3 ⟨y, rfl, hb2, oy, ky⟩
    have HO := (ho1.down (show w.heap.size ≤ _ by omega)).put hb2 hB.size oy k hk
    have hB3 := below_setCells' (show w.heap.size ≤ b1 by have := ho1.2.2.1.1; dsimp only at this; omega) (efC y) (0 + k * 22) u3 (below_app hB hb2 hB.size)
    have ht : u3.there b1 (0 + k * 22) 22 := fun j hj => by
      have q := (ho1.grew hb2).2.2.1
      rcases q.2.2.1 with q0 | ⟨o2, e2, q2⟩
      · dsimp only at q0; omega
      · simp only [Option.some.injEq, Addr.mk.injEq, and_true, true_and] at e2
        subst e2
        have hj' : j < (efC (g1 k)).length := by rw [efC_len]; exact hj
        refine ⟨?_, q.2.2.2 _⟩
        have := q2 k hk j _ (List.getElem?_eq_getElem hj')
        dsimp only at this ⊢
        rw [this]; rfl
    simp only [Nat.zero_add] at HO hB3 ht
    clear bx oy hb2
    go_wp2_with (refine wpList_store_mid rfl 32 _ _ rfl b1 (k * 22) #[.int .i64 y.id, .int .i64 y.si, .int .i64 y.sr, .int .i64 y.cl, .int .i64 y.pt.kd, .int .i64 y.pt.wh, .int .i64 y.pt.sr, .int .i64 y.pt.tr, .int .i64 y.pt.pi, .int .i64 y.pt.le, .int .i64 y.pt.zo, .int .i64 y.gd.kd, .int .i64 y.gd.nn, .int .i64 y.ac.kd, .int .i64 y.ac.nn, .int .i64 y.ac.pi, .int .i64 y.ac.si, .int .i64 y.ac.zo, .bool y.ac.be, .slice y.ac.la y.ac.ln y.ac.lcap, .int .i64 y.un, .int .i64 y.le] (by first | rfl | simp [Act.eval]) rfl ht (by kernel_rfl) (by simp [Value.oneCell']) ?_; generalize hV : u3.setCells b1 (k * 22) _ = V; rw [show u3.setCells b1 (k * 22) (efC y) = V from hV] at HO hB3; clear hV ht)
    go_ret
    exact ⟨⟨some ⟨b1, 0, none⟩, t.n, cap1, b1, fun i => if i = k then y else g1 i⟩, rfl, hB3, HO, rfl, fun i hi => by
      rw [HF i hi]
      dsimp only
      by_cases h : i = k
      · rw [if_pos h, if_pos h]; exact ky
      · rw [if_neg h, if_neg h]; exact hAl i hi⟩
end Go.Proofs.YtodfdfncdoliiadGreat
namespace Go.Proofs.YtodfdfncdoliiadGreat
open Go.ChangeShapes Go.WideShapes Go.ChangeAt Go.RowKit
set_option maxRecDepth 100000
set_option linter.unusedVariables false
set_option linter.unusedSimpArgs false

theorem wp_append_own_at {P : Program} {w : World} {o : Oper} {a : Act} {K : Act → World → Prop} {Q : Exit → Act → World → Prop} (s x : Operand) (t : TypeId)
    (ho : o.op = .call { callee := .builtin .append, args := #[s, x], argTypes := #[t, t] })
    (base : Nat) (e : TypeId) (i : TypeInfo) (z : Value) (size bytes : Nat) (ht : P.underlying t = some (.slice e)) (hi : P.info? e = some i) (hz : i.zero = some z)
    (hsize : i.size = size) (hby : i.bytes = bytes) (hzs : z.cells.size = size) (hsz : 0 < size)
    (v : Value) (n : Nat) (xs : List Value) (hs : a.eval s = v) (hown : w.ownsRow base e size v n xs)
    (ad : Addr) (m c : Nat) (news : List Value) (hx : a.eval x = .slice (some ad) m c) (hl : news.length = m * size) (hnews : ∀ j u, news[j]? = some u → w.cell? (ad.add j) = some u) (h1 : ∀ u ∈ news, u.oneCell' = true)
    (h63 : n + m ≤ maxLen) (hbytes : (n + m) * bytes ≤ 140737488355328) (hbase : base ≤ w.heap.size)
    (h : ∀ v' w', w'.ownsRow base e size v' (n + m) (xs ++ news) → w.grownBy w' v.ownBlock → (v' = .slice none 0 0 ↔ v = .slice none 0 0 ∧ m = 0) → (v'.ownBlock = v.ownBlock ∨ v'.ownBlock = some w.heap.size) → K (a.put o.dst v') w') :
    o.wp P a w K Q := by
  obtain ⟨v', w', hr, h2, h3, h4, h5⟩ := run_append_own_at (P := P) w base t o.type e i z size bytes ht hi hz hsize hby hzs hsz v n xs hown ad m c news hl hnews h1 h63 hbytes hbase
  unfold Oper.wp execOp
  simp only [ho, resolve, invoke, builtin, Sem.run_bind, Sem.run_pure, Result.andThen_ok, List.map_toArray, List.map_cons, List.map_nil, hs, hx, hr]
  exact h v' w' h2 h3 h4 h5
def drN (f : Nat → Ef) (id : Int) (n : Nat) : Nat := if 0 ≤ eaN f id n then n - 1 else n
def drG (f : Nat → Ef) (id : Int) (n : Nat) : Nat → Ef := if 0 ≤ eaN f id n then dpF (eaN f id n).toNat f else f
set_option maxHeartbeats 8000000 in
theorem specDrop_any (t : Tb) (id : Int) (w : World) (hok : t.okW w) (hn : t.n ≤ 1048577) :
    Calls Tryz.prog 43 #[.slice t.p t.n t.cap, .int .i64 id] w fun e w' => ∃ q : Tb, e = .returned (.tuple #[.slice q.p q.n q.cap, .bool (decide (0 ≤ eaN t.f id t.n))]) ∧ Below w.heap.size w w' ∧ AnsT w' w.heap.size q (drN t.f id t.n) (drG t.f id t.n) := by
  have m_ : Tryz.prog.follows Departure.mixedOrders = true := by kernel_rfl
  have hnm := hok.le
  obtain ⟨i0, hi, hz0, hz1, hz2⟩ := info_parts Tryz.infoEf
  obtain ⟨p, n, cap, b, f⟩ := t
  dsimp only at hn hnm ⊢
  go_enter Tryz.func43, Tryz.ntmps43
  go_wp2_with fail
  refine (specEffectAt_any ⟨p, n, cap, b, f⟩ id _ hok).mono ?_
  rintro e u1 ⟨rfl, hb1⟩
  dsimp only
  have hok1 := hok.grew hb1
  rcases eaN_cases f id n with ⟨he, hm⟩ | ⟨k, hk, he, _, _⟩
  · have HN : Hid (drN f id n = n) := by show _ = _; unfold drN; rw [he]; rfl
    have HF : Hid (drG f id n = f) := by show _ = _; unfold drG; rw [he]; rfl
    have HD : Hid (decide (0 ≤ eaN f id n) = false) := by show _ = _; rw [he]; rfl
    rw [he]
    go_wp2_with fail
    refine (l11Copy_build ⟨p, n, cap, b, f⟩ _ hok1 hn).mono ?_
    rintro e u2 ⟨v2, g2, rfl, hb2, B2⟩
    dsimp only at B2
    replace B2 := B2.down hb1.size
    obtain ⟨q, rfl, aq⟩ := B2.ans
    go_wp2
    go_ret2
    rw [HN.out, HF.out, HD.out]
    exact ⟨q, rfl, below_app hb1 hb2 hb1.size, aq⟩
  · have HN : Hid (drN f id n = n - 1) := by show _ = _; unfold drN; rw [he, if_pos (by omega)]
    have HF : Hid (drG f id n = dpF k f) := by show _ = _; unfold drG; rw [he, if_pos (by omega)]; rfl
    have HD : Hid (decide (0 ≤ eaN f id n) = true) := by show _ = _; rw [he]; simp
    rw [he]
    rcases hok1.2.2.1 with h3 | ⟨o1, hp, _⟩
    · dsimp only at h3; omega
    dsimp only at hp
    subst hp
    have y1 : (0 : Int) ≤ (k : Int) := by omega
    have y2 : (k : Int) < (n : Int) := by omega
    have y5 : (k : Int) ≤ (cap : Int) := by have := hok1.1; dsimp only at this; omega
    have y6 : (k : Int) + 1 ≤ (n : Int) := by omega
    clear he hok
    go_upto_region 4 with fail
    by_cases hc : cap = k + 1
    · skip
      obtain rfl : n = k + 1 := by have := hok1.1; dsimp only at this; omega
      subst hc
      have hokR : Tb.okW (⟨some ⟨b, o1, none⟩, 0, 0, b, fun i => f (k + 1 + i)⟩ : Tb) u1 := ⟨Nat.le_refl _, Nat.zero_le _, .inl rfl, fun i hi => absurd hi (Nat.not_lt_zero i)⟩
      have y7 : (k : Int) ≤ (k : Int) + 1 := by omega
      have y8 : ¬ ((k : Int) + 1 < (k : Int)) := by omega
      have y9 : (0 : Int) ≤ (k : Int) + 1 := by omega
      have y10 : (k : Int) + 1 ≤ 9223372036854775807 := by omega
      have hok2 : Tb.okW (⟨some ⟨b, o1, none⟩, k, (k + 1), b, f⟩ : Tb) u1 := hok1.upto (by omega)
      clear hok1
      have hq : Below u1.heap.size u1 u1.drew := (Below.refl _ u1).drew
      refine wp_region_held_drew (S := fun u : World => Below u1.heap.size u1 u) (by kernel_rfl) hq (fun hHeld => ?_)
      refine wpAnyH_take (i := 0) (oi := ⟨some 14, _, _, _, _, _⟩) (v := .slice (some ⟨b, o1, none⟩) (k + 1) (k + 1)) rfl (by kernel_rfl) (by kernel_rfl) (by kernel_rfl) (fun _ _ _ h => h) (Or.inl ⟨by kernel_rfl, fun u hSu => by clear hSu; go_simp⟩) hHeld ?_
      try simp only [Act.put, List.setIfInBounds_toArray, List.set_cons_zero, List.set_cons_succ]
      refine wpAnyH_take (i := 1) (oi := ⟨some 15, _, _, _, _, _⟩) (v := .int .i64 k) rfl (by kernel_rfl) (by kernel_rfl) (by kernel_rfl) (fun _ _ _ h => h) (Or.inl ⟨by kernel_rfl, fun u hSu => by clear hSu; go_simp⟩) hHeld ?_
      try simp only [Act.put, List.setIfInBounds_toArray, List.set_cons_zero, List.set_cons_succ]
      refine wpAnyH_take (i := 2) (oi := ⟨some 16, _, _, _, _, _⟩) (v := .slice (some ⟨b, o1, none⟩) k (k + 1)) rfl (by kernel_rfl) (by kernel_rfl) (by kernel_rfl) (fun _ _ _ h => h) (Or.inl ⟨by kernel_rfl, fun u hSu => by clear hSu; go_simp⟩) hHeld ?_
      try simp only [Act.put, List.setIfInBounds_toArray, List.set_cons_zero, List.set_cons_succ]
      refine wpAnyH_take (i := 4) (oi := ⟨some 18, _, _, _, _, _⟩) (v := .slice (some ⟨b, o1, none⟩) (k + 1) (k + 1)) rfl (by kernel_rfl) (by kernel_rfl) (by kernel_rfl) (fun _ _ _ h => h) (Or.inl ⟨by kernel_rfl, fun u hSu => by clear hSu; go_simp⟩) hHeld ?_
      try simp only [Act.put, List.setIfInBounds_toArray, List.set_cons_zero, List.set_cons_succ]
      refine wpAnyH_take (i := 5) (oi := ⟨some 19, _, _, _, _, _⟩) (v := .int .i64 k) rfl (by kernel_rfl) (by kernel_rfl) (by kernel_rfl) (fun _ _ _ h => h) (Or.inl ⟨by kernel_rfl, fun u hSu => by clear hSu; go_simp⟩) hHeld ?_
      try simp only [Act.put, List.setIfInBounds_toArray, List.set_cons_zero, List.set_cons_succ]
      refine wpAnyH_take (i := 6) (oi := ⟨some 20, _, _, _, _, _⟩) (v := .int .i64 ((k : Int) + 1)) rfl (by kernel_rfl) (by kernel_rfl) (by kernel_rfl) (fun _ _ _ h => h) (Or.inl ⟨by kernel_rfl, fun u hSu => by clear hSu; go_simp; first | done | go_num | (rw [IntKind.wrap_i64]; omega) | (congr 1; rw [IntKind.wrap_i64]; omega)⟩) hHeld ?_
      try simp only [Act.put, List.setIfInBounds_toArray, List.set_cons_zero, List.set_cons_succ]
      refine wpAnyH_take (i := 7) (oi := ⟨some 21, _, _, _, _, _⟩) (v := .slice (some ⟨b, o1, none⟩) 0 0) rfl (by kernel_rfl) (by kernel_rfl) (by kernel_rfl) (fun _ _ _ h => h) (Or.inl ⟨by kernel_rfl, fun u hSu => by clear hSu; go_simp; first | done | (simp [hc]; done) | (simp; omega) | trace_state⟩) hHeld ?_
      try simp only [Act.put, List.setIfInBounds_toArray, List.set_cons_zero, List.set_cons_succ]
      refine wpAnyH_ready (rs := [3]) (by kernel_rfl) (by simp) ?_
      refine AllReadyH.cons rfl (fun K' hK => ?_) AllReadyH.nil
      go_simp
      go_at_call 79
      refine (l11Copy_build ⟨some ⟨b, o1, none⟩, k, (k + 1), b, f⟩ _ (hok2.grew hq) (by dsimp only; omega)).mono ?_
      rintro e v3 ⟨v1, g1, rfl, hb, B1⟩
      have hq' := below_app hq hb hq.size
      dsimp only at B1
      replace B1 := B1.down hq.size
      clear hq hb
      have hq := hq'
      clear hq'
      refine hK.out _ _ hq (fun hHeld => ?_)
      clear hK
      try simp only [Act.put, List.setIfInBounds_toArray, List.set_cons_zero, List.set_cons_succ]
      refine wpAnyH_ready (rs := [8]) (by kernel_rfl) (by simp) ?_
      refine AllReadyH.cons rfl (fun K' hK => ?_) AllReadyH.nil
      go_simp
      go_at_call 79
      refine (l11Copy_build (⟨some ⟨b, o1, none⟩, 0, 0, b, fun i => f (k + 1 + i)⟩ : Tb) _ (hokR.grew hq) (by dsimp only; omega)).mono ?_
      rintro e v8 ⟨v2, g2, rfl, hb, B2⟩
      have hq' := below_app hq hb hq.size
      dsimp only at B2
      have hs_ := hq.size
      have hbk := hb
      clear hq hb
      have hq := hq'
      clear hq'
      refine hK.out _ _ hq (fun hHeld => ?_)
      clear hK
      try simp only [Act.put, List.setIfInBounds_toArray, List.set_cons_zero, List.set_cons_succ]
      obtain ⟨b5, cap5, rfl, ho5⟩ := B2.tb
      have ok_ := owns_kept9 B1.1 hbk
      have kl_ := ok_.lt
      refine wpAnyH_ready (rs := [9]) (by kernel_rfl) (by simp) ?_
      refine AllReadyH.cons rfl (fun K' hK => ?_) AllReadyH.nil
      rw [if_pos (by kernel_rfl)]
      refine wp_append_own_at (.tmp 17) (.tmp 22) 56 rfl u1.heap.size 32 i0 (.agg #[.int .i64 0, .int .i64 0, .int .i64 0, .int .i64 0, .int .i64 0, .int .i64 0, .int .i64 0, .int .i64 0, .int .i64 0, .int .i64 0, .int .i64 0, .int .i64 0, .int .i64 0, .int .i64 0, .int .i64 0, .int .i64 0, .int .i64 0, .int .i64 0, .bool false, .slice none 0 0, .int .i64 0, .int .i64 0]) 22 192 Tryz.underlying56 hi hz0 hz1 hz2 rfl (by decide) _ _ _ rfl ok_ ⟨b5, 0, none⟩ 0 cap5 (valsE efC 0 g2) rfl (valsE_len efC_len _ _) (RdE.newsE efC_len ho5.2.2.1.rd) (efC_one _ _) (by unfold maxLen; omega) (by omega) hq.size ?_
      intro v6 w6 hown4 hgr4 hnil4 hat4
      have B6 := BuildT.cat (m := 0) B1 hbk hs_ (fun i hi => ⟨(B2.2.2.1 i hi).1, (B2.2.2.1 i hi).2.2⟩) B2.2.2.2 hown4 hgr4 (fun e => by first | exact hnil4 e | exact B1.2.1 (hnil4.1 e).1 | exact B1.2.1 (hnil4.1 e)) hat4
      have hq' : Below u1.heap.size u1 w6 := hq.grown hgr4 hq.size (fun q h => (kl_ q h).1)
      refine hK.out _ _ hq' (fun hHeld => ?_)
      clear hK hown4 hgr4 hnil4 hat4 ok_ kl_ ho5 B2 B1 hbk
      try simp only [Act.put, List.setIfInBounds_toArray, List.set_cons_zero, List.set_cons_succ]
      refine wpAnyH_take (i := 10) (oi := ⟨some 4, _, _, _, _, _⟩) (v := v6) rfl (by kernel_rfl) (by kernel_rfl) (by kernel_rfl) (fun _ _ _ h => h) (Or.inl ⟨by kernel_rfl, fun u hSu => by clear hSu; go_simp⟩) hHeld ?_
      try simp only [Act.put, List.setIfInBounds_toArray, List.set_cons_zero, List.set_cons_succ]
      refine wpAnyH_take (i := 11) (oi := ⟨some 5, _, _, _, _, _⟩) (v := .bool true) rfl (by kernel_rfl) (by kernel_rfl) (by kernel_rfl) (fun _ _ _ h => h) (Or.inl ⟨by kernel_rfl, fun u hSu => by clear hSu; go_simp⟩) hHeld ?_
      try simp only [Act.put, List.setIfInBounds_toArray, List.set_cons_zero, List.set_cons_succ]
      refine wpAnyH_done (by kernel_rfl) ?_ _
      clear hHeld
      have hNN : k + 0 = (k + 1) - 1 := by omega
      rw [hNN] at B6
      replace B6 := B6.congr (g' := _) (f' := dpF k f) (fun i hi => rfl) (fun i hi => by
        unfold dpF
        by_cases h1 : i < k
        · rw [if_pos h1, if_pos h1]
        · rw [if_neg h1, if_neg h1]; congr 1; omega)
      replace B6 := B6.down hb1.size
      obtain ⟨q, hqv, aq⟩ := B6.ans
      subst hqv
      go_wp2
      go_ret2
      rw [HN.out, HF.out, HD.out]
      exact ⟨q, rfl, below_app hb1 hq' hb1.size, aq⟩
    · skip
      have hokR : Tb.okW (⟨some ⟨b, o1 + (k + 1) * 22, none⟩, (n - (k + 1)), (cap - (k + 1)), b, fun i => f (k + 1 + i)⟩ : Tb) u1 := hok1.from (k := k + 1) (by omega) (fun h => rfl)
      have y9 : (0 : Int) ≤ (k : Int) + 1 := by omega
      have hok2 : Tb.okW (⟨some ⟨b, o1, none⟩, k, cap, b, f⟩ : Tb) u1 := hok1.upto (by omega)
      clear hok1
      have hq : Below u1.heap.size u1 u1.drew := (Below.refl _ u1).drew
      refine wp_region_held_drew (S := fun u : World => Below u1.heap.size u1 u) (by kernel_rfl) hq (fun hHeld => ?_)
      refine wpAnyH_take (i := 0) (oi := ⟨some 14, _, _, _, _, _⟩) (v := .slice (some ⟨b, o1, none⟩) n cap) rfl (by kernel_rfl) (by kernel_rfl) (by kernel_rfl) (fun _ _ _ h => h) (Or.inl ⟨by kernel_rfl, fun u hSu => by clear hSu; go_simp⟩) hHeld ?_
      try simp only [Act.put, List.setIfInBounds_toArray, List.set_cons_zero, List.set_cons_succ]
      refine wpAnyH_take (i := 1) (oi := ⟨some 15, _, _, _, _, _⟩) (v := .int .i64 k) rfl (by kernel_rfl) (by kernel_rfl) (by kernel_rfl) (fun _ _ _ h => h) (Or.inl ⟨by kernel_rfl, fun u hSu => by clear hSu; go_simp⟩) hHeld ?_
      try simp only [Act.put, List.setIfInBounds_toArray, List.set_cons_zero, List.set_cons_succ]
      refine wpAnyH_take (i := 2) (oi := ⟨some 16, _, _, _, _, _⟩) (v := .slice (some ⟨b, o1, none⟩) k cap) rfl (by kernel_rfl) (by kernel_rfl) (by kernel_rfl) (fun _ _ _ h => h) (Or.inl ⟨by kernel_rfl, fun u hSu => by clear hSu; go_simp⟩) hHeld ?_
      try simp only [Act.put, List.setIfInBounds_toArray, List.set_cons_zero, List.set_cons_succ]
      refine wpAnyH_take (i := 4) (oi := ⟨some 18, _, _, _, _, _⟩) (v := .slice (some ⟨b, o1, none⟩) n cap) rfl (by kernel_rfl) (by kernel_rfl) (by kernel_rfl) (fun _ _ _ h => h) (Or.inl ⟨by kernel_rfl, fun u hSu => by clear hSu; go_simp⟩) hHeld ?_
      try simp only [Act.put, List.setIfInBounds_toArray, List.set_cons_zero, List.set_cons_succ]
      refine wpAnyH_take (i := 5) (oi := ⟨some 19, _, _, _, _, _⟩) (v := .int .i64 k) rfl (by kernel_rfl) (by kernel_rfl) (by kernel_rfl) (fun _ _ _ h => h) (Or.inl ⟨by kernel_rfl, fun u hSu => by clear hSu; go_simp⟩) hHeld ?_
      try simp only [Act.put, List.setIfInBounds_toArray, List.set_cons_zero, List.set_cons_succ]
      refine wpAnyH_take (i := 6) (oi := ⟨some 20, _, _, _, _, _⟩) (v := .int .i64 ((k : Int) + 1)) rfl (by kernel_rfl) (by kernel_rfl) (by kernel_rfl) (fun _ _ _ h => h) (Or.inl ⟨by kernel_rfl, fun u hSu => by clear hSu; go_simp; first | done | go_num | (rw [IntKind.wrap_i64]; omega) | (congr 1; rw [IntKind.wrap_i64]; omega)⟩) hHeld ?_
      try simp only [Act.put, List.setIfInBounds_toArray, List.set_cons_zero, List.set_cons_succ]
      refine wpAnyH_take (i := 7) (oi := ⟨some 21, _, _, _, _, _⟩) (v := .slice (some ⟨b, o1 + (k + 1) * 22, none⟩) (n - (k + 1)) (cap - (k + 1))) rfl (by kernel_rfl) (by kernel_rfl) (by kernel_rfl) (fun _ _ _ h => h) (Or.inl ⟨by kernel_rfl, fun u hSu => by clear hSu; go_simp; first | done | (simp [hc]; done) | (simp; omega) | trace_state⟩) hHeld ?_
      try simp only [Act.put, List.setIfInBounds_toArray, List.set_cons_zero, List.set_cons_succ]
      refine wpAnyH_ready (rs := [3]) (by kernel_rfl) (by simp) ?_
      refine AllReadyH.cons rfl (fun K' hK => ?_) AllReadyH.nil
      go_simp
      go_at_call 79
      refine (l11Copy_build ⟨some ⟨b, o1, none⟩, k, cap, b, f⟩ _ (hok2.grew hq) (by dsimp only; omega)).mono ?_
      rintro e v3 ⟨v1, g1, rfl, hb, B1⟩
      have hq' := below_app hq hb hq.size
      dsimp only at B1
      replace B1 := B1.down hq.size
      clear hq hb
      have hq := hq'
      clear hq'
      refine hK.out _ _ hq (fun hHeld => ?_)
      clear hK
      try simp only [Act.put, List.setIfInBounds_toArray, List.set_cons_zero, List.set_cons_succ]
      refine wpAnyH_ready (rs := [8]) (by kernel_rfl) (by simp) ?_
      refine AllReadyH.cons rfl (fun K' hK => ?_) AllReadyH.nil
      go_simp
      go_at_call 79
      refine (l11Copy_build (⟨some ⟨b, o1 + (k + 1) * 22, none⟩, (n - (k + 1)), (cap - (k + 1)), b, fun i => f (k + 1 + i)⟩ : Tb) _ (hokR.grew hq) (by dsimp only; omega)).mono ?_
      rintro e v8 ⟨v2, g2, rfl, hb, B2⟩
      have hq' := below_app hq hb hq.size
      dsimp only at B2
      have hs_ := hq.size
      have hbk := hb
      clear hq hb
      have hq := hq'
      clear hq'
      refine hK.out _ _ hq (fun hHeld => ?_)
      clear hK
      try simp only [Act.put, List.setIfInBounds_toArray, List.set_cons_zero, List.set_cons_succ]
      obtain ⟨b5, cap5, rfl, ho5⟩ := B2.tb
      have ok_ := owns_kept9 B1.1 hbk
      have kl_ := ok_.lt
      refine wpAnyH_ready (rs := [9]) (by kernel_rfl) (by simp) ?_
      refine AllReadyH.cons rfl (fun K' hK => ?_) AllReadyH.nil
      rw [if_pos (by kernel_rfl)]
      refine wp_append_own_at (.tmp 17) (.tmp 22) 56 rfl u1.heap.size 32 i0 (.agg #[.int .i64 0, .int .i64 0, .int .i64 0, .int .i64 0, .int .i64 0, .int .i64 0, .int .i64 0, .int .i64 0, .int .i64 0, .int .i64 0, .int .i64 0, .int .i64 0, .int .i64 0, .int .i64 0, .int .i64 0, .int .i64 0, .int .i64 0, .int .i64 0, .bool false, .slice none 0 0, .int .i64 0, .int .i64 0]) 22 192 Tryz.underlying56 hi hz0 hz1 hz2 rfl (by decide) _ _ _ rfl ok_ ⟨b5, 0, none⟩ (n - (k + 1)) cap5 (valsE efC (n - (k + 1)) g2) rfl (valsE_len efC_len _ _) (RdE.newsE efC_len ho5.2.2.1.rd) (efC_one _ _) (by unfold maxLen; omega) (by omega) hq.size ?_
      intro v6 w6 hown4 hgr4 hnil4 hat4
      have B6 := BuildT.cat (m := (n - (k + 1))) B1 hbk hs_ (fun i hi => ⟨(B2.2.2.1 i hi).1, (B2.2.2.1 i hi).2.2⟩) B2.2.2.2 hown4 hgr4 (fun e => by first | exact hnil4 e | exact B1.2.1 (hnil4.1 e).1 | exact B1.2.1 (hnil4.1 e)) hat4
      have hq' : Below u1.heap.size u1 w6 := hq.grown hgr4 hq.size (fun q h => (kl_ q h).1)
      refine hK.out _ _ hq' (fun hHeld => ?_)
      clear hK hown4 hgr4 hnil4 hat4 ok_ kl_ ho5 B2 B1 hbk
      try simp only [Act.put, List.setIfInBounds_toArray, List.set_cons_zero, List.set_cons_succ]
      refine wpAnyH_take (i := 10) (oi := ⟨some 4, _, _, _, _, _⟩) (v := v6) rfl (by kernel_rfl) (by kernel_rfl) (by kernel_rfl) (fun _ _ _ h => h) (Or.inl ⟨by kernel_rfl, fun u hSu => by clear hSu; go_simp⟩) hHeld ?_
      try simp only [Act.put, List.setIfInBounds_toArray, List.set_cons_zero, List.set_cons_succ]
      refine wpAnyH_take (i := 11) (oi := ⟨some 5, _, _, _, _, _⟩) (v := .bool true) rfl (by kernel_rfl) (by kernel_rfl) (by kernel_rfl) (fun _ _ _ h => h) (Or.inl ⟨by kernel_rfl, fun u hSu => by clear hSu; go_simp⟩) hHeld ?_
      try simp only [Act.put, List.setIfInBounds_toArray, List.set_cons_zero, List.set_cons_succ]
      refine wpAnyH_done (by kernel_rfl) ?_ _
      clear hHeld
      have hNN : k + (n - (k + 1)) = n - 1 := by omega
      rw [hNN] at B6
      replace B6 := B6.congr (g' := _) (f' := dpF k f) (fun i hi => rfl) (fun i hi => by
        unfold dpF
        by_cases h1 : i < k
        · rw [if_pos h1, if_pos h1]
        · rw [if_neg h1, if_neg h1]; congr 1; omega)
      replace B6 := B6.down hb1.size
      obtain ⟨q, hqv, aq⟩ := B6.ans
      subst hqv
      go_wp2
      go_ret2
      rw [HN.out, HF.out, HD.out]
      exact ⟨q, rfl, below_app hb1 hq' hb1.size, aq⟩
end Go.Proofs.YtodfdfncdoliiadGreat
