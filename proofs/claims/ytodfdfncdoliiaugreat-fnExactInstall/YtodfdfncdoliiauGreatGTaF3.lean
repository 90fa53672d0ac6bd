/-
  Chapter 11: a list of effects of the call's own, to which others are appended (BuildT); the specification's l11Copy. Written by tools/tab.gen.py. Chapter 9: the specification at acts that are alike. Written by tools/ac.gen.py. Chapter 10: the specification at effects that are alike. Written by tools/ef.gen.py. Own work.
-/
import Derived.Test.YtodfdfncdoliiauGreatTaE
import Derived.Test.YtodfdfncdoliiauGreatSpB
import Derived.Test.YtodfdfncdoliiauGreatGStAt3
import Derived.Maps.AppendAt
import Derived.Test.YtodfdfncdoliiauGreatAcD
import Derived.Test.YtodfdfncdoliiauGreatEfD
namespace Go.Proofs.YtodfdfncdoliiauGreat
open Go.ChangeShapes Go.WideShapes Go.ChangeAt Go.RowKit
set_option maxRecDepth 100000
set_option linter.unusedVariables false
set_option linter.unusedSimpArgs false

theorem AlikeA.trans {s t a : Ac} (h : AlikeA s t) (k : AlikeA t a) : AlikeA s a := ⟨h.kd.trans k.kd, h.nn.trans k.nn, h.pi.trans k.pi, h.si.trans k.si, h.zo.trans k.zo, h.be.trans k.be, h.ln.trans k.ln, h.es.trans k.es⟩
theorem AlikeF.trans {s t a : Ef} (h : AlikeF s t) (k : AlikeF t a) : AlikeF s a := ⟨h.id.trans k.id, h.si.trans k.si, h.sr.trans k.sr, h.cl.trans k.cl, h.pt.trans k.pt, h.gd.trans k.gd, h.ac.trans k.ac, h.un.trans k.un, h.le.trans k.le⟩
theorem AlikeF.rfl' (a : Ef) : AlikeF a a := ⟨rfl, rfl, rfl, rfl, rfl, rfl, ⟨rfl, rfl, rfl, rfl, rfl, rfl, rfl, rfl⟩, rfl, rfl⟩
/-- a row of the call's own, of k effects like f's, each with a list of its own; more may be appended -/
def BuildT (w : World) (B : Nat) (v : Value) (k : Nat) (g f : Nat → Ef) : Prop :=
  w.ownsRow B 44 22 v k (valsE efC k g) ∧ v ≠ .slice none 0 0 ∧ (∀ i, i < k → OwnF w B (g i) ∧ v.ownBlock ≠ some (g i).ac.lb ∧ AlikeF (g i) (f i)) ∧ ∀ i j, i < j → j < k → (g i).ac.lb ≠ (g j).ac.lb
theorem BuildT.grew {w w' : World} {B : Nat} {v : Value} {k : Nat} {g f : Nat → Ef} (h : BuildT w B v k g f) (hb : Below w.heap.size w w') : BuildT w' B v k g f :=
  ⟨owns_kept9 h.1 hb, h.2.1, fun i hi => ⟨OwnF.grew (h.2.2.1 i hi).1 hb, (h.2.2.1 i hi).2⟩, h.2.2.2⟩
theorem BuildT.down {w : World} {B B' : Nat} {v : Value} {k : Nat} {g f : Nat → Ef} (h : BuildT w B v k g f) (hB : B' ≤ B) : BuildT w B' v k g f := by
  refine ⟨⟨h.1.1, ?_⟩, h.2.1, fun i hi => ⟨OwnF.down (h.2.2.1 i hi).1 hB, (h.2.2.1 i hi).2⟩, h.2.2.2⟩
  rcases h.1.2 with q | ⟨b, cap, cur, q1, q2, q3⟩
  · exact .inl q
  · exact .inr ⟨b, cap, cur, q1, Nat.le_trans hB q2, q3⟩
theorem BuildT.alike {w : World} {B : Nat} {v : Value} {k : Nat} {g f f' : Nat → Ef} (h : BuildT w B v k g f) (e : ∀ i, i < k → AlikeF (f i) (f' i)) : BuildT w B v k g f' :=
  ⟨h.1, h.2.1, fun i hi => ⟨(h.2.2.1 i hi).1, (h.2.2.1 i hi).2.1, AlikeF.trans (h.2.2.1 i hi).2.2 (e i hi)⟩, h.2.2.2⟩
theorem BuildT.tb {w : World} {B : Nat} {v : Value} {k : Nat} {g f : Nat → Ef} (h : BuildT w B v k g f) : ∃ b cap, v = .slice (some ⟨b, 0, none⟩) k cap ∧ OwnTb w B ⟨some ⟨b, 0, none⟩, k, cap, b, g⟩ := by
  obtain ⟨h1, h2, h3, h4⟩ := h
  have hc : ∀ q c, v = .slice (some q) k c → c ≤ maxLen := fun q c e => by
    subst e
    rcases h1.2 with ⟨p1, _⟩ | ⟨_, _, _, p1, _, _, _, p2, _⟩
    · cases p1
    · cases p1; exact p2
  obtain ⟨b, cap, rfl, hk, ho⟩ := own_ofE efC_len h1 h2
  exact ⟨b, cap, rfl, hk, hc _ _ rfl, ho, fun i hi => ⟨(h3 i hi).1, fun e => (h3 i hi).2.1 (by rw [e]; rfl)⟩, h4⟩
theorem BuildT.size {w : World} {B : Nat} {v : Value} {k : Nat} {g f : Nat → Ef} (h : BuildT w B v k g f) : B < w.heap.size ∨ v = .slice none 0 0 := by
  obtain ⟨b, cap, _, ho⟩ := h.tb
  have h1 := ho.2.2.1.1
  have h2 := ho.2.2.1.2.1
  dsimp only at h1 h2
  exact .inl (by omega)
/-- others are appended: those of a row ys, each with a list that came after w -/
theorem BuildT.cat {w w2 w4 : World} {B : Nat} {v v4 : Value} {k m : Nat} {g f y fy : Nat → Ef} (h : BuildT w B v k g f) (hb : Below w.heap.size w w2) (hBw : B ≤ w.heap.size)
    (hy : ∀ i, i < m → OwnF w2 w.heap.size (y i) ∧ AlikeF (y i) (fy i)) (hd : ∀ i j, i < j → j < m → (y i).ac.lb ≠ (y j).ac.lb)
    (ho : w4.ownsRow B 44 22 v4 (k + m) (valsE efC k g ++ valsE efC m y)) (hg : w2.grownBy w4 v.ownBlock) (hn : v4 ≠ .slice none 0 0) (hat : v4.ownBlock = v.ownBlock ∨ v4.ownBlock = some w2.heap.size) :
    BuildT w4 B v4 (k + m) (fun i => if i < k then g i else y (i - k)) (fun i => if i < k then f i else fy (i - k)) := by
  obtain ⟨h1, h2, h3, h4⟩ := h
  have hvb : ∀ q, v.ownBlock = some q → q < w.heap.size := fun q hq => (h1.lt q hq).2
  have hsz := hb.size
  have hlo : ∀ i, i < k → OwnF w4 B (g i) := fun i hi => by
    have o := OwnF.grew (h3 i hi).1 hb
    exact ⟨o.1, o.2.1, o.2.2.same (hg.block _ o.2.2.2.1 (fun e => (h3 i hi).2.1 e.symm)) hg.size⟩
  have hln : ∀ i, i < m → OwnF w4 w.heap.size (y i) := fun i hi => by
    have o := (hy i hi).1
    have ol := o.lt
    exact ⟨o.1, o.2.1, o.2.2.same (hg.block _ o.2.2.2.1 (fun e => by have := hvb _ e.symm; omega)) hg.size⟩
  have hE : valsE efC k g ++ valsE efC m y = valsE efC (k + m) (fun i => if i < k then g i else y (i - k)) := by
    refine valsE_ext efC_len (by rw [List.length_append, valsE_len efC_len, valsE_len efC_len, Nat.add_mul]) (fun i j hi hj => ?_)
    by_cases hik : i < k
    · have hl : i * 22 + j < (valsE efC k g).length := by rw [valsE_len efC_len]; omega
      rw [List.getElem?_append_left hl, valsE_get efC_len k g i j hik hj]
      simp only [if_pos hik]
    · have hl : (valsE efC k g).length ≤ i * 22 + j := by rw [valsE_len efC_len]; omega
      rw [List.getElem?_append_right hl, valsE_len efC_len, show i * 22 + j - k * 22 = (i - k) * 22 + j by omega, valsE_get efC_len m y (i - k) j (by omega) hj]
      simp only [if_neg hik]
  rw [hE] at ho
  refine ⟨ho, hn, fun i hi => ?_, fun i j hij hj => ?_⟩
  · by_cases hik : i < k
    · simp only [if_pos hik]
      refine ⟨hlo i hik, ?_, (h3 i hik).2.2⟩
      have hl := ((h3 i hik).1.lt).2
      rcases hat with e | e
      · rw [e]; exact (h3 i hik).2.1
      · rw [e]; intro e2; simp only [Option.some.injEq] at e2; omega
    · simp only [if_neg hik]
      have hm : i - k < m := by omega
      have hl := ((hy (i - k) hm).1.lt)
      refine ⟨OwnF.down (hln (i - k) hm) hBw, ?_, (hy (i - k) hm).2⟩
      rcases hat with e | e
      · rw [e]; intro e2; have := hvb _ e2; omega
      · rw [e]; intro e2; simp only [Option.some.injEq] at e2; omega
  · by_cases hjk : j < k
    · have hik : i < k := by omega
      simp only [if_pos hik, if_pos hjk]
      exact h4 i j hij hjk
    · simp only [if_neg hjk]
      by_cases hik : i < k
      · simp only [if_pos hik]
        have h5 := ((h3 i hik).1.lt).2
        have h6 := ((hy (j - k) (by omega)).1.lt).1
        omega
      · simp only [if_neg hik]
        exact hd (i - k) (j - k) (by omega) (by omega)
theorem BuildT.congr {w : World} {B : Nat} {v : Value} {k : Nat} {g g' f f' : Nat → Ef} (h : BuildT w B v k g f) (e : ∀ i, i < k → g i = g' i) (e' : ∀ i, i < k → f i = f' i) : BuildT w B v k g' f' := by
  refine ⟨by rw [← valsE_congr efC_len e]; exact h.1, h.2.1, fun i hi => by rw [← e i hi, ← e' i hi]; exact h.2.2.1 i hi, fun i j hij hj => by rw [← e i (by omega), ← e j hj]; exact h.2.2.2 i j hij hj⟩
/-- one more is appended -/
theorem BuildT.snoc {w w2 w4 : World} {B : Nat} {v v4 : Value} {k : Nat} {g f : Nat → Ef} {y x : Ef} (h : BuildT w B v k g f) (hb : Below w.heap.size w w2) (hBw : B ≤ w.heap.size) (oy : OwnF w2 w.heap.size y) (ky : AlikeF y x)
    (ho : w4.ownsRow B 44 22 v4 (k + 1) (valsE efC k g ++ efC y)) (hg : w2.grownBy w4 v.ownBlock) (hn : v4 ≠ .slice none 0 0) (hat : v4.ownBlock = v.ownBlock ∨ v4.ownBlock = some w2.heap.size) :
    BuildT w4 B v4 (k + 1) (fun i => if i < k then g i else y) (fun i => if i < k then f i else x) :=
  BuildT.cat (m := 1) (y := fun _ => y) (fy := fun _ => x) h hb hBw (fun i hi => ⟨oy, ky⟩) (fun i j hij hj => by omega) (by simpa [valsE] using ho) hg hn hat
set_option maxHeartbeats 4000000 in
theorem l11Copy_build (t : Tb) (w : World) (hok : t.okW w) (hn : t.n ≤ 1048577) : Calls Tryz.prog 16 #[.slice t.p t.n t.cap] w fun e w' => ∃ v g, e = .returned v ∧ Below w.heap.size w w' ∧ BuildT w' w.heap.size v t.n g t.f := by
  have hnm := hok.le
  obtain ⟨i0, hi, hz0, hz1, hz2⟩ := info_parts Tryz.infoEf
  obtain ⟨p, n, cap, b, f⟩ := t
  obtain ⟨hc1, hc2, h, hf⟩ := hok
  dsimp only at hc1 hc2 h hf hn hnm ⊢
  have hown0 : (w.alloc (.cells #[] 44)).ownsRow w.heap.size 44 22 (.slice (some ⟨w.heap.size, 0, none⟩) 0 0) 0 [] := World.ownsRow_lit w #[] 0 (Nat.le_refl _) (by decide) rfl
  have hb1 := below_new2'' w (.cells #[] 44)
  have B0 : BuildT (w.alloc (.cells #[] 44)) w.heap.size (.slice (some ⟨w.heap.size, 0, none⟩) 0 0) 0 f f := ⟨hown0, by simp, fun i hi => absurd hi (Nat.not_lt_zero i), fun i j _ hj => absurd hj (Nat.not_lt_zero j)⟩
  clear hown0
  go_enter Tryz.func16, Tryz.ntmps16
  go_wp2
  generalize w.alloc (.cells #[] 44) = W0 at hb1 B0 ⊢
  go_loopw [3, 4] (fun v i wr => ∃ (k : Nat) (g : Nat → Ef), k ≤ n ∧ i = .int .i64 k ∧ Below w.heap.size w wr ∧ BuildT wr w.heap.size v k g f) (fun _ i _ => n - (intOf i).toNat)
  case atStart => exact ⟨0, f, Nat.zero_le _, rfl, hb1, B0⟩
  case round =>
    clear hb1 B0
    obtain ⟨k, g, hk, rfl, hb, hB⟩ := hrel
    by_cases hlt : k < n
    · rcases h.grew efC_ne hb with h3 | ⟨o1, rfl, h3⟩
      · omega
      have ra := RdE.rangeD h3 hlt
      have hx := efw_grew (hf k hlt).1 hb
      have hxl := (hf k hlt).2
      have y1 : (0 : Int) ≤ (k : Int) := by omega
      have y2 : (k : Int) < (n : Int) := by omega
      obtain ⟨x, hxe⟩ : ∃ x, Hid (f k = x) := ⟨f k, (rfl : f k = f k)⟩
      rw [hxe.out] at ra hx hxl
      clear h3 h
      go_wp2_with (refine wpList_load_mid rfl 44 _ rfl b (o1 + k * 22) (by rfl) [.int .i64 x.id, .int .i64 x.si, .int .i64 x.sr, .int .i64 x.cl, .int .i64 x.pt.kd, .int .i64 x.pt.wh, .int .i64 x.pt.sr, .int .i64 x.pt.tr, .int .i64 x.pt.pi, .int .i64 x.pt.le, .int .i64 x.pt.zo, .int .i64 x.gd.kd, .int .i64 x.gd.nn, .int .i64 x.ac.kd, .int .i64 x.ac.nn, .int .i64 x.ac.pi, .int .i64 x.ac.si, .int .i64 x.ac.zo, .bool x.ac.be, .slice x.ac.la x.ac.ln x.ac.lcap, .int .i64 x.un, .int .i64 x.le] _ ra Tryz.underlying44 rfl (by kernel_rfl) ?_)
      refine (l10Copy_any x _ hx hxl).mono ?_
      rintro e w2 ⟨y, rfl, hb2, oy, ky⟩
      have hown2 := owns_kept9 hB.1 hb2
      have hb3 := below_app hb hb2 hb.size
      have hvl := hown2.lt
      go_wp2_with (at_builtin; refine wpList_append_own_at _ rfl (.tmp 12) (.tmp 18) 34 rfl w.heap.size 44 i0 (.agg #[.int .i64 0, .int .i64 0, .int .i64 0, .int .i64 0, .int .i64 0, .int .i64 0, .int .i64 0, .int .i64 0, .int .i64 0, .int .i64 0, .int .i64 0, .int .i64 0, .int .i64 0, .int .i64 0, .int .i64 0, .int .i64 0, .int .i64 0, .int .i64 0, .bool false, .slice none 0 0, .int .i64 0, .int .i64 0]) 22 192 Tryz.underlying34 hi hz0 hz1 hz2 rfl (by decide) _ _ _ rfl (hown2.alloc _) ⟨w2.heap.size, 0, none⟩ 1 1 (efC y) rfl rfl (cells_new _ _ _) (fun u hu => efC_one 1 (fun _ => y) u (by simpa [valsE] using hu)) (by unfold maxLen; omega) (by omega) (by have := hb3.size; simp; omega) ?_)
      intro v4 w4 hown4 hgr4 hnil4 hat4
      have HB := hB.snoc (hb2.alloc (by have := hb2.size; omega) (.cells #[.int .i64 y.id, .int .i64 y.si, .int .i64 y.sr, .int .i64 y.cl, .int .i64 y.pt.kd, .int .i64 y.pt.wh, .int .i64 y.pt.sr, .int .i64 y.pt.tr, .int .i64 y.pt.pi, .int .i64 y.pt.le, .int .i64 y.pt.zo, .int .i64 y.gd.kd, .int .i64 y.gd.nn, .int .i64 y.ac.kd, .int .i64 y.ac.nn, .int .i64 y.ac.pi, .int .i64 y.ac.si, .int .i64 y.ac.zo, .bool y.ac.be, .slice y.ac.la y.ac.ln y.ac.lcap, .int .i64 y.un, .int .i64 y.le] 44)) hb.size (OwnF.grew oy (below_new2'' w2 _)) ky hown4 hgr4 (fun e => by first | exact hnil4 e | exact hB.2.1 (hnil4.1 e).1) (by rw [World.size_alloc]; exact hat4)
      have hb4 : Below w.heap.size w w4 := (hb3.alloc hb3.size _).grown hgr4 (by have := hb3.size; simp; omega) (fun q hq => (hvl q hq).1)
      replace HB := HB.congr (g' := fun i => if i < k then g i else y) (f' := f) (fun i hi => rfl) (fun i hi => by
        by_cases hik : i < k
        · simp only [if_pos hik]
        · obtain rfl : i = k := by omega
          simp only [if_neg hik]; exact hxe.out.symm)
      clear hown4 hgr4 hnil4 hat4 hown2 hvl hb3 hb2 oy ky hB hb ra hx
      go_wp2
      go_roundw
      case rel => first | exact ⟨k + 1, _, by omega, by go_num, hb4, HB⟩ | ((repeat apply Exists.intro); exact ⟨⟨k + 1, _, by omega, by go_num, hb4, HB⟩, rfl⟩)
      case measure => simp [intOf]; omega
    · obtain rfl : k = n := by omega
      go_wp2
      go_ret
      first | exact ⟨_, g, rfl, hb, hB⟩ | exact ⟨g, hb, hB⟩
end Go.Proofs.YtodfdfncdoliiauGreat
namespace Go.Proofs.YtodfdfncdoliiauGreat
open Go.ChangeShapes Go.WideShapes Go.ChangeAt Go.RowKit
set_option maxRecDepth 100000
set_option linter.unusedVariables false
set_option linter.unusedSimpArgs false

theorem alike_okAc {t a : Ac} (h : AlikeA t a) : okAc t = okAc a := by unfold okAc plA ac6 ac7 ac8 ac9; rw [h.kd, h.nn, h.pi, h.si, h.zo, h.be, h.ln, h.es]
theorem alike_fiA {t a : Ac} (h : AlikeA t a) (k : Int) : fiA t k = fiA a k := by unfold fiA; rw [h.kd]
theorem alike_amA {t a : Ac} (h : AlikeA t a) (n : Int) : amA t n = amA a n := by unfold amA; rw [h.kd, h.nn]
theorem alike_paN {t a : Ac} (h : AlikeA t a) : paN t = paN a := by unfold paN; rw [h.kd, h.ln]
theorem alike_paF {t a : Ac} (h : AlikeA t a) (e : Ev) : paF t e = paF a e := by unfold paF; rw [h.es]
theorem specActOk_al {w0 w : World} {B : Nat} {t a : Ac} (h : OwnA w B t) (k : AlikeA t a) (hs : a.ok w0) (hn : a.ln ≤ 1048576) : Calls Tryz.prog 58 #[(.agg #[.int .i64 t.kd, .int .i64 t.nn, .int .i64 t.pi, .int .i64 t.si, .int .i64 t.zo, .bool t.be, .slice t.la t.ln t.lcap])] w fun e w' => e = .returned (.bool (okAc a)) ∧ Below w.heap.size w w' := by
  rw [← alike_okAc k]; exact specActOk_any t w (okT9 h k hs) (by rw [k.ln]; omega)
theorem specActFits_al {w0 w : World} {B : Nat} {t a : Ac} (c : Int) (h : OwnA w B t) (k : AlikeA t a) (hs : a.ok w0) (hn : a.ln ≤ 1048576) : Calls Tryz.prog 59 #[(.agg #[.int .i64 t.kd, .int .i64 t.nn, .int .i64 t.pi, .int .i64 t.si, .int .i64 t.zo, .bool t.be, .slice t.la t.ln t.lcap]), .int .i64 c] w fun e w' => e = .returned (.bool (fiA a c)) ∧ Below w.heap.size w w' := by
  rw [← alike_fiA k]; exact specActFits_any t c w
end Go.Proofs.YtodfdfncdoliiauGreat
namespace Go.Proofs.YtodfdfncdoliiauGreat
open Go.ChangeShapes Go.WideShapes Go.ChangeAt Go.RowKit
set_option maxRecDepth 100000
set_option linter.unusedVariables false
set_option linter.unusedSimpArgs false

theorem alike_okEf {t a : Ef} (h : AlikeF t a) : okEf t = okEf a := by unfold okEf hdE cdE; rw [h.id, h.si, h.sr, h.cl, h.pt, h.gd, h.un, h.le, alike_okAc h.ac, alike_fiA h.ac, h.ac.kd]
theorem alike_lvE {t a : Ef} (h : AlikeF t a) (c : Int) : lvE t c = lvE a c := by unfold lvE; rw [h.un, h.le]
theorem alike_nrE {t a : Ef} (h : AlikeF t a) (v : Ev) : nrE t v = nrE a v := by unfold nrE; rw [h.cl, h.sr]
theorem alike_smEf {t a s b : Ef} (h : AlikeF t a) (k : AlikeF s b) : smEf t s = smEf a b := by unfold smEf smH smK; rw [h.id, h.si, h.sr, h.cl, h.pt, h.gd, h.un, h.le, h.ac.kd, h.ac.nn, h.ac.pi, h.ac.si, h.ac.zo, h.ac.be, h.ac.ln, h.ac.es, k.id, k.si, k.sr, k.cl, k.pt, k.gd, k.un, k.le, k.ac.kd, k.ac.nn, k.ac.pi, k.ac.si, k.ac.zo, k.ac.be, k.ac.ln, k.ac.es]
theorem specEffectOk_al {w0 w : World} {B : Nat} {t a : Ef} (h : OwnF w B t) (k : AlikeF t a) (hs : a.ok w0) (hn : a.ac.ln ≤ 1048576) : Calls Tryz.prog 40 #[(.agg #[.int .i64 t.id, .int .i64 t.si, .int .i64 t.sr, .int .i64 t.cl, .int .i64 t.pt.kd, .int .i64 t.pt.wh, .int .i64 t.pt.sr, .int .i64 t.pt.tr, .int .i64 t.pt.pi, .int .i64 t.pt.le, .int .i64 t.pt.zo, .int .i64 t.gd.kd, .int .i64 t.gd.nn, .int .i64 t.ac.kd, .int .i64 t.ac.nn, .int .i64 t.ac.pi, .int .i64 t.ac.si, .int .i64 t.ac.zo, .bool t.ac.be, .slice t.ac.la t.ac.ln t.ac.lcap, .int .i64 t.un, .int .i64 t.le])] w fun e w' => e = .returned (.bool (okEf a)) ∧ Below w.heap.size w w' := by
  rw [← alike_okEf k]; exact specEffectOk_any t w (okT10 h k hs).w (by rw [k.ac.ln]; omega)
end Go.Proofs.YtodfdfncdoliiauGreat
