/-
  Chapter 11: words for rows of effects, each with a list of its own (Tb): how a law's own is opened. Written by tools/tab.gen.py. Own work.
-/
import Derived.Test.YtodfdfncdoliiauEfC
namespace Go.Proofs.Ytodfdfncdoliiau
open Go.ChangeShapes Go.WideShapes Go.ChangeAt Go.RowKit
set_option maxRecDepth 100000
set_option linter.unusedVariables false
set_option linter.unusedSimpArgs false

/-- the cells of an effect -/
def efC (x : Ef) : List Value := [.int .i64 x.id, .int .i64 x.si, .int .i64 x.sr, .int .i64 x.cl, .int .i64 x.pt.kd, .int .i64 x.pt.wh, .int .i64 x.pt.sr, .int .i64 x.pt.tr, .int .i64 x.pt.pi, .int .i64 x.pt.le, .int .i64 x.pt.zo, .int .i64 x.gd.kd, .int .i64 x.gd.nn, .int .i64 x.ac.kd, .int .i64 x.ac.nn, .int .i64 x.ac.pi, .int .i64 x.ac.si, .int .i64 x.ac.zo, .bool x.ac.be, .slice x.ac.la x.ac.ln x.ac.lcap, .int .i64 x.un, .int .i64 x.le]
theorem efC_ne (x : Ef) : efC x ≠ [] := by unfold efC; simp
theorem efC_len (x : Ef) : (efC x).length = 22 := rfl
theorem efC_arr (x : Ef) : (efC x).toArray = #[.int .i64 x.id, .int .i64 x.si, .int .i64 x.sr, .int .i64 x.cl, .int .i64 x.pt.kd, .int .i64 x.pt.wh, .int .i64 x.pt.sr, .int .i64 x.pt.tr, .int .i64 x.pt.pi, .int .i64 x.pt.le, .int .i64 x.pt.zo, .int .i64 x.gd.kd, .int .i64 x.gd.nn, .int .i64 x.ac.kd, .int .i64 x.ac.nn, .int .i64 x.ac.pi, .int .i64 x.ac.si, .int .i64 x.ac.zo, .bool x.ac.be, .slice x.ac.la x.ac.ln x.ac.lcap, .int .i64 x.un, .int .i64 x.le] := rfl
theorem efC_one (n : Nat) (f : Nat → Ef) : ∀ u ∈ valsE efC n f, u.oneCell' = true := by
  intro u hu
  unfold valsE at hu
  obtain ⟨i, _, hi⟩ := List.mem_flatMap.1 hu
  simp only [efC, List.mem_cons, List.mem_nil_iff, or_false] at hi
  rcases hi with rfl | rfl | rfl | rfl | rfl | rfl | rfl | rfl | rfl | rfl | rfl | rfl | rfl | rfl | rfl | rfl | rfl | rfl | rfl | rfl | rfl | rfl <;> rfl
theorem Try.infoEf : (Try.prog.info? 49).map (fun i => (i.zero, i.size, i.bytes)) = some (some (.agg #[.int .i64 0, .int .i64 0, .int .i64 0, .int .i64 0, .int .i64 0, .int .i64 0, .int .i64 0, .int .i64 0, .int .i64 0, .int .i64 0, .int .i64 0, .int .i64 0, .int .i64 0, .int .i64 0, .int .i64 0, .int .i64 0, .int .i64 0, .int .i64 0, .bool false, .slice none 0 0, .int .i64 0, .int .i64 0]), 22, 192) := by kernel_rfl
def zEf : Ef := ⟨0, 0, 0, 0, ⟨0, 0, 0, 0, 0, 0, 0⟩, ⟨0, 0⟩, ⟨0, 0, 0, 0, 0, false, none, 0, 0, 0, fun _ => ⟨0, 0, 0, 0, 0, 0, false⟩⟩, 0, 0⟩
theorem made_effect (n : Nat) : (madeCells #[.int .i64 0, .int .i64 0, .int .i64 0, .int .i64 0, .int .i64 0, .int .i64 0, .int .i64 0, .int .i64 0, .int .i64 0, .int .i64 0, .int .i64 0, .int .i64 0, .int .i64 0, .int .i64 0, .int .i64 0, .int .i64 0, .int .i64 0, .int .i64 0, .bool false, .slice none 0 0, .int .i64 0, .int .i64 0] (n * 22)).toList = valsE efC n (fun _ => zEf) := by
  refine valsE_ext efC_len (by simp [madeCells]) (fun i j hi hj => ?_)
  unfold madeCells
  have hlt : i * 22 + j < n * 22 := by omega
  simp only [Array.toList_map, Array.toList_range, List.getElem?_map, List.getElem?_range hlt, Option.map_some, List.size_toArray, List.length_cons, List.length_nil]
  rw [show (i * 22 + j) % (0 + 1 + 1 + 1 + 1 + 1 + 1 + 1 + 1 + 1 + 1 + 1 + 1 + 1 + 1 + 1 + 1 + 1 + 1 + 1 + 1 + 1 + 1) = j by omega]
  have : j = 0 ∨ j = 1 ∨ j = 2 ∨ j = 3 ∨ j = 4 ∨ j = 5 ∨ j = 6 ∨ j = 7 ∨ j = 8 ∨ j = 9 ∨ j = 10 ∨ j = 11 ∨ j = 12 ∨ j = 13 ∨ j = 14 ∨ j = 15 ∨ j = 16 ∨ j = 17 ∨ j = 18 ∨ j = 19 ∨ j = 20 ∨ j = 21 := by omega
  rcases this with rfl | rfl | rfl | rfl | rfl | rfl | rfl | rfl | rfl | rfl | rfl | rfl | rfl | rfl | rfl | rfl | rfl | rfl | rfl | rfl | rfl | rfl <;> rfl
theorem effect_of_cells {H : Type} {enc : TypeId × Value → H} {w : World} {base : Nat} {spare : TypeId → Bool} {held : Bool} {cs : List Value} {x : DataW H × List MemPlace} {fuel : Nat} (h : DataW.trod enc Try.prog w base spare held fuel 40 cs = some x) (hl : cs.length = 22) : ∃ a : Ef, cs = efC a ∧ a.ok w := by
  obtain ⟨xs, n, _, _, _, hlen, hx⟩ := DataW.trod_struct Try.underlying40 h
  have hf : ∀ (i : Nat) (f : Field), _ → ∃ n y, DataW.trod enc Try.prog w base spare held n f.type ((cs.drop f.offset).take (Try.prog.cellsOf f.type)) = some y := fun i f hfi => by
    have h1 := hx i f hfi
    have hi : i < xs.length := by rw [hlen]; exact (Array.getElem?_eq_some_iff.1 hfi).1
    rw [List.getElem?_eq_getElem hi] at h1
    exact ⟨n, _, h1⟩
  obtain ⟨c0, c1, c2, c3, c4, c5, c6, c7, c8, c9, c10, c11, c12, c13, c14, c15, c16, c17, c18, c19, c20, c21, rfl⟩ := list22 (l := cs) hl
  obtain ⟨n0, y0, t0⟩ := hf 0 _ rfl
  replace t0 : DataW.trod enc Try.prog w base spare held n0 3 [c0] = some y0 := t0
  obtain ⟨a0, e0, _, u0⟩ := DataW.trod_int Try.underlying3 t0
  obtain ⟨n1, y1, t1⟩ := hf 1 _ rfl
  replace t1 : DataW.trod enc Try.prog w base spare held n1 3 [c1] = some y1 := t1
  obtain ⟨a1, e1, _, u1⟩ := DataW.trod_int Try.underlying3 t1
  obtain ⟨n2, y2, t2⟩ := hf 2 _ rfl
  replace t2 : DataW.trod enc Try.prog w base spare held n2 3 [c2] = some y2 := t2
  obtain ⟨a2, e2, _, u2⟩ := DataW.trod_int Try.underlying3 t2
  obtain ⟨n3, y3, t3⟩ := hf 3 _ rfl
  replace t3 : DataW.trod enc Try.prog w base spare held n3 3 [c3] = some y3 := t3
  obtain ⟨a3, e3, _, u3⟩ := DataW.trod_int Try.underlying3 t3
  obtain ⟨n4, y4, t4⟩ := hf 4 _ rfl
  replace t4 : DataW.trod enc Try.prog w base spare held n4 33 [c4, c5, c6, c7, c8, c9, c10] = some y4 := t4
  obtain ⟨n5, y5, t5⟩ := hf 5 _ rfl
  replace t5 : DataW.trod enc Try.prog w base spare held n5 35 [c11, c12] = some y5 := t5
  obtain ⟨n6, y6, t6⟩ := hf 6 _ rfl
  replace t6 : DataW.trod enc Try.prog w base spare held n6 38 [c13, c14, c15, c16, c17, c18, c19] = some y6 := t6
  obtain ⟨n7, y7, t7⟩ := hf 7 _ rfl
  replace t7 : DataW.trod enc Try.prog w base spare held n7 3 [c20] = some y7 := t7
  obtain ⟨a7, e7, _, u7⟩ := DataW.trod_int Try.underlying3 t7
  obtain ⟨n8, y8, t8⟩ := hf 8 _ rfl
  replace t8 : DataW.trod enc Try.prog w base spare held n8 3 [c21] = some y8 := t8
  obtain ⟨a8, e8, _, u8⟩ := DataW.trod_int Try.underlying3 t8
  obtain ⟨pt, e4, w4⟩ := pat_of_cells t4
  obtain ⟨gd, e5, w5⟩ := guard_of_cells t5
  obtain ⟨ac, e6, w6⟩ := act_of_cells t6
  simp only [List.cons.injEq, and_true] at e0 e1 e2 e3 e4 e5 e6 e7 e8
  obtain ⟨rfl, rfl, rfl, rfl, rfl, rfl, rfl⟩ := e4
  obtain ⟨rfl, rfl⟩ := e5
  obtain ⟨rfl, rfl, rfl, rfl, rfl, rfl, rfl⟩ := e6
  subst e0 e1 e2 e3 e7 e8
  refine ⟨⟨a0, a1, a2, a3, pt, gd, ac, a7, a8⟩, rfl, w6, fun x hx => ?_, w4, w5⟩
  simp only [List.mem_cons, List.mem_nil_iff, or_false] at hx
  rcases hx with rfl | rfl | rfl | rfl | rfl | rfl <;> assumption
/-- a list of effects as it came in -/
structure Tb where
  (p : Option Addr)
  (n cap b : Nat)
  (f : Nat → Ef)
def Tb.ok (t : Tb) (w : World) : Prop := t.n ≤ t.cap ∧ t.cap ≤ maxLen ∧ RdE efC 22 w t.b t.p t.n t.f ∧ ∀ i, i < t.n → (t.f i).ok w
theorem open_effects {H : Type} {enc : TypeId × Value → H} {w : World} {base : Nat} {spare : TypeId → Bool} {held : Bool} {r : Reach} {b0 : Nat} {v : Value} {d : DataW H} {p : List MemPlace} (hv : Value.okWide Try.prog w r b0 22 v) (h : DataW.Trod enc Try.prog w base spare held 22 v d p) :
    ∃ t : Tb, v = .slice t.p t.n t.cap ∧ t.ok w := by
  obtain ⟨fuel, hf⟩ := h
  obtain ⟨a', len', cap', rfl⟩ := okWide_slice Try.underlying22 hv
  rcases Deep.open_slice Try.underlying22 hf with ⟨hcs, _⟩ | ⟨a, len, cap, m, k, D, Pl, hcs, _, hl, hm, hmm, _, hx⟩
  · simp [Value.cells] at hcs
    obtain ⟨rfl, rfl, rfl⟩ := hcs
    exact ⟨⟨none, 0, 0, 0, fun _ => zEf⟩, rfl, Nat.le_refl _, Nat.zero_le _, .inl rfl, fun i hi => absurd hi (Nat.not_lt_zero i)⟩
  · simp [Value.cells] at hcs
    obtain ⟨rfl, rfl, rfl⟩ := hcs
    have hce : (Try.prog).cellsOf 40 = 22 := by kernel_rfl
    have hlm : len' ≤ m := by rw [hmm]; split <;> omega
    have each : ∀ i, i < m → ∃ q : Ef, (∀ j u, (efC q)[j]? = some u → w.cell? ((a.add (i * 22)).add j) = some u) ∧ q.ok w := by
      intro i hi
      obtain ⟨cs', h1, h2⟩ := hx i hi
      rw [hce] at h1
      obtain ⟨_, hlen, hcell⟩ := World.cells?_some h1
      obtain ⟨q, rfl, hq⟩ := effect_of_cells h2 hlen
      refine ⟨q, fun j u hu => ?_, hq⟩
      have hj : j < 22 := by rw [← hlen]; exact (List.getElem?_eq_some_iff.1 hu).1
      rw [hcell j hj]; exact hu
    have hin : Inhabited Ef := ⟨zEf⟩
    obtain ⟨q, hq⟩ := Deep.choose_lt each
    by_cases h0 : len' = 0
    · exact ⟨⟨some a, len', cap', 0, q⟩, rfl, hl, hm, .inl h0, fun i hi => by dsimp only at hi; omega⟩
    · obtain ⟨b, off, spot⟩ := a
      have c0 := (hq 0 (by omega)).1 0 _ rfl
      have hspot : spot = none := by
        have := World.cell?_spot c0
        simpa [Addr.add] using this
      subst hspot
      refine ⟨⟨some ⟨b, off, none⟩, len', cap', b, q⟩, rfl, hl, hm, .inr ⟨off, rfl, fun i hi j u hu => ?_⟩, fun i hi => (hq i (by dsimp only at hi; omega)).2⟩
      dsimp only at hi
      have := (hq i (by omega)).1 j u hu
      rw [Go.WideShapes.add_plain, Go.WideShapes.add_plain] at this
      exact this
theorem Tb.ok.grew {t : Tb} {w w' : World} (h : t.ok w) (hb : Below w.heap.size w w') : t.ok w' := ⟨h.1, h.2.1, h.2.2.1.grew efC_ne hb, fun i hi => ef_grew (h.2.2.2 i hi) hb⟩
/-- they say the same, effect by effect -/
structure AlikeT (t a : Tb) : Prop where
  n : t.n = a.n
  f : ∀ i, i < a.n → AlikeF (t.f i) (a.f i)
/-- the call's own: the row and each list -/
def OwnTb (w : World) (B : Nat) (t : Tb) : Prop := t.n ≤ t.cap ∧ t.cap ≤ maxLen ∧ OwnE efC 22 w B t.b t.p t.n t.f ∧ (∀ i, i < t.n → OwnF w B (t.f i) ∧ (t.f i).ac.lb ≠ t.b) ∧ ∀ i j, i < j → j < t.n → (t.f i).ac.lb ≠ (t.f j).ac.lb
theorem OwnTb.grew {w w' : World} {B : Nat} {t : Tb} (h : OwnTb w B t) (hb : Below w.heap.size w w') : OwnTb w' B t := ⟨h.1, h.2.1, h.2.2.1.grew hb, fun i hi => ⟨OwnF.grew (h.2.2.2.1 i hi).1 hb, (h.2.2.2.1 i hi).2⟩, h.2.2.2.2⟩
theorem okT11 {t a : Tb} {w w0 : World} {B : Nat} (h : OwnTb w B t) (k : AlikeT t a) (hs : a.ok w0) : t.ok w := ⟨h.1, h.2.1, h.2.2.1.rd, fun i hi => okT10 (h.2.2.2.1 i hi).1 (k.f i (by rw [← k.n]; exact hi)) (hs.2.2.2 i (by rw [← k.n]; exact hi))⟩
theorem AlikeT.symm_trans {s t a : Tb} (h : AlikeT s a) (k : AlikeT t a) : s.n = t.n := h.n.trans k.n.symm
end Go.Proofs.Ytodfdfncdoliiau
