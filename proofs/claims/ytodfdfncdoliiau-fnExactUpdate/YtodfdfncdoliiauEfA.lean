/-
  Chapter 10: words for an effect (Ef): how a law's own is opened, measured. Written by tools/ef.gen.py. Own work.
-/
import Derived.Test.YtodfdfncdoliiauAcA
import Derived.Test.YtodfdfncdoliiauGPaA2
namespace Go.Proofs.Ytodfdfncdoliiau
open Go.ChangeShapes Go.WideShapes Go.ChangeAt Go.RowKit
set_option maxRecDepth 100000
set_option linter.unusedVariables false
set_option linter.unusedSimpArgs false

/-- an effect as it came in -/
structure Ef where
  (id si sr cl : Int)
  (pt : Pt)
  (gd : Gd)
  (ac : Ac)
  (un le : Int)
def Ef.ok (a : Ef) (w : World) : Prop := a.ac.ok w ∧ (∀ x ∈ [a.id, a.si, a.sr, a.cl, a.un, a.le], (Lit.int .i64 x).wf = true) ∧ a.pt.wf ∧ a.gd.wf
/-- what the functions of this chapter need of it -/
def Ef.okW (a : Ef) (w : World) : Prop := a.ac.ok w ∧ (Lit.int .i64 a.le).wf = true
theorem Ef.ok.w {a : Ef} {w : World} (h : a.ok w) : a.okW w := ⟨h.1, h.2.1 a.le (by simp)⟩
theorem efw_grew {a : Ef} {w w' : World} (h : a.okW w) (hb : Below w.heap.size w w') : a.okW w' := ⟨act_grew h.1 hb, h.2⟩
theorem ef_grew {a : Ef} {w w' : World} (h : a.ok w) (hb : Below w.heap.size w w') : a.ok w' := ⟨act_grew h.1 hb, h.2⟩
/-- a struct, field by field: what cells each takes -/
theorem open_structN {H : Type} {enc : TypeId × Value → H} {Q : Program} {w : World} {base : Nat} {spare : TypeId → Bool} {held : Bool} {r : Reach} {b0 : Nat} {t : TypeId} {fs : Array Field} {v : Value} {d : DataW H} {p : List MemPlace} (hs : Q.underlying t = some (.struct fs))
    (hv : Value.okWide Q w r b0 t v) (h : DataW.Trod enc Q w base spare held t v d p) :
    ∃ cs : List Value, v = .agg cs.toArray ∧ cs.length = Q.cellsOf t ∧ ∀ (i : Nat) (f : Field), fs[i]? = some f → ∃ n y, DataW.trod enc Q w base spare held n f.type ((cs.drop f.offset).take (Q.cellsOf f.type)) = some y := by
  obtain ⟨cs, rfl, hsz⟩ := okWide_struct hs hv
  obtain ⟨fuel, hf⟩ := h
  obtain ⟨xs, n, _, _, _, hlen, hx⟩ := DataW.trod_struct hs hf
  refine ⟨cs.toList, by simp, by simp [hsz], fun i f hfi => ?_⟩
  have h1 := hx i f hfi
  have hi : i < xs.length := by rw [hlen]; exact (Array.getElem?_eq_some_iff.1 hfi).1
  rw [List.getElem?_eq_getElem hi] at h1
  exact ⟨n, _, h1⟩
theorem list22 {α : Type} : ∀ {l : List α}, l.length = 22 → ∃ x0 x1 x2 x3 x4 x5 x6 x7 x8 x9 x10 x11 x12 x13 x14 x15 x16 x17 x18 x19 x20 x21, l = [x0, x1, x2, x3, x4, x5, x6, x7, x8, x9, x10, x11, x12, x13, x14, x15, x16, x17, x18, x19, x20, x21]
  | [x0, x1, x2, x3, x4, x5, x6, x7, x8, x9, x10, x11, x12, x13, x14, x15, x16, x17, x18, x19, x20, x21], _ => ⟨x0, x1, x2, x3, x4, x5, x6, x7, x8, x9, x10, x11, x12, x13, x14, x15, x16, x17, x18, x19, x20, x21, rfl⟩
theorem pat_of_cells {H : Type} {enc : TypeId × Value → H} {w : World} {base : Nat} {spare : TypeId → Bool} {held : Bool} {x : DataW H × List MemPlace} {fuel : Nat} {c0 c1 c2 c3 c4 c5 c6 : Value} (h : DataW.trod enc Try.prog w base spare held fuel 33 [c0, c1, c2, c3, c4, c5, c6] = some x) : ∃ q : Pt, ([c0, c1, c2, c3, c4, c5, c6] : List Value) = [.int .i64 q.kd, .int .i64 q.wh, .int .i64 q.sr, .int .i64 q.tr, .int .i64 q.pi, .int .i64 q.le, .int .i64 q.zo] ∧ q.wf := by
  have hf := open_cells1 Try.underlying33 (by kernel_rfl) h
  obtain ⟨n0, y0, t0⟩ := hf 0 _ c0 rfl rfl
  obtain ⟨a0, e0, _, u0⟩ := DataW.trod_int Try.underlying3 t0
  obtain ⟨n1, y1, t1⟩ := hf 1 _ c1 rfl rfl
  obtain ⟨a1, e1, _, u1⟩ := DataW.trod_int Try.underlying3 t1
  obtain ⟨n2, y2, t2⟩ := hf 2 _ c2 rfl rfl
  obtain ⟨a2, e2, _, u2⟩ := DataW.trod_int Try.underlying3 t2
  obtain ⟨n3, y3, t3⟩ := hf 3 _ c3 rfl rfl
  obtain ⟨a3, e3, _, u3⟩ := DataW.trod_int Try.underlying3 t3
  obtain ⟨n4, y4, t4⟩ := hf 4 _ c4 rfl rfl
  obtain ⟨a4, e4, _, u4⟩ := DataW.trod_int Try.underlying3 t4
  obtain ⟨n5, y5, t5⟩ := hf 5 _ c5 rfl rfl
  obtain ⟨a5, e5, _, u5⟩ := DataW.trod_int Try.underlying3 t5
  obtain ⟨n6, y6, t6⟩ := hf 6 _ c6 rfl rfl
  obtain ⟨a6, e6, _, u6⟩ := DataW.trod_int Try.underlying3 t6
  simp only [List.cons.injEq, and_true] at e0 e1 e2 e3 e4 e5 e6
  subst e0 e1 e2 e3 e4 e5 e6
  refine ⟨⟨a0, a1, a2, a3, a4, a5, a6⟩, rfl, fun x hx => ?_⟩
  simp only [List.mem_cons, List.mem_nil_iff, or_false] at hx
  rcases hx with rfl | rfl | rfl | rfl | rfl | rfl | rfl <;> assumption
theorem guard_of_cells {H : Type} {enc : TypeId × Value → H} {w : World} {base : Nat} {spare : TypeId → Bool} {held : Bool} {x : DataW H × List MemPlace} {fuel : Nat} {c0 c1 : Value} (h : DataW.trod enc Try.prog w base spare held fuel 35 [c0, c1] = some x) : ∃ q : Gd, ([c0, c1] : List Value) = [.int .i64 q.kd, .int .i64 q.nn] ∧ q.wf := by
  have hf := open_cells1 Try.underlying35 (by kernel_rfl) h
  obtain ⟨n0, y0, t0⟩ := hf 0 _ c0 rfl rfl
  obtain ⟨a0, e0, _, u0⟩ := DataW.trod_int Try.underlying3 t0
  obtain ⟨n1, y1, t1⟩ := hf 1 _ c1 rfl rfl
  obtain ⟨a1, e1, _, u1⟩ := DataW.trod_int Try.underlying3 t1
  simp only [List.cons.injEq, and_true] at e0 e1
  subst e0 e1
  refine ⟨⟨a0, a1⟩, rfl, fun x hx => ?_⟩
  simp only [List.mem_cons, List.mem_nil_iff, or_false] at hx
  rcases hx with rfl | rfl <;> assumption
theorem act_of_cells {H : Type} {enc : TypeId × Value → H} {w : World} {base : Nat} {spare : TypeId → Bool} {held : Bool} {x : DataW H × List MemPlace} {fuel : Nat} {c0 c1 c2 c3 c4 c5 c6 : Value} (h : DataW.trod enc Try.prog w base spare held fuel 38 [c0, c1, c2, c3, c4, c5, c6] = some x) : ∃ a : Ac, ([c0, c1, c2, c3, c4, c5, c6] : List Value) = [.int .i64 a.kd, .int .i64 a.nn, .int .i64 a.pi, .int .i64 a.si, .int .i64 a.zo, .bool a.be, .slice a.la a.ln a.lcap] ∧ a.ok w := by
  have hf := open_cells1 Try.underlying38 (by kernel_rfl) h
  obtain ⟨n0, y0, t0⟩ := hf 0 _ c0 rfl rfl
  obtain ⟨a0, e0, _, u0⟩ := DataW.trod_int Try.underlying3 t0
  obtain ⟨n1, y1, t1⟩ := hf 1 _ c1 rfl rfl
  obtain ⟨a1, e1, _, u1⟩ := DataW.trod_int Try.underlying3 t1
  obtain ⟨n2, y2, t2⟩ := hf 2 _ c2 rfl rfl
  obtain ⟨a2, e2, _, u2⟩ := DataW.trod_int Try.underlying3 t2
  obtain ⟨n3, y3, t3⟩ := hf 3 _ c3 rfl rfl
  obtain ⟨a3, e3, _, u3⟩ := DataW.trod_int Try.underlying3 t3
  obtain ⟨n4, y4, t4⟩ := hf 4 _ c4 rfl rfl
  obtain ⟨a4, e4, _, u4⟩ := DataW.trod_int Try.underlying3 t4
  obtain ⟨n5, y5, t5⟩ := hf 5 _ c5 rfl rfl
  obtain ⟨a5, e5, _⟩ := DataW.trod_bool Try.underlying4 t5
  obtain ⟨n6, y6, t6⟩ := hf 6 _ c6 rfl rfl
  obtain ⟨la, ln, lcap, lb, es, rfl, p1, p2, p3, p4, _⟩ := open_events t6
  simp only [List.cons.injEq, and_true] at e0 e1 e2 e3 e4 e5
  subst e0 e1 e2 e3 e4 e5
  refine ⟨⟨a0, a1, a2, a3, a4, a5, la, ln, lcap, lb, es⟩, rfl, p1, p2, p3, fun x hx => ?_, p4⟩
  simp only [List.mem_cons, List.mem_nil_iff, or_false] at hx
  rcases hx with rfl | rfl | rfl | rfl | rfl <;> assumption
theorem open_effect {H : Type} {enc : TypeId × Value → H} {w : World} {base : Nat} {spare : TypeId → Bool} {held : Bool} {r : Reach} {b0 : Nat} {v : Value} {d : DataW H} {p : List MemPlace} (hv : Value.okWide Try.prog w r b0 40 v) (h : DataW.Trod enc Try.prog w base spare held 40 v d p) :
    ∃ a : Ef, v = (.agg #[.int .i64 a.id, .int .i64 a.si, .int .i64 a.sr, .int .i64 a.cl, .int .i64 a.pt.kd, .int .i64 a.pt.wh, .int .i64 a.pt.sr, .int .i64 a.pt.tr, .int .i64 a.pt.pi, .int .i64 a.pt.le, .int .i64 a.pt.zo, .int .i64 a.gd.kd, .int .i64 a.gd.nn, .int .i64 a.ac.kd, .int .i64 a.ac.nn, .int .i64 a.ac.pi, .int .i64 a.ac.si, .int .i64 a.ac.zo, .bool a.ac.be, .slice a.ac.la a.ac.ln a.ac.lcap, .int .i64 a.un, .int .i64 a.le]) ∧ a.ok w := by
  obtain ⟨cs, rfl, hl, hf⟩ := open_structN Try.underlying40 hv h
  obtain ⟨c0, c1, c2, c3, c4, c5, c6, c7, c8, c9, c10, c11, c12, c13, c14, c15, c16, c17, c18, c19, c20, c21, rfl⟩ := list22 (l := cs) (hl.trans (by kernel_rfl))
  obtain ⟨n0, y0, t0⟩ := hf 0 _ rfl
  replace t0 : DataW.trod enc Try.prog w base spare held n0 3 [c0] = some y0 := t0
  obtain ⟨a0, e0, _, u0⟩ := DataW.trod_int Try.underlying3 t0
  obtain ⟨n1, y1, t1⟩ := hf 1 _ rfl
  replace t1 : DataW.trod enc Try.prog w base spare held n1 3 [c1] = some y1 := t1
  obtain ⟨a1, e1, _, u1⟩ := DataW.trod_int Try.underlying3 t1
  obtain ⟨n2, y2, t2⟩ := hf 2 _ rfl
  replace t2 : DataW.trod enc Try.prog w base spare held n2 3 [c2] = some y2 := t2
  obtain ⟨a2, e2, _, u2⟩ := DataW.trod_int Try.underlying3 t2
  obtain ⟨n3, y3, t3⟩ := hf 3 _ rfl
  replace t3 : DataW.trod enc Try.prog w base spare held n3 3 [c3] = some y3 := t3
  obtain ⟨a3, e3, _, u3⟩ := DataW.trod_int Try.underlying3 t3
  obtain ⟨n4, y4, t4⟩ := hf 4 _ rfl
  replace t4 : DataW.trod enc Try.prog w base spare held n4 33 [c4, c5, c6, c7, c8, c9, c10] = some y4 := t4
  obtain ⟨n5, y5, t5⟩ := hf 5 _ rfl
  replace t5 : DataW.trod enc Try.prog w base spare held n5 35 [c11, c12] = some y5 := t5
  obtain ⟨n6, y6, t6⟩ := hf 6 _ rfl
  replace t6 : DataW.trod enc Try.prog w base spare held n6 38 [c13, c14, c15, c16, c17, c18, c19] = some y6 := t6
  obtain ⟨n7, y7, t7⟩ := hf 7 _ rfl
  replace t7 : DataW.trod enc Try.prog w base spare held n7 3 [c20] = some y7 := t7
  obtain ⟨a7, e7, _, u7⟩ := DataW.trod_int Try.underlying3 t7
  obtain ⟨n8, y8, t8⟩ := hf 8 _ rfl
  replace t8 : DataW.trod enc Try.prog w base spare held n8 3 [c21] = some y8 := t8
  obtain ⟨a8, e8, _, u8⟩ := DataW.trod_int Try.underlying3 t8
  obtain ⟨pt, e4, w4⟩ := pat_of_cells t4
  obtain ⟨gd, e5, w5⟩ := guard_of_cells t5
  obtain ⟨ac, e6, w6⟩ := act_of_cells t6
  simp only [List.cons.injEq, and_true] at e0 e1 e2 e3 e4 e5 e6 e7 e8
  obtain ⟨rfl, rfl, rfl, rfl, rfl, rfl, rfl⟩ := e4
  obtain ⟨rfl, rfl⟩ := e5
  obtain ⟨rfl, rfl, rfl, rfl, rfl, rfl, rfl⟩ := e6
  subst e0 e1 e2 e3 e7 e8
  refine ⟨⟨a0, a1, a2, a3, pt, gd, ac, a7, a8⟩, rfl, w6, fun x hx => ?_, w4, w5⟩
  simp only [List.mem_cons, List.mem_nil_iff, or_false] at hx
  rcases hx with rfl | rfl | rfl | rfl | rfl | rfl <;> assumption
/-- the cells of the act that an effect holds, in a box -/
theorem BoxR.acts {w : World} {g : Nat} {a : Ef} {T : Nat} (h : BoxR w g T #[.int .i64 a.id, .int .i64 a.si, .int .i64 a.sr, .int .i64 a.cl, .int .i64 a.pt.kd, .int .i64 a.pt.wh, .int .i64 a.pt.sr, .int .i64 a.pt.tr, .int .i64 a.pt.pi, .int .i64 a.pt.le, .int .i64 a.pt.zo, .int .i64 a.gd.kd, .int .i64 a.gd.nn, .int .i64 a.ac.kd, .int .i64 a.ac.nn, .int .i64 a.ac.pi, .int .i64 a.ac.si, .int .i64 a.ac.zo, .bool a.ac.be, .slice a.ac.la a.ac.ln a.ac.lcap, .int .i64 a.un, .int .i64 a.le]) : w.cell? ⟨g, 13, none⟩ = some (.int .i64 a.ac.kd) ∧ w.cell? ⟨g, 14, none⟩ = some (.int .i64 a.ac.nn) ∧ w.cell? ⟨g, 15, none⟩ = some (.int .i64 a.ac.pi) ∧ w.cell? ⟨g, 16, none⟩ = some (.int .i64 a.ac.si) ∧ w.cell? ⟨g, 17, none⟩ = some (.int .i64 a.ac.zo) ∧ w.cell? ⟨g, 18, none⟩ = some (.bool a.ac.be) ∧ w.cell? ⟨g, 19, none⟩ = some (.slice a.ac.la a.ac.ln a.ac.lcap) :=
  ⟨h.cell 13, h.cell 14, h.cell 15, h.cell 16, h.cell 17, h.cell 18, h.cell 19⟩
set_option maxHeartbeats 1000000 in
theorem szEffect_any (a : Ef) (x : Int) (w : World) (hn : a.ac.ln ≤ 9223372036854775807) (hx : 0 ≤ x ∧ x ≤ 1048576) :
    Calls Try.prog 17 #[(.agg #[.int .i64 a.id, .int .i64 a.si, .int .i64 a.sr, .int .i64 a.cl, .int .i64 a.pt.kd, .int .i64 a.pt.wh, .int .i64 a.pt.sr, .int .i64 a.pt.tr, .int .i64 a.pt.pi, .int .i64 a.pt.le, .int .i64 a.pt.zo, .int .i64 a.gd.kd, .int .i64 a.gd.nn, .int .i64 a.ac.kd, .int .i64 a.ac.nn, .int .i64 a.ac.pi, .int .i64 a.ac.si, .int .i64 a.ac.zo, .bool a.ac.be, .slice a.ac.la a.ac.ln a.ac.lcap, .int .i64 a.un, .int .i64 a.le]), .int .i64 x] w fun e w' => e = .returned (.int .i64 (szN a.ac.ln x)) ∧ Below w.heap.size w w' := by
  have hb0 := (Below.refl _ w).alloc (Nat.le_refl _) (.cells #[.int .i64 a.id, .int .i64 a.si, .int .i64 a.sr, .int .i64 a.cl, .int .i64 a.pt.kd, .int .i64 a.pt.wh, .int .i64 a.pt.sr, .int .i64 a.pt.tr, .int .i64 a.pt.pi, .int .i64 a.pt.le, .int .i64 a.pt.zo, .int .i64 a.gd.kd, .int .i64 a.gd.nn, .int .i64 a.ac.kd, .int .i64 a.ac.nn, .int .i64 a.ac.pi, .int .i64 a.ac.si, .int .i64 a.ac.zo, .bool a.ac.be, .slice a.ac.la a.ac.ln a.ac.lcap, .int .i64 a.un, .int .i64 a.le] 40)
  have bx := boxR_new w 40 #[.int .i64 a.id, .int .i64 a.si, .int .i64 a.sr, .int .i64 a.cl, .int .i64 a.pt.kd, .int .i64 a.pt.wh, .int .i64 a.pt.sr, .int .i64 a.pt.tr, .int .i64 a.pt.pi, .int .i64 a.pt.le, .int .i64 a.pt.zo, .int .i64 a.gd.kd, .int .i64 a.gd.nn, .int .i64 a.ac.kd, .int .i64 a.ac.nn, .int .i64 a.ac.pi, .int .i64 a.ac.si, .int .i64 a.ac.zo, .bool a.ac.be, .slice a.ac.la a.ac.ln a.ac.lcap, .int .i64 a.un, .int .i64 a.le]
  generalize hW : w.alloc (.cells #[.int .i64 a.id, .int .i64 a.si, .int .i64 a.sr, .int .i64 a.cl, .int .i64 a.pt.kd, .int .i64 a.pt.wh, .int .i64 a.pt.sr, .int .i64 a.pt.tr, .int .i64 a.pt.pi, .int .i64 a.pt.le, .int .i64 a.pt.zo, .int .i64 a.gd.kd, .int .i64 a.gd.nn, .int .i64 a.ac.kd, .int .i64 a.ac.nn, .int .i64 a.ac.pi, .int .i64 a.ac.si, .int .i64 a.ac.zo, .bool a.ac.be, .slice a.ac.la a.ac.ln a.ac.lcap, .int .i64 a.un, .int .i64 a.le] 40) = W at hb0 bx
  obtain ⟨k0, k1, k2, k3, k4, k5, k6⟩ := bx.acts
  by_cases h1 : x - a.ac.ln < 0
  · have HS : Hid (szN a.ac.ln x = -1) := by show szN a.ac.ln x = -1; unfold szN; rw [if_pos h1]
    go_enter Try.func17, Try.ntmps17
    go_wp2_with fail
    refine (szAct_any a.ac _ _ hn hx).mono ?_
    rintro e w1 ⟨rfl, hb1⟩
    rw [HS.out]
    go_wp2
    go_ret
    exact ⟨ret_int HS.out.symm, below_app hb0 hb1 hb0.size⟩
  · have HS : Hid (szN a.ac.ln x = x - a.ac.ln) := by show szN a.ac.ln x = _; unfold szN; rw [if_neg h1]
    have h1' : 0 ≤ x - (a.ac.ln : Int) := by omega
    clear h1
    go_enter Try.func17, Try.ntmps17
    go_wp2_with fail
    refine (szAct_any a.ac _ _ hn hx).mono ?_
    rintro e w1 ⟨rfl, hb1⟩
    rw [HS.out]
    go_wp2
    go_ret
    exact ⟨ret_int HS.out.symm, below_app hb0 hb1 hb0.size⟩
end Go.Proofs.Ytodfdfncdoliiau
