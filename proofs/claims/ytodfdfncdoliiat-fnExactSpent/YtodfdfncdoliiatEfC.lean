/-
  Chapter 10: words for an effect: a box's cells; how a law compares two. Written by tools/ef.gen.py. Own work.
-/
import Derived.Test.YtodfdfncdoliiatEfB
namespace Go.Proofs.Ytodfdfncdoliiat
open Go.ChangeShapes Go.WideShapes Go.ChangeAt Go.RowKit
set_option maxRecDepth 100000
set_option linter.unusedVariables false
set_option linter.unusedSimpArgs false

/-- the cells of an effect, in a box -/
theorem BoxR.cells22 {w : World} {g : Nat} {a : Ef} {T : Nat} (h : BoxR w g T #[.int .i64 a.id, .int .i64 a.si, .int .i64 a.sr, .int .i64 a.cl, .int .i64 a.pt.kd, .int .i64 a.pt.wh, .int .i64 a.pt.sr, .int .i64 a.pt.tr, .int .i64 a.pt.pi, .int .i64 a.pt.le, .int .i64 a.pt.zo, .int .i64 a.gd.kd, .int .i64 a.gd.nn, .int .i64 a.ac.kd, .int .i64 a.ac.nn, .int .i64 a.ac.pi, .int .i64 a.ac.si, .int .i64 a.ac.zo, .bool a.ac.be, .slice a.ac.la a.ac.ln a.ac.lcap, .int .i64 a.un, .int .i64 a.le]) : w.cell? ⟨g, 0, none⟩ = some (.int .i64 a.id) ∧ w.cell? ⟨g, 1, none⟩ = some (.int .i64 a.si) ∧ w.cell? ⟨g, 2, none⟩ = some (.int .i64 a.sr) ∧ w.cell? ⟨g, 3, none⟩ = some (.int .i64 a.cl) ∧ w.cell? ⟨g, 4, none⟩ = some (.int .i64 a.pt.kd) ∧ w.cell? ⟨g, 5, none⟩ = some (.int .i64 a.pt.wh) ∧ w.cell? ⟨g, 6, none⟩ = some (.int .i64 a.pt.sr) ∧ w.cell? ⟨g, 7, none⟩ = some (.int .i64 a.pt.tr) ∧ w.cell? ⟨g, 8, none⟩ = some (.int .i64 a.pt.pi) ∧ w.cell? ⟨g, 9, none⟩ = some (.int .i64 a.pt.le) ∧ w.cell? ⟨g, 10, none⟩ = some (.int .i64 a.pt.zo) ∧ w.cell? ⟨g, 11, none⟩ = some (.int .i64 a.gd.kd) ∧ w.cell? ⟨g, 12, none⟩ = some (.int .i64 a.gd.nn) ∧ w.cell? ⟨g, 13, none⟩ = some (.int .i64 a.ac.kd) ∧ w.cell? ⟨g, 14, none⟩ = some (.int .i64 a.ac.nn) ∧ w.cell? ⟨g, 15, none⟩ = some (.int .i64 a.ac.pi) ∧ w.cell? ⟨g, 16, none⟩ = some (.int .i64 a.ac.si) ∧ w.cell? ⟨g, 17, none⟩ = some (.int .i64 a.ac.zo) ∧ w.cell? ⟨g, 18, none⟩ = some (.bool a.ac.be) ∧ w.cell? ⟨g, 19, none⟩ = some (.slice a.ac.la a.ac.ln a.ac.lcap) ∧ w.cell? ⟨g, 20, none⟩ = some (.int .i64 a.un) ∧ w.cell? ⟨g, 21, none⟩ = some (.int .i64 a.le) :=
  ⟨h.cell 0, h.cell 1, h.cell 2, h.cell 3, h.cell 4, h.cell 5, h.cell 6, h.cell 7, h.cell 8, h.cell 9, h.cell 10, h.cell 11, h.cell 12, h.cell 13, h.cell 14, h.cell 15, h.cell 16, h.cell 17, h.cell 18, h.cell 19, h.cell 20, h.cell 21⟩
theorem eqGuard_any (p q : Gd) (w : World) :
    Calls Try.prog 34 #[(.agg #[.int .i64 p.kd, .int .i64 p.nn]), (.agg #[.int .i64 q.kd, .int .i64 q.nn])] w fun e w' => e = .returned (.bool (smGd p q)) ∧ Below w.heap.size w w' := by
  go_enter Try.func34, Try.ntmps34
  go_wp2
  all_goals go_ret
  all_goals refine ⟨ret_bool' ?_, ((Below.refl _ w).alloc (Nat.le_refl _) _).alloc (by simp) _⟩
  all_goals (unfold smGd; simp_all)
set_option maxHeartbeats 4000000 in
theorem eqEffect_alike (t1 t2 a : Ef) (w : World) {B1 B2 : Nat} (o1 : OwnF w B1 t1) (o2 : OwnF w B2 t2) (k1 : AlikeF t1 a) (k2 : AlikeF t2 a) (hn : a.ac.ln ≤ 1048577) :
    Calls Try.prog 13 #[(.agg #[.int .i64 t1.id, .int .i64 t1.si, .int .i64 t1.sr, .int .i64 t1.cl, .int .i64 t1.pt.kd, .int .i64 t1.pt.wh, .int .i64 t1.pt.sr, .int .i64 t1.pt.tr, .int .i64 t1.pt.pi, .int .i64 t1.pt.le, .int .i64 t1.pt.zo, .int .i64 t1.gd.kd, .int .i64 t1.gd.nn, .int .i64 t1.ac.kd, .int .i64 t1.ac.nn, .int .i64 t1.ac.pi, .int .i64 t1.ac.si, .int .i64 t1.ac.zo, .bool t1.ac.be, .slice t1.ac.la t1.ac.ln t1.ac.lcap, .int .i64 t1.un, .int .i64 t1.le]), (.agg #[.int .i64 t2.id, .int .i64 t2.si, .int .i64 t2.sr, .int .i64 t2.cl, .int .i64 t2.pt.kd, .int .i64 t2.pt.wh, .int .i64 t2.pt.sr, .int .i64 t2.pt.tr, .int .i64 t2.pt.pi, .int .i64 t2.pt.le, .int .i64 t2.pt.zo, .int .i64 t2.gd.kd, .int .i64 t2.gd.nn, .int .i64 t2.ac.kd, .int .i64 t2.ac.nn, .int .i64 t2.ac.pi, .int .i64 t2.ac.si, .int .i64 t2.ac.zo, .bool t2.ac.be, .slice t2.ac.la t2.ac.ln t2.ac.lcap, .int .i64 t2.un, .int .i64 t2.le])] w fun e w' => e = .returned (.bool true) ∧ Below w.heap.size w w' := by
  have HB := ((Below.refl _ w).alloc (Nat.le_refl _) (.cells #[.int .i64 t1.id, .int .i64 t1.si, .int .i64 t1.sr, .int .i64 t1.cl, .int .i64 t1.pt.kd, .int .i64 t1.pt.wh, .int .i64 t1.pt.sr, .int .i64 t1.pt.tr, .int .i64 t1.pt.pi, .int .i64 t1.pt.le, .int .i64 t1.pt.zo, .int .i64 t1.gd.kd, .int .i64 t1.gd.nn, .int .i64 t1.ac.kd, .int .i64 t1.ac.nn, .int .i64 t1.ac.pi, .int .i64 t1.ac.si, .int .i64 t1.ac.zo, .bool t1.ac.be, .slice t1.ac.la t1.ac.ln t1.ac.lcap, .int .i64 t1.un, .int .i64 t1.le] 41)).alloc (by simp) (.cells #[.int .i64 t2.id, .int .i64 t2.si, .int .i64 t2.sr, .int .i64 t2.cl, .int .i64 t2.pt.kd, .int .i64 t2.pt.wh, .int .i64 t2.pt.sr, .int .i64 t2.pt.tr, .int .i64 t2.pt.pi, .int .i64 t2.pt.le, .int .i64 t2.pt.zo, .int .i64 t2.gd.kd, .int .i64 t2.gd.nn, .int .i64 t2.ac.kd, .int .i64 t2.ac.nn, .int .i64 t2.ac.pi, .int .i64 t2.ac.si, .int .i64 t2.ac.zo, .bool t2.ac.be, .slice t2.ac.la t2.ac.ln t2.ac.lcap, .int .i64 t2.un, .int .i64 t2.le] 41)
  have b1 := (boxR_new w 41 #[.int .i64 t1.id, .int .i64 t1.si, .int .i64 t1.sr, .int .i64 t1.cl, .int .i64 t1.pt.kd, .int .i64 t1.pt.wh, .int .i64 t1.pt.sr, .int .i64 t1.pt.tr, .int .i64 t1.pt.pi, .int .i64 t1.pt.le, .int .i64 t1.pt.zo, .int .i64 t1.gd.kd, .int .i64 t1.gd.nn, .int .i64 t1.ac.kd, .int .i64 t1.ac.nn, .int .i64 t1.ac.pi, .int .i64 t1.ac.si, .int .i64 t1.ac.zo, .bool t1.ac.be, .slice t1.ac.la t1.ac.ln t1.ac.lcap, .int .i64 t1.un, .int .i64 t1.le]).alloc (.cells #[.int .i64 t2.id, .int .i64 t2.si, .int .i64 t2.sr, .int .i64 t2.cl, .int .i64 t2.pt.kd, .int .i64 t2.pt.wh, .int .i64 t2.pt.sr, .int .i64 t2.pt.tr, .int .i64 t2.pt.pi, .int .i64 t2.pt.le, .int .i64 t2.pt.zo, .int .i64 t2.gd.kd, .int .i64 t2.gd.nn, .int .i64 t2.ac.kd, .int .i64 t2.ac.nn, .int .i64 t2.ac.pi, .int .i64 t2.ac.si, .int .i64 t2.ac.zo, .bool t2.ac.be, .slice t2.ac.la t2.ac.ln t2.ac.lcap, .int .i64 t2.un, .int .i64 t2.le] 41)
  have b2 : BoxR ((w.alloc (.cells #[.int .i64 t1.id, .int .i64 t1.si, .int .i64 t1.sr, .int .i64 t1.cl, .int .i64 t1.pt.kd, .int .i64 t1.pt.wh, .int .i64 t1.pt.sr, .int .i64 t1.pt.tr, .int .i64 t1.pt.pi, .int .i64 t1.pt.le, .int .i64 t1.pt.zo, .int .i64 t1.gd.kd, .int .i64 t1.gd.nn, .int .i64 t1.ac.kd, .int .i64 t1.ac.nn, .int .i64 t1.ac.pi, .int .i64 t1.ac.si, .int .i64 t1.ac.zo, .bool t1.ac.be, .slice t1.ac.la t1.ac.ln t1.ac.lcap, .int .i64 t1.un, .int .i64 t1.le] 41)).alloc (.cells #[.int .i64 t2.id, .int .i64 t2.si, .int .i64 t2.sr, .int .i64 t2.cl, .int .i64 t2.pt.kd, .int .i64 t2.pt.wh, .int .i64 t2.pt.sr, .int .i64 t2.pt.tr, .int .i64 t2.pt.pi, .int .i64 t2.pt.le, .int .i64 t2.pt.zo, .int .i64 t2.gd.kd, .int .i64 t2.gd.nn, .int .i64 t2.ac.kd, .int .i64 t2.ac.nn, .int .i64 t2.ac.pi, .int .i64 t2.ac.si, .int .i64 t2.ac.zo, .bool t2.ac.be, .slice t2.ac.la t2.ac.ln t2.ac.lcap, .int .i64 t2.un, .int .i64 t2.le] 41)) (w.heap.size + 1) 41 #[.int .i64 t2.id, .int .i64 t2.si, .int .i64 t2.sr, .int .i64 t2.cl, .int .i64 t2.pt.kd, .int .i64 t2.pt.wh, .int .i64 t2.pt.sr, .int .i64 t2.pt.tr, .int .i64 t2.pt.pi, .int .i64 t2.pt.le, .int .i64 t2.pt.zo, .int .i64 t2.gd.kd, .int .i64 t2.gd.nn, .int .i64 t2.ac.kd, .int .i64 t2.ac.nn, .int .i64 t2.ac.pi, .int .i64 t2.ac.si, .int .i64 t2.ac.zo, .bool t2.ac.be, .slice t2.ac.la t2.ac.ln t2.ac.lcap, .int .i64 t2.un, .int .i64 t2.le] := heap_alloc2_new _ _ _
  generalize hW : (w.alloc (.cells #[.int .i64 t1.id, .int .i64 t1.si, .int .i64 t1.sr, .int .i64 t1.cl, .int .i64 t1.pt.kd, .int .i64 t1.pt.wh, .int .i64 t1.pt.sr, .int .i64 t1.pt.tr, .int .i64 t1.pt.pi, .int .i64 t1.pt.le, .int .i64 t1.pt.zo, .int .i64 t1.gd.kd, .int .i64 t1.gd.nn, .int .i64 t1.ac.kd, .int .i64 t1.ac.nn, .int .i64 t1.ac.pi, .int .i64 t1.ac.si, .int .i64 t1.ac.zo, .bool t1.ac.be, .slice t1.ac.la t1.ac.ln t1.ac.lcap, .int .i64 t1.un, .int .i64 t1.le] 41)).alloc (.cells #[.int .i64 t2.id, .int .i64 t2.si, .int .i64 t2.sr, .int .i64 t2.cl, .int .i64 t2.pt.kd, .int .i64 t2.pt.wh, .int .i64 t2.pt.sr, .int .i64 t2.pt.tr, .int .i64 t2.pt.pi, .int .i64 t2.pt.le, .int .i64 t2.pt.zo, .int .i64 t2.gd.kd, .int .i64 t2.gd.nn, .int .i64 t2.ac.kd, .int .i64 t2.ac.nn, .int .i64 t2.ac.pi, .int .i64 t2.ac.si, .int .i64 t2.ac.zo, .bool t2.ac.be, .slice t2.ac.la t2.ac.ln t2.ac.lcap, .int .i64 t2.un, .int .i64 t2.le] 41) = W at HB b1 b2
  have q0 := (k1.id.trans k2.id.symm)
  have q1 := (k1.si.trans k2.si.symm)
  have q2 := (k1.sr.trans k2.sr.symm)
  have q3 := (k1.cl.trans k2.cl.symm)
  have q4 := (k1.pt.trans k2.pt.symm)
  have q5 := (k1.gd.trans k2.gd.symm)
  have q7 := (k1.un.trans k2.un.symm)
  have q8 := (k1.le.trans k2.le.symm)
  have EP : Hid (∀ u : World, Calls Try.prog 33 #[(.agg #[.int .i64 t1.pt.kd, .int .i64 t1.pt.wh, .int .i64 t1.pt.sr, .int .i64 t1.pt.tr, .int .i64 t1.pt.pi, .int .i64 t1.pt.le, .int .i64 t1.pt.zo]), (.agg #[.int .i64 t2.pt.kd, .int .i64 t2.pt.wh, .int .i64 t2.pt.sr, .int .i64 t2.pt.tr, .int .i64 t2.pt.pi, .int .i64 t2.pt.le, .int .i64 t2.pt.zo])] u fun e w' => e = .returned (.bool true) ∧ Below u.heap.size u w') := fun u => by have := eqPat_any t1.pt t2.pt u; rw [← q4, smPt_self] at this; rw [← q4]; exact this
  have EG : Hid (∀ u : World, Calls Try.prog 34 #[(.agg #[.int .i64 t1.gd.kd, .int .i64 t1.gd.nn]), (.agg #[.int .i64 t2.gd.kd, .int .i64 t2.gd.nn])] u fun e w' => e = .returned (.bool true) ∧ Below u.heap.size u w') := fun u => by have := eqGuard_any t1.gd t2.gd u; rw [← q5, smGd_self] at this; rw [← q5]; exact this
  have EA : Hid (∀ u : World, Below W.heap.size W u → Calls Try.prog 35 #[(.agg #[.int .i64 t1.ac.kd, .int .i64 t1.ac.nn, .int .i64 t1.ac.pi, .int .i64 t1.ac.si, .int .i64 t1.ac.zo, .bool t1.ac.be, .slice t1.ac.la t1.ac.ln t1.ac.lcap]), (.agg #[.int .i64 t2.ac.kd, .int .i64 t2.ac.nn, .int .i64 t2.ac.pi, .int .i64 t2.ac.si, .int .i64 t2.ac.zo, .bool t2.ac.be, .slice t2.ac.la t2.ac.ln t2.ac.lcap])] u fun e w' => e = .returned (.bool true) ∧ Below u.heap.size u w') := fun u hu => eqAct_alike t1.ac t2.ac a.ac u (OwnA.grew o1 (below_app HB hu HB.size)) (OwnA.grew o2 (below_app HB hu HB.size)) k1.ac k2.ac hn
  clear o1 o2 k1 k2 q4 q5
  have n0 : (t1.id != t2.id) = false := by rw [q0]; simp
  have n1 : (t1.si != t2.si) = false := by rw [q1]; simp
  have n2 : (t1.sr != t2.sr) = false := by rw [q2]; simp
  have n3 : (t1.cl != t2.cl) = false := by rw [q3]; simp
  have n7 : (t1.un != t2.un) = false := by rw [q7]; simp
  have n8 : (t1.le != t2.le) = false := by rw [q8]; simp
  clear q0 q1 q2 q3 q7 q8
  obtain ⟨c0, c1, c2, c3, c4, c5, c6, c7, c8, c9, c10, c11, c12, c13, c14, c15, c16, c17, c18, c19, c20, c21⟩ := b1.cells22
  obtain ⟨d0, d1, d2, d3, d4, d5, d6, d7, d8, d9, d10, d11, d12, d13, d14, d15, d16, d17, d18, d19, d20, d21⟩ := b2.cells22
  have h0 := Below.refl W.heap.size W
  go_enter Try.func13, Try.ntmps13
  go_wp2_with fail
  refine (EP.out _).mono ?_
  rintro e w1 ⟨rfl, hb⟩
  clear hW c0 c1 c2 c3 c4 c5 c6 c7 c8 c9 c10 c11 c12 c13 c14 c15 c16 c17 c18 c19 c20 c21 d0 d1 d2 d3 d4 d5 d6 d7 d8 d9 d10 d11 d12 d13 d14 d15 d16 d17 d18 d19 d20 d21 n0 n1 n2 n3
  replace b1 := b1.grew hb
  replace b2 := b2.grew hb
  replace h0 := below_app h0 hb h0.size
  clear hb
  as_aux_lemma =>
    obtain ⟨c0, c1, c2, c3, c4, c5, c6, c7, c8, c9, c10, c11, c12, c13, c14, c15, c16, c17, c18, c19, c20, c21⟩ := b1.cells22
    obtain ⟨d0, d1, d2, d3, d4, d5, d6, d7, d8, d9, d10, d11, d12, d13, d14, d15, d16, d17, d18, d19, d20, d21⟩ := b2.cells22
    go_wp2_with fail
    refine (EG.out _).mono ?_
    rintro e w2 ⟨rfl, hb⟩
    clear c0 c1 c2 c3 c4 c5 c6 c7 c8 c9 c10 c11 c12 c13 c14 c15 c16 c17 c18 c19 c20 c21 d0 d1 d2 d3 d4 d5 d6 d7 d8 d9 d10 d11 d12 d13 d14 d15 d16 d17 d18 d19 d20 d21
    replace b1 := b1.grew hb
    replace b2 := b2.grew hb
    replace h0 := below_app h0 hb h0.size
    clear hb
    as_aux_lemma =>
      obtain ⟨c0, c1, c2, c3, c4, c5, c6, c7, c8, c9, c10, c11, c12, c13, c14, c15, c16, c17, c18, c19, c20, c21⟩ := b1.cells22
      obtain ⟨d0, d1, d2, d3, d4, d5, d6, d7, d8, d9, d10, d11, d12, d13, d14, d15, d16, d17, d18, d19, d20, d21⟩ := b2.cells22
      go_wp2_with fail
      refine (EA.out _ h0).mono ?_
      rintro e w3 ⟨rfl, hb⟩
      clear c0 c1 c2 c3 c4 c5 c6 c7 c8 c9 c10 c11 c12 c13 c14 c15 c16 c17 c18 c19 c20 c21 d0 d1 d2 d3 d4 d5 d6 d7 d8 d9 d10 d11 d12 d13 d14 d15 d16 d17 d18 d19 d20 d21
      replace b1 := b1.grew hb
      replace b2 := b2.grew hb
      replace h0 := below_app h0 hb h0.size
      clear hb
      as_aux_lemma =>
        obtain ⟨c0, c1, c2, c3, c4, c5, c6, c7, c8, c9, c10, c11, c12, c13, c14, c15, c16, c17, c18, c19, c20, c21⟩ := b1.cells22
        obtain ⟨d0, d1, d2, d3, d4, d5, d6, d7, d8, d9, d10, d11, d12, d13, d14, d15, d16, d17, d18, d19, d20, d21⟩ := b2.cells22
        go_wp2
        go_ret
        exact ⟨rfl, below_app HB h0 HB.size⟩
end Go.Proofs.Ytodfdfncdoliiat
