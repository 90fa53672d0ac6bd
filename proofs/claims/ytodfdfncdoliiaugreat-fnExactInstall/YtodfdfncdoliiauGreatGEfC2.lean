/-
  Chapter 10: words for an effect: a box's cells; how a law compares two. Written by tools/ef.gen.py. Chapter 11: words for rows of effects, each with a list of its own (Tb): how a law's own is opened. Written by tools/tab.gen.py. Own work.
-/
import Derived.Test.YtodfdfncdoliiauGreatEfB
namespace Go.Proofs.YtodfdfncdoliiauGreat
open Go.ChangeShapes Go.WideShapes Go.ChangeAt Go.RowKit
set_option maxRecDepth 100000
set_option linter.unusedVariables false
set_option linter.unusedSimpArgs false

/-- the cells of an effect, in a box -/
theorem BoxR.cells22 {w : World} {g : Nat} {a : Ef} {T : Nat} (h : BoxR w g T #[.int .i64 a.id, .int .i64 a.si, .int .i64 a.sr, .int .i64 a.cl, .int .i64 a.pt.kd, .int .i64 a.pt.wh, .int .i64 a.pt.sr, .int .i64 a.pt.tr, .int .i64 a.pt.pi, .int .i64 a.pt.le, .int .i64 a.pt.zo, .int .i64 a.gd.kd, .int .i64 a.gd.nn, .int .i64 a.ac.kd, .int .i64 a.ac.nn, .int .i64 a.ac.pi, .int .i64 a.ac.si, .int .i64 a.ac.zo, .bool a.ac.be, .slice a.ac.la a.ac.ln a.ac.lcap, .int .i64 a.un, .int .i64 a.le]) : w.cell? ⟨g, 0, none⟩ = some (.int .i64 a.id) ∧ w.cell? ⟨g, 1, none⟩ = some (.int .i64 a.si) ∧ w.cell? ⟨g, 2, none⟩ = some (.int .i64 a.sr) ∧ w.cell? ⟨g, 3, none⟩ = some (.int .i64 a.cl) ∧ w.cell? ⟨g, 4, none⟩ = some (.int .i64 a.pt.kd) ∧ w.cell? ⟨g, 5, none⟩ = some (.int .i64 a.pt.wh) ∧ w.cell? ⟨g, 6, none⟩ = some (.int .i64 a.pt.sr) ∧ w.cell? ⟨g, 7, none⟩ = some (.int .i64 a.pt.tr) ∧ w.cell? ⟨g, 8, none⟩ = some (.int .i64 a.pt.pi) ∧ w.cell? ⟨g, 9, none⟩ = some (.int .i64 a.pt.le) ∧ w.cell? ⟨g, 10, none⟩ = some (.int .i64 a.pt.zo) ∧ w.cell? ⟨g, 11, none⟩ = some (.int .i64 a.gd.kd) ∧ w.cell? ⟨g, 12, none⟩ = some (.int .i64 a.gd.nn) ∧ w.cell? ⟨g, 13, none⟩ = some (.int .i64 a.ac.kd) ∧ w.cell? ⟨g, 14, none⟩ = some (.int .i64 a.ac.nn) ∧ w.cell? ⟨g, 15, none⟩ = some (.int .i64 a.ac.pi) ∧ w.cell? ⟨g, 16, none⟩ = some (.int .i64 a.ac.si) ∧ w.cell? ⟨g, 17, none⟩ = some (.int .i64 a.ac.zo) ∧ w.cell? ⟨g, 18, none⟩ = some (.bool a.ac.be) ∧ w.cell? ⟨g, 19, none⟩ = some (.slice a.ac.la a.ac.ln a.ac.lcap) ∧ w.cell? ⟨g, 20, none⟩ = some (.int .i64 a.un) ∧ w.cell? ⟨g, 21, none⟩ = some (.int .i64 a.le) :=
  ⟨h.cell 0, h.cell 1, h.cell 2, h.cell 3, h.cell 4, h.cell 5, h.cell 6, h.cell 7, h.cell 8, h.cell 9, h.cell 10, h.cell 11, h.cell 12, h.cell 13, h.cell 14, h.cell 15, h.cell 16, h.cell 17, h.cell 18, h.cell 19, h.cell 20, h.cell 21⟩
theorem eqGuard_any (p q : Gd) (w : World) :
    Calls Tryz.prog 33 #[(.agg #[.int .i64 p.kd, .int .i64 p.nn]), (.agg #[.int .i64 q.kd, .int .i64 q.nn])] w fun e w' => e = .returned (.bool (smGd p q)) ∧ Below w.heap.size w w' := by
  go_enter Tryz.func33, Tryz.ntmps33
  go_wp2
  all_goals go_ret
  all_goals refine ⟨ret_bool' ?_, ((Below.refl _ w).alloc (Nat.le_refl _) _).alloc (by simp) _⟩
  all_goals (unfold smGd; simp_all)
set_option maxHeartbeats 4000000 in
theorem eqEffect_alike (t1 t2 a : Ef) (w : World) {B1 B2 : Nat} (o1 : OwnF w B1 t1) (o2 : OwnF w B2 t2) (k1 : AlikeF t1 a) (k2 : AlikeF t2 a) (hn : a.ac.ln ≤ 1048577) :
    Calls Tryz.prog 11 #[(.agg #[.int .i64 t1.id, .int .i64 t1.si, .int .i64 t1.sr, .int .i64 t1.cl, .int .i64 t1.pt.kd, .int .i64 t1.pt.wh, .int .i64 t1.pt.sr, .int .i64 t1.pt.tr, .int .i64 t1.pt.pi, .int .i64 t1.pt.le, .int .i64 t1.pt.zo, .int .i64 t1.gd.kd, .int .i64 t1.gd.nn, .int .i64 t1.ac.kd, .int .i64 t1.ac.nn, .int .i64 t1.ac.pi, .int .i64 t1.ac.si, .int .i64 t1.ac.zo, .bool t1.ac.be, .slice t1.ac.la t1.ac.ln t1.ac.lcap, .int .i64 t1.un, .int .i64 t1.le]), (.agg #[.int .i64 t2.id, .int .i64 t2.si, .int .i64 t2.sr, .int .i64 t2.cl, .int .i64 t2.pt.kd, .int .i64 t2.pt.wh, .int .i64 t2.pt.sr, .int .i64 t2.pt.tr, .int .i64 t2.pt.pi, .int .i64 t2.pt.le, .int .i64 t2.pt.zo, .int .i64 t2.gd.kd, .int .i64 t2.gd.nn, .int .i64 t2.ac.kd, .int .i64 t2.ac.nn, .int .i64 t2.ac.pi, .int .i64 t2.ac.si, .int .i64 t2.ac.zo, .bool t2.ac.be, .slice t2.ac.la t2.ac.ln t2.ac.lcap, .int .i64 t2.un, .int .i64 t2.le])] w fun e w' => e = .returned (.bool true) ∧ Below w.heap.size w w' := by
  have HB := ((Below.refl _ w).alloc (Nat.le_refl _) (.cells #[.int .i64 t1.id, .int .i64 t1.si, .int .i64 t1.sr, .int .i64 t1.cl, .int .i64 t1.pt.kd, .int .i64 t1.pt.wh, .int .i64 t1.pt.sr, .int .i64 t1.pt.tr, .int .i64 t1.pt.pi, .int .i64 t1.pt.le, .int .i64 t1.pt.zo, .int .i64 t1.gd.kd, .int .i64 t1.gd.nn, .int .i64 t1.ac.kd, .int .i64 t1.ac.nn, .int .i64 t1.ac.pi, .int .i64 t1.ac.si, .int .i64 t1.ac.zo, .bool t1.ac.be, .slice t1.ac.la t1.ac.ln t1.ac.lcap, .int .i64 t1.un, .int .i64 t1.le] 44)).alloc (by simp) (.cells #[.int .i64 t2.id, .int .i64 t2.si, .int .i64 t2.sr, .int .i64 t2.cl, .int .i64 t2.pt.kd, .int .i64 t2.pt.wh, .int .i64 t2.pt.sr, .int .i64 t2.pt.tr, .int .i64 t2.pt.pi, .int .i64 t2.pt.le, .int .i64 t2.pt.zo, .int .i64 t2.gd.kd, .int .i64 t2.gd.nn, .int .i64 t2.ac.kd, .int .i64 t2.ac.nn, .int .i64 t2.ac.pi, .int .i64 t2.ac.si, .int .i64 t2.ac.zo, .bool t2.ac.be, .slice t2.ac.la t2.ac.ln t2.ac.lcap, .int .i64 t2.un, .int .i64 t2.le] 44)
  have b1 := (boxR_new w 44 #[.int .i64 t1.id, .int .i64 t1.si, .int .i64 t1.sr, .int .i64 t1.cl, .int .i64 t1.pt.kd, .int .i64 t1.pt.wh, .int .i64 t1.pt.sr, .int .i64 t1.pt.tr, .int .i64 t1.pt.pi, .int .i64 t1.pt.le, .int .i64 t1.pt.zo, .int .i64 t1.gd.kd, .int .i64 t1.gd.nn, .int .i64 t1.ac.kd, .int .i64 t1.ac.nn, .int .i64 t1.ac.pi, .int .i64 t1.ac.si, .int .i64 t1.ac.zo, .bool t1.ac.be, .slice t1.ac.la t1.ac.ln t1.ac.lcap, .int .i64 t1.un, .int .i64 t1.le]).alloc (.cells #[.int .i64 t2.id, .int .i64 t2.si, .int .i64 t2.sr, .int .i64 t2.cl, .int .i64 t2.pt.kd, .int .i64 t2.pt.wh, .int .i64 t2.pt.sr, .int .i64 t2.pt.tr, .int .i64 t2.pt.pi, .int .i64 t2.pt.le, .int .i64 t2.pt.zo, .int .i64 t2.gd.kd, .int .i64 t2.gd.nn, .int .i64 t2.ac.kd, .int .i64 t2.ac.nn, .int .i64 t2.ac.pi, .int .i64 t2.ac.si, .int .i64 t2.ac.zo, .bool t2.ac.be, .slice t2.ac.la t2.ac.ln t2.ac.lcap, .int .i64 t2.un, .int .i64 t2.le] 44)
  have b2 : BoxR ((w.alloc (.cells #[.int .i64 t1.id, .int .i64 t1.si, .int .i64 t1.sr, .int .i64 t1.cl, .int .i64 t1.pt.kd, .int .i64 t1.pt.wh, .int .i64 t1.pt.sr, .int .i64 t1.pt.tr, .int .i64 t1.pt.pi, .int .i64 t1.pt.le, .int .i64 t1.pt.zo, .int .i64 t1.gd.kd, .int .i64 t1.gd.nn, .int .i64 t1.ac.kd, .int .i64 t1.ac.nn, .int .i64 t1.ac.pi, .int .i64 t1.ac.si, .int .i64 t1.ac.zo, .bool t1.ac.be, .slice t1.ac.la t1.ac.ln t1.ac.lcap, .int .i64 t1.un, .int .i64 t1.le] 44)).alloc (.cells #[.int .i64 t2.id, .int .i64 t2.si, .int .i64 t2.sr, .int .i64 t2.cl, .int .i64 t2.pt.kd, .int .i64 t2.pt.wh, .int .i64 t2.pt.sr, .int .i64 t2.pt.tr, .int .i64 t2.pt.pi, .int .i64 t2.pt.le, .int .i64 t2.pt.zo, .int .i64 t2.gd.kd, .int .i64 t2.gd.nn, .int .i64 t2.ac.kd, .int .i64 t2.ac.nn, .int .i64 t2.ac.pi, .int .i64 t2.ac.si, .int .i64 t2.ac.zo, .bool t2.ac.be, .slice t2.ac.la t2.ac.ln t2.ac.lcap, .int .i64 t2.un, .int .i64 t2.le] 44)) (w.heap.size + 1) 44 #[.int .i64 t2.id, .int .i64 t2.si, .int .i64 t2.sr, .int .i64 t2.cl, .int .i64 t2.pt.kd, .int .i64 t2.pt.wh, .int .i64 t2.pt.sr, .int .i64 t2.pt.tr, .int .i64 t2.pt.pi, .int .i64 t2.pt.le, .int .i64 t2.pt.zo, .int .i64 t2.gd.kd, .int .i64 t2.gd.nn, .int .i64 t2.ac.kd, .int .i64 t2.ac.nn, .int .i64 t2.ac.pi, .int .i64 t2.ac.si, .int .i64 t2.ac.zo, .bool t2.ac.be, .slice t2.ac.la t2.ac.ln t2.ac.lcap, .int .i64 t2.un, .int .i64 t2.le] := heap_alloc2_new _ _ _
  generalize hW : (w.alloc (.cells #[.int .i64 t1.id, .int .i64 t1.si, .int .i64 t1.sr, .int .i64 t1.cl, .int .i64 t1.pt.kd, .int .i64 t1.pt.wh, .int .i64 t1.pt.sr, .int .i64 t1.pt.tr, .int .i64 t1.pt.pi, .int .i64 t1.pt.le, .int .i64 t1.pt.zo, .int .i64 t1.gd.kd, .int .i64 t1.gd.nn, .int .i64 t1.ac.kd, .int .i64 t1.ac.nn, .int .i64 t1.ac.pi, .int .i64 t1.ac.si, .int .i64 t1.ac.zo, .bool t1.ac.be, .slice t1.ac.la t1.ac.ln t1.ac.lcap, .int .i64 t1.un, .int .i64 t1.le] 44)).alloc (.cells #[.int .i64 t2.id, .int .i64 t2.si, .int .i64 t2.sr, .int .i64 t2.cl, .int .i64 t2.pt.kd, .int .i64 t2.pt.wh, .int .i64 t2.pt.sr, .int .i64 t2.pt.tr, .int .i64 t2.pt.pi, .int .i64 t2.pt.le, .int .i64 t2.pt.zo, .int .i64 t2.gd.kd, .int .i64 t2.gd.nn, .int .i64 t2.ac.kd, .int .i64 t2.ac.nn, .int .i64 t2.ac.pi, .int .i64 t2.ac.si, .int .i64 t2.ac.zo, .bool t2.ac.be, .slice t2.ac.la t2.ac.ln t2.ac.lcap, .int .i64 t2.un, .int .i64 t2.le] 44) = W at HB b1 b2
  have q0 := (k1.id.trans k2.id.symm)
  have q1 := (k1.si.trans k2.si.symm)
  have q2 := (k1.sr.trans k2.sr.symm)
  have q3 := (k1.cl.trans k2.cl.symm)
  have q4 := (k1.pt.trans k2.pt.symm)
  have q5 := (k1.gd.trans k2.gd.symm)
  have q7 := (k1.un.trans k2.un.symm)
  have q8 := (k1.le.trans k2.le.symm)
  have EP : Hid (∀ u : World, Calls Tryz.prog 32 #[(.agg #[.int .i64 t1.pt.kd, .int .i64 t1.pt.wh, .int .i64 t1.pt.sr, .int .i64 t1.pt.tr, .int .i64 t1.pt.pi, .int .i64 t1.pt.le, .int .i64 t1.pt.zo]), (.agg #[.int .i64 t2.pt.kd, .int .i64 t2.pt.wh, .int .i64 t2.pt.sr, .int .i64 t2.pt.tr, .int .i64 t2.pt.pi, .int .i64 t2.pt.le, .int .i64 t2.pt.zo])] u fun e w' => e = .returned (.bool true) ∧ Below u.heap.size u w') := fun u => by have := eqPat_any t1.pt t2.pt u; rw [← q4, smPt_self] at this; rw [← q4]; exact this
  have EG : Hid (∀ u : World, Calls Tryz.prog 33 #[(.agg #[.int .i64 t1.gd.kd, .int .i64 t1.gd.nn]), (.agg #[.int .i64 t2.gd.kd, .int .i64 t2.gd.nn])] u fun e w' => e = .returned (.bool true) ∧ Below u.heap.size u w') := fun u => by have := eqGuard_any t1.gd t2.gd u; rw [← q5, smGd_self] at this; rw [← q5]; exact this
  have EA : Hid (∀ u : World, Below W.heap.size W u → Calls Tryz.prog 34 #[(.agg #[.int .i64 t1.ac.kd, .int .i64 t1.ac.nn, .int .i64 t1.ac.pi, .int .i64 t1.ac.si, .int .i64 t1.ac.zo, .bool t1.ac.be, .slice t1.ac.la t1.ac.ln t1.ac.lcap]), (.agg #[.int .i64 t2.ac.kd, .int .i64 t2.ac.nn, .int .i64 t2.ac.pi, .int .i64 t2.ac.si, .int .i64 t2.ac.zo, .bool t2.ac.be, .slice t2.ac.la t2.ac.ln t2.ac.lcap])] u fun e w' => e = .returned (.bool true) ∧ Below u.heap.size u w') := fun u hu => eqAct_alike t1.ac t2.ac a.ac u (OwnA.grew o1 (below_app HB hu HB.size)) (OwnA.grew o2 (below_app HB hu HB.size)) k1.ac k2.ac hn
  clear o1 o2 k1 k2 q4 q5
  have n0 : (t1.id != t2.id) = false := by rw [q0]; simp
  have n1 : (t1.si != t2.si) = false := by rw [q1]; simp
  have n2 : (t1.sr != t2.sr) = false := by rw [q2]; simp
  have n3 : (t1.cl != t2.cl) = false := by rw [q3]; simp
  have n7 : (t1.un != t2.un) = false := by rw [q7]; simp
  have n8 : (t1.le != t2.le) = false := by rw [q8]; simp
  clear q0 q1 q2 q3 q7 q8
  obtain ⟨c0, c1, c2, c3, c4, c5, c6, c7, c8, c9, c10, c11, c12, c13, c14, c15, c16, c17, c18, c19, c20, c21⟩ := b1.cells22
  obtain ⟨d0, d1, d2, d3, d4, d5, d6, d7, d8, d9, d10, d11, d12, d13, d14, d15, d16, d17, d18, d19, d20, d21⟩ := b2.cells22
  have h0 := Below.refl W.heap.size W
  go_enter Tryz.func11, Tryz.ntmps11
  go_wp2_with fail
  refine (EP.out _).mono ?_
  rintro e w1 ⟨rfl, hb⟩
  clear hW c0 c1 c2 c3 c4 c5 c6 c7 c8 c9 c10 c11 c12 c13 c14 c15 c16 c17 c18 c19 c20 c21 d0 d1 d2 d3 d4 d5 d6 d7 d8 d9 d10 d11 d12 d13 d14 d15 d16 d17 d18 d19 d20 d21 n0 n1 n2 n3
  replace b1 := b1.grew hb
  replace b2 := b2.grew hb
  replace h0 := below_app h0 hb h0.size
  clear hb
  as_aux_lemma =>
    obtain ⟨c0, c1, c2, c3, c4, c5, c6, c7, c8, c9, c10, c11, c12, c13, c14, c15, c16, c17, c18, c19, c20, c21⟩ := b1.cells22
    obtain ⟨d0, d1, d2, d3, d4, d5, d6, d7, d8, d9, d10, d11, d12, d13, d14, d15, d16, d17, d18, d19, d20, d21⟩ := b2.cells22
    go_wp2_with fail
    refine (EG.out _).mono ?_
    rintro e w2 ⟨rfl, hb⟩
    clear c0 c1 c2 c3 c4 c5 c6 c7 c8 c9 c10 c11 c12 c13 c14 c15 c16 c17 c18 c19 c20 c21 d0 d1 d2 d3 d4 d5 d6 d7 d8 d9 d10 d11 d12 d13 d14 d15 d16 d17 d18 d19 d20 d21
    replace b1 := b1.grew hb
    replace b2 := b2.grew hb
    replace h0 := below_app h0 hb h0.size
    clear hb
    as_aux_lemma =>
      obtain ⟨c0, c1, c2, c3, c4, c5, c6, c7, c8, c9, c10, c11, c12, c13, c14, c15, c16, c17, c18, c19, c20, c21⟩ := b1.cells22
      obtain ⟨d0, d1, d2, d3, d4, d5, d6, d7, d8, d9, d10, d11, d12, d13, d14, d15, d16, d17, d18, d19, d20, d21⟩ := b2.cells22
      go_wp2_with fail
      refine (EA.out _ h0).mono ?_
      rintro e w3 ⟨rfl, hb⟩
      clear c0 c1 c2 c3 c4 c5 c6 c7 c8 c9 c10 c11 c12 c13 c14 c15 c16 c17 c18 c19 c20 c21 d0 d1 d2 d3 d4 d5 d6 d7 d8 d9 d10 d11 d12 d13 d14 d15 d16 d17 d18 d19 d20 d21
      replace b1 := b1.grew hb
      replace b2 := b2.grew hb
      replace h0 := below_app h0 hb h0.size
      clear hb
      as_aux_lemma =>
        obtain ⟨c0, c1, c2, c3, c4, c5, c6, c7, c8, c9, c10, c11, c12, c13, c14, c15, c16, c17, c18, c19, c20, c21⟩ := b1.cells22
        obtain ⟨d0, d1, d2, d3, d4, d5, d6, d7, d8, d9, d10, d11, d12, d13, d14, d15, d16, d17, d18, d19, d20, d21⟩ := b2.cells22
        go_wp2
        go_ret
        exact ⟨rfl, below_app HB h0 HB.size⟩
end Go.Proofs.YtodfdfncdoliiauGreat
namespace Go.Proofs.YtodfdfncdoliiauGreat
open Go.ChangeShapes Go.WideShapes Go.ChangeAt Go.RowKit
set_option maxRecDepth 100000
set_option linter.unusedVariables false
set_option linter.unusedSimpArgs false

/-- the cells of an effect -/
def efC (x : Ef) : List Value := [.int .i64 x.id, .int .i64 x.si, .int .i64 x.sr, .int .i64 x.cl, .int .i64 x.pt.kd, .int .i64 x.pt.wh, .int .i64 x.pt.sr, .int .i64 x.pt.tr, .int .i64 x.pt.pi, .int .i64 x.pt.le, .int .i64 x.pt.zo, .int .i64 x.gd.kd, .int .i64 x.gd.nn, .int .i64 x.ac.kd, .int .i64 x.ac.nn, .int .i64 x.ac.pi, .int .i64 x.ac.si, .int .i64 x.ac.zo, .bool x.ac.be, .slice x.ac.la x.ac.ln x.ac.lcap, .int .i64 x.un, .int .i64 x.le]
theorem efC_ne (x : Ef) : efC x ≠ [] := by unfold efC; simp
theorem efC_len (x : Ef) : (efC x).length = 22 := rfl
theorem efC_arr (x : Ef) : (efC x).toArray = #[.int .i64 x.id, .int .i64 x.si, .int .i64 x.sr, .int .i64 x.cl, .int .i64 x.pt.kd, .int .i64 x.pt.wh, .int .i64 x.pt.sr, .int .i64 x.pt.tr, .int .i64 x.pt.pi, .int .i64 x.pt.le, .int .i64 x.pt.zo, .int .i64 x.gd.kd, .int .i64 x.gd.nn, .int .i64 x.ac.kd, .int .i64 x.ac.nn, .int .i64 x.ac.pi, .int .i64 x.ac.si, .int .i64 x.ac.zo, .bool x.ac.be, .slice x.ac.la x.ac.ln x.ac.lcap, .int .i64 x.un, .int .i64 x.le] := rfl
theorem efC_one (n : Nat) (f : Nat → Ef) : ∀ u ∈ valsE efC n f, u.oneCell' = true := by
  intro u hu
  unfold valsE at hu
  obtain ⟨i, _, hi⟩ := List.mem_flatMap.1 hu
  simp only [efC, List.mem_cons, List.mem_nil_iff, or_false] at hi
  rcases hi with rfl | rfl | rfl | rfl | rfl | rfl | rfl | rfl | rfl | rfl | rfl | rfl | rfl | rfl | rfl | rfl | rfl | rfl | rfl | rfl | rfl | rfl <;> rfl
theorem Tryz.infoEf : (Tryz.prog.info? 44).map (fun i => (i.zero, i.size, i.bytes)) = some (some (.agg #[.int .i64 0, .int .i64 0, .int .i64 0, .int .i64 0, .int .i64 0, .int .i64 0, .int .i64 0, .int .i64 0, .int .i64 0, .int .i64 0, .int .i64 0, .int .i64 0, .int .i64 0, .int .i64 0, .int .i64 0, .int .i64 0, .int .i64 0, .int .i64 0, .bool false, .slice none 0 0, .int .i64 0, .int .i64 0]), 22, 192) := by kernel_rfl
def zEf : Ef := ⟨0, 0, 0, 0, ⟨0, 0, 0, 0, 0, 0, 0⟩, ⟨0, 0⟩, ⟨0, 0, 0, 0, 0, false, none, 0, 0, 0, fun _ => ⟨0, 0, 0, 0, 0, 0, false⟩⟩, 0, 0⟩
theorem made_effect (n : Nat) : (madeCells #[.int .i64 0, .int .i64 0, .int .i64 0, .int .i64 0, .int .i64 0, .int .i64 0, .int .i64 0, .int .i64 0, .int .i64 0, .int .i64 0, .int .i64 0, .int .i64 0, .int .i64 0, .int .i64 0, .int .i64 0, .int .i64 0, .int .i64 0, .int .i64 0, .bool false, .slice none 0 0, .int .i64 0, .int .i64 0] (n * 22)).toList = valsE efC n (fun _ => zEf) := by
  refine valsE_ext efC_len (by simp [madeCells]) (fun i j hi hj => ?_)
  unfold madeCells
  have hlt : i * 22 + j < n * 22 := by omega
  simp only [Array.toList_map, Array.toList_range, List.getElem?_map, List.getElem?_range hlt, Option.map_some, List.size_toArray, List.length_cons, List.length_nil]
  rw [show (i * 22 + j) % (0 + 1 + 1 + 1 + 1 + 1 + 1 + 1 + 1 + 1 + 1 + 1 + 1 + 1 + 1 + 1 + 1 + 1 + 1 + 1 + 1 + 1 + 1) = j by omega]
  have : j = 0 ∨ j = 1 ∨ j = 2 ∨ j = 3 ∨ j = 4 ∨ j = 5 ∨ j = 6 ∨ j = 7 ∨ j = 8 ∨ j = 9 ∨ j = 10 ∨ j = 11 ∨ j = 12 ∨ j = 13 ∨ j = 14 ∨ j = 15 ∨ j = 16 ∨ j = 17 ∨ j = 18 ∨ j = 19 ∨ j = 20 ∨ j = 21 := by omega
  rcases this with rfl | rfl | rfl | rfl | rfl | rfl | rfl | rfl | rfl | rfl | rfl | rfl | rfl | rfl | rfl | rfl | rfl | rfl | rfl | rfl | rfl | rfl <;> rfl
theorem effect_of_cells {H : Type} {enc : TypeId × Value → H} {w : World} {base : Nat} {spare : TypeId → Bool} {held : Bool} {cs : List Value} {x : DataW H × List MemPlace} {fuel : Nat} (h : DataW.trod enc Tryz.prog w base spare held fuel 31 cs = some x) (hl : cs.length = 22) : ∃ a : Ef, cs = efC a ∧ a.ok w := by
  obtain ⟨xs, n, _, _, _, hlen, hx⟩ := DataW.trod_struct Tryz.underlying31 h
  have hf : ∀ (i : Nat) (f : Field), _ → ∃ n y, DataW.trod enc Tryz.prog w base spare held n f.type ((cs.drop f.offset).take (Tryz.prog.cellsOf f.type)) = some y := fun i f hfi => by
    have h1 := hx i f hfi
    have hi : i < xs.length := by rw [hlen]; exact (Array.getElem?_eq_some_iff.1 hfi).1
    rw [List.getElem?_eq_getElem hi] at h1
    exact ⟨n, _, h1⟩
  obtain ⟨c0, c1, c2, c3, c4, c5, c6, c7, c8, c9, c10, c11, c12, c13, c14, c15, c16, c17, c18, c19, c20, c21, rfl⟩ := list22 (l := cs) hl
  obtain ⟨n0, y0, t0⟩ := hf 0 _ rfl
  replace t0 : DataW.trod enc Tryz.prog w base spare held n0 3 [c0] = some y0 := t0
  obtain ⟨a0, e0, _, u0⟩ := DataW.trod_int Tryz.underlying3 t0
  obtain ⟨n1, y1, t1⟩ := hf 1 _ rfl
  replace t1 : DataW.trod enc Tryz.prog w base spare held n1 3 [c1] = some y1 := t1
  obtain ⟨a1, e1, _, u1⟩ := DataW.trod_int Tryz.underlying3 t1
  obtain ⟨n2, y2, t2⟩ := hf 2 _ rfl
  replace t2 : DataW.trod enc Tryz.prog w base spare held n2 3 [c2] = some y2 := t2
  obtain ⟨a2, e2, _, u2⟩ := DataW.trod_int Tryz.underlying3 t2
  obtain ⟨n3, y3, t3⟩ := hf 3 _ rfl
  replace t3 : DataW.trod enc Tryz.prog w base spare held n3 3 [c3] = some y3 := t3
  obtain ⟨a3, e3, _, u3⟩ := DataW.trod_int Tryz.underlying3 t3
  obtain ⟨n4, y4, t4⟩ := hf 4 _ rfl
  replace t4 : DataW.trod enc Tryz.prog w base spare held n4 24 [c4, c5, c6, c7, c8, c9, c10] = some y4 := t4
  obtain ⟨n5, y5, t5⟩ := hf 5 _ rfl
  replace t5 : DataW.trod enc Tryz.prog w base spare held n5 26 [c11, c12] = some y5 := t5
  obtain ⟨n6, y6, t6⟩ := hf 6 _ rfl
  replace t6 : DataW.trod enc Tryz.prog w base spare held n6 29 [c13, c14, c15, c16, c17, c18, c19] = some y6 := t6
  obtain ⟨n7, y7, t7⟩ := hf 7 _ rfl
  replace t7 : DataW.trod enc Tryz.prog w base spare held n7 3 [c20] = some y7 := t7
  obtain ⟨a7, e7, _, u7⟩ := DataW.trod_int Tryz.underlying3 t7
  obtain ⟨n8, y8, t8⟩ := hf 8 _ rfl
  replace t8 : DataW.trod enc Tryz.prog w base spare held n8 3 [c21] = some y8 := t8
  obtain ⟨a8, e8, _, u8⟩ := DataW.trod_int Tryz.underlying3 t8
  obtain ⟨pt, e4, w4⟩ := pat_of_cells t4
  obtain ⟨gd, e5, w5⟩ := guard_of_cells t5
  obtain ⟨ac, e6, w6⟩ := act_of_cells t6
  simp only [List.cons.injEq, and_true] at e0 e1 e2 e3 e4 e5 e6 e7 e8
  obtain ⟨rfl, rfl, rfl, rfl, rfl, rfl, rfl⟩ := e4
  obtain ⟨rfl, rfl⟩ := e5
  obtain ⟨rfl, rfl, rfl, rfl, rfl, rfl, rfl⟩ := e6
  subst e0 e1 e2 e3 e7 e8
  refine ⟨⟨a0, a1, a2, a3, pt, gd, ac, a7, a8⟩, rfl, w6, fun x hx => ?_, w4, w5⟩
  simp only [List.mem_cons, List.mem_nil_iff, or_false] at hx
  rcases hx with rfl | rfl | rfl | rfl | rfl | rfl <;> assumption
/-- a list of effects as it came in -/
structure Tb where
  (p : Option Addr)
  (n cap b : Nat)
  (f : Nat → Ef)
def Tb.ok (t : Tb) (w : World) : Prop := t.n ≤ t.cap ∧ t.cap ≤ maxLen ∧ RdE efC 22 w t.b t.p t.n t.f ∧ ∀ i, i < t.n → (t.f i).ok w
theorem open_effects {H : Type} {enc : TypeId × Value → H} {w : World} {base : Nat} {spare : TypeId → Bool} {held : Bool} {r : Reach} {b0 : Nat} {v : Value} {d : DataW H} {p : List MemPlace} (hv : Value.okWide Tryz.prog w r b0 22 v) (h : DataW.Trod enc Tryz.prog w base spare held 22 v d p) :
    ∃ t : Tb, v = .slice t.p t.n t.cap ∧ t.ok w := by
  obtain ⟨fuel, hf⟩ := h
  obtain ⟨a', len', cap', rfl⟩ := okWide_slice Tryz.underlying22 hv
  rcases Deep.open_slice Tryz.underlying22 hf with ⟨hcs, _⟩ | ⟨a, len, cap, m, k, D, Pl, hcs, _, hl, hm, hmm, _, hx⟩
  · simp [Value.cells] at hcs
    obtain ⟨rfl, rfl, rfl⟩ := hcs
    exact ⟨⟨none, 0, 0, 0, fun _ => zEf⟩, rfl, Nat.le_refl _, Nat.zero_le _, .inl rfl, fun i hi => absurd hi (Nat.not_lt_zero i)⟩
  · simp [Value.cells] at hcs
    obtain ⟨rfl, rfl, rfl⟩ := hcs
    have hce : (Tryz.prog).cellsOf 31 = 22 := by kernel_rfl
    have hlm : len' ≤ m := by rw [hmm]; split <;> omega
    have each : ∀ i, i < m → ∃ q : Ef, (∀ j u, (efC q)[j]? = some u → w.cell? ((a.add (i * 22)).add j) = some u) ∧ q.ok w := by
      intro i hi
      obtain ⟨cs', h1, h2⟩ := hx i hi
      rw [hce] at h1
      obtain ⟨_, hlen, hcell⟩ := World.cells?_some h1
      obtain ⟨q, rfl, hq⟩ := effect_of_cells h2 hlen
      refine ⟨q, fun j u hu => ?_, hq⟩
      have hj : j < 22 := by rw [← hlen]; exact (List.getElem?_eq_some_iff.1 hu).1
      rw [hcell j hj]; exact hu
    have hin : Inhabited Ef := ⟨zEf⟩
    obtain ⟨q, hq⟩ := Deep.choose_lt each
    by_cases h0 : len' = 0
    · exact ⟨⟨some a, len', cap', 0, q⟩, rfl, hl, hm, .inl h0, fun i hi => by dsimp only at hi; omega⟩
    · obtain ⟨b, off, spot⟩ := a
      have c0 := (hq 0 (by omega)).1 0 _ rfl
      have hspot : spot = none := by
        have := World.cell?_spot c0
        simpa [Addr.add] using this
      subst hspot
      refine ⟨⟨some ⟨b, off, none⟩, len', cap', b, q⟩, rfl, hl, hm, .inr ⟨off, rfl, fun i hi j u hu => ?_⟩, fun i hi => (hq i (by dsimp only at hi; omega)).2⟩
      dsimp only at hi
      have := (hq i (by omega)).1 j u hu
      rw [Go.WideShapes.add_plain, Go.WideShapes.add_plain] at this
      exact this
theorem Tb.ok.grew {t : Tb} {w w' : World} (h : t.ok w) (hb : Below w.heap.size w w') : t.ok w' := ⟨h.1, h.2.1, h.2.2.1.grew efC_ne hb, fun i hi => ef_grew (h.2.2.2 i hi) hb⟩
/-- they say the same, effect by effect -/
structure AlikeT (t a : Tb) : Prop where
  n : t.n = a.n
  f : ∀ i, i < a.n → AlikeF (t.f i) (a.f i)
/-- the call's own: the row and each list -/
def OwnTb (w : World) (B : Nat) (t : Tb) : Prop := t.n ≤ t.cap ∧ t.cap ≤ maxLen ∧ OwnE efC 22 w B t.b t.p t.n t.f ∧ (∀ i, i < t.n → OwnF w B (t.f i) ∧ (t.f i).ac.lb ≠ t.b) ∧ ∀ i j, i < j → j < t.n → (t.f i).ac.lb ≠ (t.f j).ac.lb
theorem OwnTb.grew {w w' : World} {B : Nat} {t : Tb} (h : OwnTb w B t) (hb : Below w.heap.size w w') : OwnTb w' B t := ⟨h.1, h.2.1, h.2.2.1.grew hb, fun i hi => ⟨OwnF.grew (h.2.2.2.1 i hi).1 hb, (h.2.2.2.1 i hi).2⟩, h.2.2.2.2⟩
theorem okT11 {t a : Tb} {w w0 : World} {B : Nat} (h : OwnTb w B t) (k : AlikeT t a) (hs : a.ok w0) : t.ok w := ⟨h.1, h.2.1, h.2.2.1.rd, fun i hi => okT10 (h.2.2.2.1 i hi).1 (k.f i (by rw [← k.n]; exact hi)) (hs.2.2.2 i (by rw [← k.n]; exact hi))⟩
theorem AlikeT.symm_trans {s t a : Tb} (h : AlikeT s a) (k : AlikeT t a) : s.n = t.n := h.n.trans k.n.symm
end Go.Proofs.YtodfdfncdoliiauGreat
