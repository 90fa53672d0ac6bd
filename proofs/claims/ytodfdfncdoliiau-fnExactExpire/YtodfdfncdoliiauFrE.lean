/-
  Chapter 10, the program: freshEffect: an effect with a list of its own. Written by tools/tai.gen.py. Own work.
-/
import Derived.Test.YtodfdfncdoliiauSpB
import Derived.Deep.DeepCutAuto
import Derived.Deep.CutBlock
import Derived.Laws.OwnMore
namespace Go.Proofs.Ytodfdfncdoliiau
open Go.ChangeShapes Go.WideShapes Go.ChangeAt Go.RowKit
set_option maxRecDepth 100000
set_option linter.unusedVariables false
set_option linter.unusedSimpArgs false

set_option maxHeartbeats 4000000 in
theorem fresh_any (a : Ef) (w : World) (hok : a.okW w) (hn : a.ac.ln ≤ 1048577) : Calls Try.prog 67 #[(.agg #[.int .i64 a.id, .int .i64 a.si, .int .i64 a.sr, .int .i64 a.cl, .int .i64 a.pt.kd, .int .i64 a.pt.wh, .int .i64 a.pt.sr, .int .i64 a.pt.tr, .int .i64 a.pt.pi, .int .i64 a.pt.le, .int .i64 a.pt.zo, .int .i64 a.gd.kd, .int .i64 a.gd.nn, .int .i64 a.ac.kd, .int .i64 a.ac.nn, .int .i64 a.ac.pi, .int .i64 a.ac.si, .int .i64 a.ac.zo, .bool a.ac.be, .slice a.ac.la a.ac.ln a.ac.lcap, .int .i64 a.un, .int .i64 a.le])] w fun e w' => ∃ t : Ef, e = .returned (.agg #[.int .i64 t.id, .int .i64 t.si, .int .i64 t.sr, .int .i64 t.cl, .int .i64 t.pt.kd, .int .i64 t.pt.wh, .int .i64 t.pt.sr, .int .i64 t.pt.tr, .int .i64 t.pt.pi, .int .i64 t.pt.le, .int .i64 t.pt.zo, .int .i64 t.gd.kd, .int .i64 t.gd.nn, .int .i64 t.ac.kd, .int .i64 t.ac.nn, .int .i64 t.ac.pi, .int .i64 t.ac.si, .int .i64 t.ac.zo, .bool t.ac.be, .slice t.ac.la t.ac.ln t.ac.lcap, .int .i64 t.un, .int .i64 t.le]) ∧ Below w.heap.size w w' ∧ OwnF w' w.heap.size t ∧ AlikeF t a := by
  have HB := ((Below.refl _ w).alloc (Nat.le_refl _) (.cells #[.int .i64 a.id, .int .i64 a.si, .int .i64 a.sr, .int .i64 a.cl, .int .i64 a.pt.kd, .int .i64 a.pt.wh, .int .i64 a.pt.sr, .int .i64 a.pt.tr, .int .i64 a.pt.pi, .int .i64 a.pt.le, .int .i64 a.pt.zo, .int .i64 a.gd.kd, .int .i64 a.gd.nn, .int .i64 a.ac.kd, .int .i64 a.ac.nn, .int .i64 a.ac.pi, .int .i64 a.ac.si, .int .i64 a.ac.zo, .bool a.ac.be, .slice a.ac.la a.ac.ln a.ac.lcap, .int .i64 a.un, .int .i64 a.le] 49)).alloc (by simp) (.cells #[.int .i64 0, .int .i64 0, .int .i64 0, .int .i64 0, .int .i64 0, .int .i64 0, .int .i64 0, .int .i64 0, .int .i64 0, .int .i64 0, .int .i64 0, .int .i64 0, .int .i64 0, .int .i64 0, .int .i64 0, .int .i64 0, .int .i64 0, .int .i64 0, .bool false, .slice none 0 0, .int .i64 0, .int .i64 0] 49)
  have x1 := (boxR_new w 49 #[.int .i64 a.id, .int .i64 a.si, .int .i64 a.sr, .int .i64 a.cl, .int .i64 a.pt.kd, .int .i64 a.pt.wh, .int .i64 a.pt.sr, .int .i64 a.pt.tr, .int .i64 a.pt.pi, .int .i64 a.pt.le, .int .i64 a.pt.zo, .int .i64 a.gd.kd, .int .i64 a.gd.nn, .int .i64 a.ac.kd, .int .i64 a.ac.nn, .int .i64 a.ac.pi, .int .i64 a.ac.si, .int .i64 a.ac.zo, .bool a.ac.be, .slice a.ac.la a.ac.ln a.ac.lcap, .int .i64 a.un, .int .i64 a.le]).alloc (.cells #[.int .i64 0, .int .i64 0, .int .i64 0, .int .i64 0, .int .i64 0, .int .i64 0, .int .i64 0, .int .i64 0, .int .i64 0, .int .i64 0, .int .i64 0, .int .i64 0, .int .i64 0, .int .i64 0, .int .i64 0, .int .i64 0, .int .i64 0, .int .i64 0, .bool false, .slice none 0 0, .int .i64 0, .int .i64 0] 49)
  have x2 : BoxR ((w.alloc (.cells #[.int .i64 a.id, .int .i64 a.si, .int .i64 a.sr, .int .i64 a.cl, .int .i64 a.pt.kd, .int .i64 a.pt.wh, .int .i64 a.pt.sr, .int .i64 a.pt.tr, .int .i64 a.pt.pi, .int .i64 a.pt.le, .int .i64 a.pt.zo, .int .i64 a.gd.kd, .int .i64 a.gd.nn, .int .i64 a.ac.kd, .int .i64 a.ac.nn, .int .i64 a.ac.pi, .int .i64 a.ac.si, .int .i64 a.ac.zo, .bool a.ac.be, .slice a.ac.la a.ac.ln a.ac.lcap, .int .i64 a.un, .int .i64 a.le] 49)).alloc (.cells #[.int .i64 0, .int .i64 0, .int .i64 0, .int .i64 0, .int .i64 0, .int .i64 0, .int .i64 0, .int .i64 0, .int .i64 0, .int .i64 0, .int .i64 0, .int .i64 0, .int .i64 0, .int .i64 0, .int .i64 0, .int .i64 0, .int .i64 0, .int .i64 0, .bool false, .slice none 0 0, .int .i64 0, .int .i64 0] 49)) (w.heap.size + 1) 49 #[.int .i64 0, .int .i64 0, .int .i64 0, .int .i64 0, .int .i64 0, .int .i64 0, .int .i64 0, .int .i64 0, .int .i64 0, .int .i64 0, .int .i64 0, .int .i64 0, .int .i64 0, .int .i64 0, .int .i64 0, .int .i64 0, .int .i64 0, .int .i64 0, .bool false, .slice none 0 0, .int .i64 0, .int .i64 0] := heap_alloc2_new _ _ _
  generalize hW : (w.alloc (.cells #[.int .i64 a.id, .int .i64 a.si, .int .i64 a.sr, .int .i64 a.cl, .int .i64 a.pt.kd, .int .i64 a.pt.wh, .int .i64 a.pt.sr, .int .i64 a.pt.tr, .int .i64 a.pt.pi, .int .i64 a.pt.le, .int .i64 a.pt.zo, .int .i64 a.gd.kd, .int .i64 a.gd.nn, .int .i64 a.ac.kd, .int .i64 a.ac.nn, .int .i64 a.ac.pi, .int .i64 a.ac.si, .int .i64 a.ac.zo, .bool a.ac.be, .slice a.ac.la a.ac.ln a.ac.lcap, .int .i64 a.un, .int .i64 a.le] 49)).alloc (.cells #[.int .i64 0, .int .i64 0, .int .i64 0, .int .i64 0, .int .i64 0, .int .i64 0, .int .i64 0, .int .i64 0, .int .i64 0, .int .i64 0, .int .i64 0, .int .i64 0, .int .i64 0, .int .i64 0, .int .i64 0, .int .i64 0, .int .i64 0, .int .i64 0, .bool false, .slice none 0 0, .int .i64 0, .int .i64 0] 49) = W at HB x1 x2
  have r1 := hok.1.2.2.1.grew evC_ne HB
  have k19 := x1.cell 19
  simp at k19
  have hwl := x2.lt
  go_enter Try.func67, Try.ntmps67
  go_wp2_with fail
  refine (cloneEv_any a.ac.la a.ac.lb a.ac.ln a.ac.lcap a.ac.es _ hn r1).mono ?_
  rintro e w3 ⟨la, cap, rfl, hc1, hc2, hb, oL⟩
  clear k19 r1 hW
  have hV : w.heap.size + 1 < W.heap.size := hwl
  replace x1 := x1.grew hb
  replace x2 := x2.grew hb
  replace HB := below_app HB hb HB.size
  clear hb
  have k19 := x1.cell 19
  have f19 := x1.froz 19
  simp at k19
  have z1 := x1.put 19 (.slice la a.ac.ln cap)
  have z2 := x2.other (q := ⟨w.heap.size, 19, none⟩) (by simp) (.slice la a.ac.ln cap)
  have zb := HB.setCell (p := ⟨w.heap.size, 19, none⟩) (Nat.le_refl _) (.slice la a.ac.ln cap)
  simp only [List.setIfInBounds_toArray, List.set_cons_zero, List.set_cons_succ] at z1
  have zo : ∃ lb, w.heap.size ≤ lb ∧ lb < (w3.setCell ⟨w.heap.size, 19, none⟩ (.slice la a.ac.ln cap)).heap.size ∧ lb ≠ w.heap.size + 1 ∧ RdE evC 7 (w3.setCell ⟨w.heap.size, 19, none⟩ (.slice la a.ac.ln cap)) lb la a.ac.ln a.ac.es ∧ Free (w3.setCell ⟨w.heap.size, 19, none⟩ (.slice la a.ac.ln cap)) lb := by
    rcases oL with ⟨h1, h2⟩ | ⟨q, hq_, oq⟩
    · exact ⟨w.heap.size, Nat.le_refl _, z1.lt, by omega, .inl h1, free_row z1⟩
    · have oq' := oq.setCell (q := ⟨w.heap.size, 19, none⟩) (by have := oq.1; simp; omega) (.slice la a.ac.ln cap)
      exact ⟨q, by have := oq.1; omega, oq'.2.1, by have := oq.1; omega, oq'.2.2⟩
  go_upto_region 2 with fail
  generalize hU : w3.setCell ⟨w.heap.size, 19, none⟩ (.slice la a.ac.ln cap) = U at z1 z2 zb zo ⊢
  clear x1 x2 HB k19 f19 oL hU
  obtain ⟨lb, zo1, zo2, zo3, zo4, zo5⟩ := zo
  as_aux_lemma =>
    go_wp2_with first | (refine wpList_load_row rfl 49 _ rfl (w.heap.size) (by rfl) _ _ _ _ z1 Try.underlying49 rfl (by kernel_rfl) ?_) | (refine wpList_store_row rfl 49 (.tmp 2) _ rfl (w.heap.size + 1) _ (by rfl) (by rfl) _ _ z2 (by kernel_rfl) (by rfl) (by simp [Value.oneCell']) ?_)
    (try simp only [Exit.inBlock, Exit.then]); refine bodyPost_ret (results_cell_row rfl _ _ (w.heap.size + 1) _ _ _ _ rfl (setRow_heap _ _ _ _ _ _ z2) Try.underlying49 rfl (by kernel_rfl)) rfl ?_
    exact ⟨⟨a.id, a.si, a.sr, a.cl, a.pt, a.gd, ⟨a.ac.kd, a.ac.nn, a.ac.pi, a.ac.si, a.ac.zo, a.ac.be, la, a.ac.ln, cap, lb, a.ac.es⟩, a.un, a.le⟩, rfl, below_setRow zb (by omega) _, ⟨hc1, hc2, OwnE.setRow (g := w.heap.size + 1) ⟨zo1, zo2, zo4, zo5⟩ zo3 _⟩, ⟨rfl, rfl, rfl, rfl, rfl, rfl, ⟨rfl, rfl, rfl, rfl, rfl, rfl, rfl, rfl⟩, rfl, rfl⟩⟩
end Go.Proofs.Ytodfdfncdoliiau
