/-
  Chapter 10, the program: Spent (spE). Written by tools/sp.gen.py. Own work.
-/
import Derived.Test.YtdcgobngmdhmaadSpB
import Derived.Deep.DeepCutAuto
import Derived.Deep.CutBlock
import Derived.Laws.OwnMore
namespace Go.Proofs.Ytdcgobngmdhmaad
open Go.ChangeShapes Go.WideShapes Go.ChangeAt Go.RowKit
set_option maxRecDepth 100000
set_option linter.unusedVariables false
set_option linter.unusedSimpArgs false

set_option maxHeartbeats 4000000 in
theorem isp_0 (a : Ef) (n : Int) (w : World) (hok : a.okW w) (hn : a.ac.ln ≤ 1048577) (h0 : (a.ac.kd == 2) = true) : Calls Try.prog 6 #[(.agg #[.int .i64 a.id, .int .i64 a.si, .int .i64 a.sr, .int .i64 a.cl, .int .i64 a.pt.kd, .int .i64 a.pt.wh, .int .i64 a.pt.sr, .int .i64 a.pt.tr, .int .i64 a.pt.pi, .int .i64 a.pt.le, .int .i64 a.pt.zo, .int .i64 a.gd.kd, .int .i64 a.gd.nn, .int .i64 a.ac.kd, .int .i64 a.ac.nn, .int .i64 a.ac.pi, .int .i64 a.ac.si, .int .i64 a.ac.zo, .bool a.ac.be, .slice a.ac.la a.ac.ln a.ac.lcap, .int .i64 a.un, .int .i64 a.le]), .int .i64 n] w fun e w' => ∃ t : Ef, e = .returned (.agg #[.int .i64 t.id, .int .i64 t.si, .int .i64 t.sr, .int .i64 t.cl, .int .i64 t.pt.kd, .int .i64 t.pt.wh, .int .i64 t.pt.sr, .int .i64 t.pt.tr, .int .i64 t.pt.pi, .int .i64 t.pt.le, .int .i64 t.pt.zo, .int .i64 t.gd.kd, .int .i64 t.gd.nn, .int .i64 t.ac.kd, .int .i64 t.ac.nn, .int .i64 t.ac.pi, .int .i64 t.ac.si, .int .i64 t.ac.zo, .bool t.ac.be, .slice t.ac.la t.ac.ln t.ac.lcap, .int .i64 t.un, .int .i64 t.le]) ∧ Below w.heap.size w w' ∧ OwnF w' w.heap.size t ∧ AlikeF t (spE a n) := by
  have HL : Hid (lfE a n = (up (ls a.le n) 2147483647)) := by show _ = _; unfold lfE; simp at h0; simp [*]
  have HM : (if ls a.le n > 0 then ls a.le n else 0) = (up (ls a.le n) 2147483647) := by have h9 : -2147483647 ≤ ls a.le n ∧ ls a.le n ≤ 2147483647 := bnd_rng _; unfold up upt; (repeat' split) <;> omega
  have HB := ((Below.refl _ w).alloc (Nat.le_refl _) (.cells #[.int .i64 a.id, .int .i64 a.si, .int .i64 a.sr, .int .i64 a.cl, .int .i64 a.pt.kd, .int .i64 a.pt.wh, .int .i64 a.pt.sr, .int .i64 a.pt.tr, .int .i64 a.pt.pi, .int .i64 a.pt.le, .int .i64 a.pt.zo, .int .i64 a.gd.kd, .int .i64 a.gd.nn, .int .i64 a.ac.kd, .int .i64 a.ac.nn, .int .i64 a.ac.pi, .int .i64 a.ac.si, .int .i64 a.ac.zo, .bool a.ac.be, .slice a.ac.la a.ac.ln a.ac.lcap, .int .i64 a.un, .int .i64 a.le] 32)).alloc (by simp) (.cells #[.int .i64 0, .int .i64 0, .int .i64 0, .int .i64 0, .int .i64 0, .int .i64 0, .int .i64 0, .int .i64 0, .int .i64 0, .int .i64 0, .int .i64 0, .int .i64 0, .int .i64 0, .int .i64 0, .int .i64 0, .int .i64 0, .int .i64 0, .int .i64 0, .bool false, .slice none 0 0, .int .i64 0, .int .i64 0] 32)
  have x1 := (boxR_new w 32 #[.int .i64 a.id, .int .i64 a.si, .int .i64 a.sr, .int .i64 a.cl, .int .i64 a.pt.kd, .int .i64 a.pt.wh, .int .i64 a.pt.sr, .int .i64 a.pt.tr, .int .i64 a.pt.pi, .int .i64 a.pt.le, .int .i64 a.pt.zo, .int .i64 a.gd.kd, .int .i64 a.gd.nn, .int .i64 a.ac.kd, .int .i64 a.ac.nn, .int .i64 a.ac.pi, .int .i64 a.ac.si, .int .i64 a.ac.zo, .bool a.ac.be, .slice a.ac.la a.ac.ln a.ac.lcap, .int .i64 a.un, .int .i64 a.le]).alloc (.cells #[.int .i64 0, .int .i64 0, .int .i64 0, .int .i64 0, .int .i64 0, .int .i64 0, .int .i64 0, .int .i64 0, .int .i64 0, .int .i64 0, .int .i64 0, .int .i64 0, .int .i64 0, .int .i64 0, .int .i64 0, .int .i64 0, .int .i64 0, .int .i64 0, .bool false, .slice none 0 0, .int .i64 0, .int .i64 0] 32)
  have x2 : BoxR ((w.alloc (.cells #[.int .i64 a.id, .int .i64 a.si, .int .i64 a.sr, .int .i64 a.cl, .int .i64 a.pt.kd, .int .i64 a.pt.wh, .int .i64 a.pt.sr, .int .i64 a.pt.tr, .int .i64 a.pt.pi, .int .i64 a.pt.le, .int .i64 a.pt.zo, .int .i64 a.gd.kd, .int .i64 a.gd.nn, .int .i64 a.ac.kd, .int .i64 a.ac.nn, .int .i64 a.ac.pi, .int .i64 a.ac.si, .int .i64 a.ac.zo, .bool a.ac.be, .slice a.ac.la a.ac.ln a.ac.lcap, .int .i64 a.un, .int .i64 a.le] 32)).alloc (.cells #[.int .i64 0, .int .i64 0, .int .i64 0, .int .i64 0, .int .i64 0, .int .i64 0, .int .i64 0, .int .i64 0, .int .i64 0, .int .i64 0, .int .i64 0, .int .i64 0, .int .i64 0, .int .i64 0, .int .i64 0, .int .i64 0, .int .i64 0, .int .i64 0, .bool false, .slice none 0 0, .int .i64 0, .int .i64 0] 32)) (w.heap.size + 1) 32 #[.int .i64 0, .int .i64 0, .int .i64 0, .int .i64 0, .int .i64 0, .int .i64 0, .int .i64 0, .int .i64 0, .int .i64 0, .int .i64 0, .int .i64 0, .int .i64 0, .int .i64 0, .int .i64 0, .int .i64 0, .int .i64 0, .int .i64 0, .int .i64 0, .bool false, .slice none 0 0, .int .i64 0, .int .i64 0] := heap_alloc2_new _ _ _
  generalize hW : (w.alloc (.cells #[.int .i64 a.id, .int .i64 a.si, .int .i64 a.sr, .int .i64 a.cl, .int .i64 a.pt.kd, .int .i64 a.pt.wh, .int .i64 a.pt.sr, .int .i64 a.pt.tr, .int .i64 a.pt.pi, .int .i64 a.pt.le, .int .i64 a.pt.zo, .int .i64 a.gd.kd, .int .i64 a.gd.nn, .int .i64 a.ac.kd, .int .i64 a.ac.nn, .int .i64 a.ac.pi, .int .i64 a.ac.si, .int .i64 a.ac.zo, .bool a.ac.be, .slice a.ac.la a.ac.ln a.ac.lcap, .int .i64 a.un, .int .i64 a.le] 32)).alloc (.cells #[.int .i64 0, .int .i64 0, .int .i64 0, .int .i64 0, .int .i64 0, .int .i64 0, .int .i64 0, .int .i64 0, .int .i64 0, .int .i64 0, .int .i64 0, .int .i64 0, .int .i64 0, .int .i64 0, .int .i64 0, .int .i64 0, .int .i64 0, .int .i64 0, .bool false, .slice none 0 0, .int .i64 0, .int .i64 0] 32) = W at HB x1 x2
  have k13 := x1.cell 13
  have k21 := x1.cell 21
  simp at k13 k21
  go_enter Try.func6, Try.ntmps6
  go_wp2_with fail
  refine (implLess_b a.le n (Below.refl W.heap.size W) (Nat.le_refl _)).mono ?_
  rintro e w1 ⟨rfl, hb, _⟩
  clear k13 k21 hW
  replace x1 := x1.grew hb
  replace x2 := x2.grew hb
  replace HB := below_app HB hb HB.size
  clear hb
  have k21 := x1.cell 21
  have f21 := x1.froz 21
  simp at k21
  have y1 := x1.put 21 (.int .i64 (up (ls a.le n) 2147483647))
  have y2 := x2.other (q := ⟨w.heap.size, 21, none⟩) (by simp) (.int .i64 (up (ls a.le n) 2147483647))
  have yb := HB.setCell (p := ⟨w.heap.size, 21, none⟩) (Nat.le_refl _) (.int .i64 (up (ls a.le n) 2147483647))
  simp only [List.setIfInBounds_toArray, List.set_cons_zero, List.set_cons_succ] at y1
  go_upto_region 5 with fail
  generalize hU : w1.setCell ⟨w.heap.size, 21, none⟩ (.int .i64 (up (ls a.le n) 2147483647)) = V at y1 y2 yb ⊢
  clear x1 x2 HB k21 f21 hU
  as_aux_lemma =>
    have k19 := y1.cell 19
    simp at k19
    have r1 := hok.1.2.2.1.grew evC_ne yb
    have hwl := y2.lt
    go_wp2_with fail
    refine (cloneEv_any a.ac.la a.ac.lb a.ac.ln a.ac.lcap a.ac.es _ hn r1).mono ?_
    rintro e w3 ⟨la, cap, rfl, hc1, hc2, hb, oL⟩
    clear k19 r1
    have hV : w.heap.size + 1 < V.heap.size := hwl
    replace y1 := y1.grew hb
    replace y2 := y2.grew hb
    replace yb := below_app yb hb yb.size
    clear hb
    have k19 := y1.cell 19
    have f19 := y1.froz 19
    simp at k19
    have z1 := y1.put 19 (.slice la a.ac.ln cap)
    have z2 := y2.other (q := ⟨w.heap.size, 19, none⟩) (by simp) (.slice la a.ac.ln cap)
    have zb := yb.setCell (p := ⟨w.heap.size, 19, none⟩) (Nat.le_refl _) (.slice la a.ac.ln cap)
    simp only [List.setIfInBounds_toArray, List.set_cons_zero, List.set_cons_succ] at z1
    have zo : ∃ lb, w.heap.size ≤ lb ∧ lb < (w3.setCell ⟨w.heap.size, 19, none⟩ (.slice la a.ac.ln cap)).heap.size ∧ lb ≠ w.heap.size + 1 ∧ RdE evC 7 (w3.setCell ⟨w.heap.size, 19, none⟩ (.slice la a.ac.ln cap)) lb la a.ac.ln a.ac.es ∧ Free (w3.setCell ⟨w.heap.size, 19, none⟩ (.slice la a.ac.ln cap)) lb := by
      rcases oL with ⟨h1, h2⟩ | ⟨q, hq_, oq⟩
      · exact ⟨w.heap.size, Nat.le_refl _, z1.lt, by omega, .inl h1, free_row z1⟩
      · have oq' := oq.setCell (q := ⟨w.heap.size, 19, none⟩) (by have := oq.1; simp; omega) (.slice la a.ac.ln cap)
        exact ⟨q, by have := oq.1; omega, oq'.2.1, by have := oq.1; omega, oq'.2.2⟩
    go_upto_region 6 with fail
    generalize hU : w3.setCell ⟨w.heap.size, 19, none⟩ (.slice la a.ac.ln cap) = U at z1 z2 zb zo ⊢
    clear y1 y2 yb k19 f19 oL hU
    obtain ⟨lb, zo1, zo2, zo3, zo4, zo5⟩ := zo
    as_aux_lemma =>
      go_wp2_with first | (refine wpList_load_row rfl 32 _ rfl (w.heap.size) (by rfl) _ _ _ _ z1 Try.underlying32 rfl (by kernel_rfl) ?_) | (refine wpList_store_row rfl 32 (.tmp 4) _ rfl (w.heap.size + 1) _ (by rfl) (by rfl) _ _ z2 (by kernel_rfl) (by rfl) (by simp [Value.oneCell']) ?_)
      (try simp only [Exit.inBlock, Exit.then]); refine bodyPost_ret (results_cell_row rfl _ _ (w.heap.size + 1) _ _ _ _ rfl (setRow_heap _ _ _ _ _ _ z2) Try.underlying32 rfl (by kernel_rfl)) rfl ?_
      exact ⟨⟨a.id, a.si, a.sr, a.cl, a.pt, a.gd, ⟨a.ac.kd, a.ac.nn, a.ac.pi, a.ac.si, a.ac.zo, a.ac.be, la, a.ac.ln, cap, lb, a.ac.es⟩, a.un, (up (ls a.le n) 2147483647)⟩, rfl, below_setRow zb (by omega) _, ⟨hc1, hc2, OwnE.setRow (g := w.heap.size + 1) ⟨zo1, zo2, zo4, zo5⟩ zo3 _⟩, ⟨rfl, rfl, rfl, rfl, rfl, rfl, ⟨rfl, rfl, rfl, rfl, rfl, rfl, rfl, rfl⟩, rfl, by show _ = lfE a n; rw [HL.out]⟩⟩
set_option maxHeartbeats 4000000 in
theorem isp_1 (a : Ef) (n : Int) (w : World) (hok : a.okW w) (hn : a.ac.ln ≤ 1048577) (h0 : (a.ac.kd == 2) = false) (h1 : decide (a.le > 0) = true) : Calls Try.prog 6 #[(.agg #[.int .i64 a.id, .int .i64 a.si, .int .i64 a.sr, .int .i64 a.cl, .int .i64 a.pt.kd, .int .i64 a.pt.wh, .int .i64 a.pt.sr, .int .i64 a.pt.tr, .int .i64 a.pt.pi, .int .i64 a.pt.le, .int .i64 a.pt.zo, .int .i64 a.gd.kd, .int .i64 a.gd.nn, .int .i64 a.ac.kd, .int .i64 a.ac.nn, .int .i64 a.ac.pi, .int .i64 a.ac.si, .int .i64 a.ac.zo, .bool a.ac.be, .slice a.ac.la a.ac.ln a.ac.lcap, .int .i64 a.un, .int .i64 a.le]), .int .i64 n] w fun e w' => ∃ t : Ef, e = .returned (.agg #[.int .i64 t.id, .int .i64 t.si, .int .i64 t.sr, .int .i64 t.cl, .int .i64 t.pt.kd, .int .i64 t.pt.wh, .int .i64 t.pt.sr, .int .i64 t.pt.tr, .int .i64 t.pt.pi, .int .i64 t.pt.le, .int .i64 t.pt.zo, .int .i64 t.gd.kd, .int .i64 t.gd.nn, .int .i64 t.ac.kd, .int .i64 t.ac.nn, .int .i64 t.ac.pi, .int .i64 t.ac.si, .int .i64 t.ac.zo, .bool t.ac.be, .slice t.ac.la t.ac.ln t.ac.lcap, .int .i64 t.un, .int .i64 t.le]) ∧ Below w.heap.size w w' ∧ OwnF w' w.heap.size t ∧ AlikeF t (spE a n) := by
  have HL : Hid (lfE a n = (a.le - 1)) := by show _ = _; unfold lfE; simp at h0 h1; simp [*]
  have hi : -9223372036854775808 ≤ a.le - 1 ∧ a.le - 1 ≤ 9223372036854775807 := by have h8 := hok.2; simp [Lit.wf] at h8 h1; first | omega | (simp [IntKind.min, IntKind.max] at h8; omega)
  have HB := ((Below.refl _ w).alloc (Nat.le_refl _) (.cells #[.int .i64 a.id, .int .i64 a.si, .int .i64 a.sr, .int .i64 a.cl, .int .i64 a.pt.kd, .int .i64 a.pt.wh, .int .i64 a.pt.sr, .int .i64 a.pt.tr, .int .i64 a.pt.pi, .int .i64 a.pt.le, .int .i64 a.pt.zo, .int .i64 a.gd.kd, .int .i64 a.gd.nn, .int .i64 a.ac.kd, .int .i64 a.ac.nn, .int .i64 a.ac.pi, .int .i64 a.ac.si, .int .i64 a.ac.zo, .bool a.ac.be, .slice a.ac.la a.ac.ln a.ac.lcap, .int .i64 a.un, .int .i64 a.le] 32)).alloc (by simp) (.cells #[.int .i64 0, .int .i64 0, .int .i64 0, .int .i64 0, .int .i64 0, .int .i64 0, .int .i64 0, .int .i64 0, .int .i64 0, .int .i64 0, .int .i64 0, .int .i64 0, .int .i64 0, .int .i64 0, .int .i64 0, .int .i64 0, .int .i64 0, .int .i64 0, .bool false, .slice none 0 0, .int .i64 0, .int .i64 0] 32)
  have x1 := (boxR_new w 32 #[.int .i64 a.id, .int .i64 a.si, .int .i64 a.sr, .int .i64 a.cl, .int .i64 a.pt.kd, .int .i64 a.pt.wh, .int .i64 a.pt.sr, .int .i64 a.pt.tr, .int .i64 a.pt.pi, .int .i64 a.pt.le, .int .i64 a.pt.zo, .int .i64 a.gd.kd, .int .i64 a.gd.nn, .int .i64 a.ac.kd, .int .i64 a.ac.nn, .int .i64 a.ac.pi, .int .i64 a.ac.si, .int .i64 a.ac.zo, .bool a.ac.be, .slice a.ac.la a.ac.ln a.ac.lcap, .int .i64 a.un, .int .i64 a.le]).alloc (.cells #[.int .i64 0, .int .i64 0, .int .i64 0, .int .i64 0, .int .i64 0, .int .i64 0, .int .i64 0, .int .i64 0, .int .i64 0, .int .i64 0, .int .i64 0, .int .i64 0, .int .i64 0, .int .i64 0, .int .i64 0, .int .i64 0, .int .i64 0, .int .i64 0, .bool false, .slice none 0 0, .int .i64 0, .int .i64 0] 32)
  have x2 : BoxR ((w.alloc (.cells #[.int .i64 a.id, .int .i64 a.si, .int .i64 a.sr, .int .i64 a.cl, .int .i64 a.pt.kd, .int .i64 a.pt.wh, .int .i64 a.pt.sr, .int .i64 a.pt.tr, .int .i64 a.pt.pi, .int .i64 a.pt.le, .int .i64 a.pt.zo, .int .i64 a.gd.kd, .int .i64 a.gd.nn, .int .i64 a.ac.kd, .int .i64 a.ac.nn, .int .i64 a.ac.pi, .int .i64 a.ac.si, .int .i64 a.ac.zo, .bool a.ac.be, .slice a.ac.la a.ac.ln a.ac.lcap, .int .i64 a.un, .int .i64 a.le] 32)).alloc (.cells #[.int .i64 0, .int .i64 0, .int .i64 0, .int .i64 0, .int .i64 0, .int .i64 0, .int .i64 0, .int .i64 0, .int .i64 0, .int .i64 0, .int .i64 0, .int .i64 0, .int .i64 0, .int .i64 0, .int .i64 0, .int .i64 0, .int .i64 0, .int .i64 0, .bool false, .slice none 0 0, .int .i64 0, .int .i64 0] 32)) (w.heap.size + 1) 32 #[.int .i64 0, .int .i64 0, .int .i64 0, .int .i64 0, .int .i64 0, .int .i64 0, .int .i64 0, .int .i64 0, .int .i64 0, .int .i64 0, .int .i64 0, .int .i64 0, .int .i64 0, .int .i64 0, .int .i64 0, .int .i64 0, .int .i64 0, .int .i64 0, .bool false, .slice none 0 0, .int .i64 0, .int .i64 0] := heap_alloc2_new _ _ _
  generalize hW : (w.alloc (.cells #[.int .i64 a.id, .int .i64 a.si, .int .i64 a.sr, .int .i64 a.cl, .int .i64 a.pt.kd, .int .i64 a.pt.wh, .int .i64 a.pt.sr, .int .i64 a.pt.tr, .int .i64 a.pt.pi, .int .i64 a.pt.le, .int .i64 a.pt.zo, .int .i64 a.gd.kd, .int .i64 a.gd.nn, .int .i64 a.ac.kd, .int .i64 a.ac.nn, .int .i64 a.ac.pi, .int .i64 a.ac.si, .int .i64 a.ac.zo, .bool a.ac.be, .slice a.ac.la a.ac.ln a.ac.lcap, .int .i64 a.un, .int .i64 a.le] 32)).alloc (.cells #[.int .i64 0, .int .i64 0, .int .i64 0, .int .i64 0, .int .i64 0, .int .i64 0, .int .i64 0, .int .i64 0, .int .i64 0, .int .i64 0, .int .i64 0, .int .i64 0, .int .i64 0, .int .i64 0, .int .i64 0, .int .i64 0, .int .i64 0, .int .i64 0, .bool false, .slice none 0 0, .int .i64 0, .int .i64 0] 32) = W at HB x1 x2
  have r1 := hok.1.2.2.1.grew evC_ne HB
  have k13 := x1.cell 13
  have k21 := x1.cell 21
  simp at k13 k21
  have hwl := x2.lt
  have f21 := x1.froz 21
  have y1 := x1.put 21 (.int .i64 (a.le - 1))
  have y2 := x2.other (q := ⟨w.heap.size, 21, none⟩) (by simp) (.int .i64 (a.le - 1))
  have yb := HB.setCell (p := ⟨w.heap.size, 21, none⟩) (Nat.le_refl _) (.int .i64 (a.le - 1))
  have yr := hok.1.2.2.1.grew evC_ne yb
  simp only [List.setIfInBounds_toArray, List.set_cons_zero, List.set_cons_succ] at y1
  go_enter Try.func6, Try.ntmps6
  go_upto_region 5 with fail
  generalize hU : W.setCell ⟨w.heap.size, 21, none⟩ (.int .i64 (a.le - 1)) = V at y1 y2 yb yr ⊢
  clear x1 x2 HB k13 k21 f21 hU hW r1 hwl yr
  as_aux_lemma =>
    have k19 := y1.cell 19
    simp at k19
    have r1 := hok.1.2.2.1.grew evC_ne yb
    have hwl := y2.lt
    go_wp2_with fail
    refine (cloneEv_any a.ac.la a.ac.lb a.ac.ln a.ac.lcap a.ac.es _ hn r1).mono ?_
    rintro e w3 ⟨la, cap, rfl, hc1, hc2, hb, oL⟩
    clear k19 r1
    have hV : w.heap.size + 1 < V.heap.size := hwl
    replace y1 := y1.grew hb
    replace y2 := y2.grew hb
    replace yb := below_app yb hb yb.size
    clear hb
    have k19 := y1.cell 19
    have f19 := y1.froz 19
    simp at k19
    have z1 := y1.put 19 (.slice la a.ac.ln cap)
    have z2 := y2.other (q := ⟨w.heap.size, 19, none⟩) (by simp) (.slice la a.ac.ln cap)
    have zb := yb.setCell (p := ⟨w.heap.size, 19, none⟩) (Nat.le_refl _) (.slice la a.ac.ln cap)
    simp only [List.setIfInBounds_toArray, List.set_cons_zero, List.set_cons_succ] at z1
    have zo : ∃ lb, w.heap.size ≤ lb ∧ lb < (w3.setCell ⟨w.heap.size, 19, none⟩ (.slice la a.ac.ln cap)).heap.size ∧ lb ≠ w.heap.size + 1 ∧ RdE evC 7 (w3.setCell ⟨w.heap.size, 19, none⟩ (.slice la a.ac.ln cap)) lb la a.ac.ln a.ac.es ∧ Free (w3.setCell ⟨w.heap.size, 19, none⟩ (.slice la a.ac.ln cap)) lb := by
      rcases oL with ⟨h1, h2⟩ | ⟨q, hq_, oq⟩
      · exact ⟨w.heap.size, Nat.le_refl _, z1.lt, by omega, .inl h1, free_row z1⟩
      · have oq' := oq.setCell (q := ⟨w.heap.size, 19, none⟩) (by have := oq.1; simp; omega) (.slice la a.ac.ln cap)
        exact ⟨q, by have := oq.1; omega, oq'.2.1, by have := oq.1; omega, oq'.2.2⟩
    go_upto_region 6 with fail
    generalize hU : w3.setCell ⟨w.heap.size, 19, none⟩ (.slice la a.ac.ln cap) = U at z1 z2 zb zo ⊢
    clear y1 y2 yb k19 f19 oL hU
    obtain ⟨lb, zo1, zo2, zo3, zo4, zo5⟩ := zo
    as_aux_lemma =>
      go_wp2_with first | (refine wpList_load_row rfl 32 _ rfl (w.heap.size) (by rfl) _ _ _ _ z1 Try.underlying32 rfl (by kernel_rfl) ?_) | (refine wpList_store_row rfl 32 (.tmp 4) _ rfl (w.heap.size + 1) _ (by rfl) (by rfl) _ _ z2 (by kernel_rfl) (by rfl) (by simp [Value.oneCell']) ?_)
      (try simp only [Exit.inBlock, Exit.then]); refine bodyPost_ret (results_cell_row rfl _ _ (w.heap.size + 1) _ _ _ _ rfl (setRow_heap _ _ _ _ _ _ z2) Try.underlying32 rfl (by kernel_rfl)) rfl ?_
      exact ⟨⟨a.id, a.si, a.sr, a.cl, a.pt, a.gd, ⟨a.ac.kd, a.ac.nn, a.ac.pi, a.ac.si, a.ac.zo, a.ac.be, la, a.ac.ln, cap, lb, a.ac.es⟩, a.un, (a.le - 1)⟩, rfl, below_setRow zb (by omega) _, ⟨hc1, hc2, OwnE.setRow (g := w.heap.size + 1) ⟨zo1, zo2, zo4, zo5⟩ zo3 _⟩, ⟨rfl, rfl, rfl, rfl, rfl, rfl, ⟨rfl, rfl, rfl, rfl, rfl, rfl, rfl, rfl⟩, rfl, by show _ = lfE a n; rw [HL.out]⟩⟩
set_option maxHeartbeats 4000000 in
theorem isp_2 (a : Ef) (n : Int) (w : World) (hok : a.okW w) (hn : a.ac.ln ≤ 1048577) (h0 : (a.ac.kd == 2) = false) (h1 : decide (a.le > 0) = false) : Calls Try.prog 6 #[(.agg #[.int .i64 a.id, .int .i64 a.si, .int .i64 a.sr, .int .i64 a.cl, .int .i64 a.pt.kd, .int .i64 a.pt.wh, .int .i64 a.pt.sr, .int .i64 a.pt.tr, .int .i64 a.pt.pi, .int .i64 a.pt.le, .int .i64 a.pt.zo, .int .i64 a.gd.kd, .int .i64 a.gd.nn, .int .i64 a.ac.kd, .int .i64 a.ac.nn, .int .i64 a.ac.pi, .int .i64 a.ac.si, .int .i64 a.ac.zo, .bool a.ac.be, .slice a.ac.la a.ac.ln a.ac.lcap, .int .i64 a.un, .int .i64 a.le]), .int .i64 n] w fun e w' => ∃ t : Ef, e = .returned (.agg #[.int .i64 t.id, .int .i64 t.si, .int .i64 t.sr, .int .i64 t.cl, .int .i64 t.pt.kd, .int .i64 t.pt.wh, .int .i64 t.pt.sr, .int .i64 t.pt.tr, .int .i64 t.pt.pi, .int .i64 t.pt.le, .int .i64 t.pt.zo, .int .i64 t.gd.kd, .int .i64 t.gd.nn, .int .i64 t.ac.kd, .int .i64 t.ac.nn, .int .i64 t.ac.pi, .int .i64 t.ac.si, .int .i64 t.ac.zo, .bool t.ac.be, .slice t.ac.la t.ac.ln t.ac.lcap, .int .i64 t.un, .int .i64 t.le]) ∧ Below w.heap.size w w' ∧ OwnF w' w.heap.size t ∧ AlikeF t (spE a n) := by
  have HL : Hid (lfE a n = a.le) := by show _ = _; unfold lfE; simp at h0 h1; rw [if_neg h0, if_neg (by omega)]
  have HB := ((Below.refl _ w).alloc (Nat.le_refl _) (.cells #[.int .i64 a.id, .int .i64 a.si, .int .i64 a.sr, .int .i64 a.cl, .int .i64 a.pt.kd, .int .i64 a.pt.wh, .int .i64 a.pt.sr, .int .i64 a.pt.tr, .int .i64 a.pt.pi, .int .i64 a.pt.le, .int .i64 a.pt.zo, .int .i64 a.gd.kd, .int .i64 a.gd.nn, .int .i64 a.ac.kd, .int .i64 a.ac.nn, .int .i64 a.ac.pi, .int .i64 a.ac.si, .int .i64 a.ac.zo, .bool a.ac.be, .slice a.ac.la a.ac.ln a.ac.lcap, .int .i64 a.un, .int .i64 a.le] 32)).alloc (by simp) (.cells #[.int .i64 0, .int .i64 0, .int .i64 0, .int .i64 0, .int .i64 0, .int .i64 0, .int .i64 0, .int .i64 0, .int .i64 0, .int .i64 0, .int .i64 0, .int .i64 0, .int .i64 0, .int .i64 0, .int .i64 0, .int .i64 0, .int .i64 0, .int .i64 0, .bool false, .slice none 0 0, .int .i64 0, .int .i64 0] 32)
  have x1 := (boxR_new w 32 #[.int .i64 a.id, .int .i64 a.si, .int .i64 a.sr, .int .i64 a.cl, .int .i64 a.pt.kd, .int .i64 a.pt.wh, .int .i64 a.pt.sr, .int .i64 a.pt.tr, .int .i64 a.pt.pi, .int .i64 a.pt.le, .int .i64 a.pt.zo, .int .i64 a.gd.kd, .int .i64 a.gd.nn, .int .i64 a.ac.kd, .int .i64 a.ac.nn, .int .i64 a.ac.pi, .int .i64 a.ac.si, .int .i64 a.ac.zo, .bool a.ac.be, .slice a.ac.la a.ac.ln a.ac.lcap, .int .i64 a.un, .int .i64 a.le]).alloc (.cells #[.int .i64 0, .int .i64 0, .int .i64 0, .int .i64 0, .int .i64 0, .int .i64 0, .int .i64 0, .int .i64 0, .int .i64 0, .int .i64 0, .int .i64 0, .int .i64 0, .int .i64 0, .int .i64 0, .int .i64 0, .int .i64 0, .int .i64 0, .int .i64 0, .bool false, .slice none 0 0, .int .i64 0, .int .i64 0] 32)
  have x2 : BoxR ((w.alloc (.cells #[.int .i64 a.id, .int .i64 a.si, .int .i64 a.sr, .int .i64 a.cl, .int .i64 a.pt.kd, .int .i64 a.pt.wh, .int .i64 a.pt.sr, .int .i64 a.pt.tr, .int .i64 a.pt.pi, .int .i64 a.pt.le, .int .i64 a.pt.zo, .int .i64 a.gd.kd, .int .i64 a.gd.nn, .int .i64 a.ac.kd, .int .i64 a.ac.nn, .int .i64 a.ac.pi, .int .i64 a.ac.si, .int .i64 a.ac.zo, .bool a.ac.be, .slice a.ac.la a.ac.ln a.ac.lcap, .int .i64 a.un, .int .i64 a.le] 32)).alloc (.cells #[.int .i64 0, .int .i64 0, .int .i64 0, .int .i64 0, .int .i64 0, .int .i64 0, .int .i64 0, .int .i64 0, .int .i64 0, .int .i64 0, .int .i64 0, .int .i64 0, .int .i64 0, .int .i64 0, .int .i64 0, .int .i64 0, .int .i64 0, .int .i64 0, .bool false, .slice none 0 0, .int .i64 0, .int .i64 0] 32)) (w.heap.size + 1) 32 #[.int .i64 0, .int .i64 0, .int .i64 0, .int .i64 0, .int .i64 0, .int .i64 0, .int .i64 0, .int .i64 0, .int .i64 0, .int .i64 0, .int .i64 0, .int .i64 0, .int .i64 0, .int .i64 0, .int .i64 0, .int .i64 0, .int .i64 0, .int .i64 0, .bool false, .slice none 0 0, .int .i64 0, .int .i64 0] := heap_alloc2_new _ _ _
  generalize hW : (w.alloc (.cells #[.int .i64 a.id, .int .i64 a.si, .int .i64 a.sr, .int .i64 a.cl, .int .i64 a.pt.kd, .int .i64 a.pt.wh, .int .i64 a.pt.sr, .int .i64 a.pt.tr, .int .i64 a.pt.pi, .int .i64 a.pt.le, .int .i64 a.pt.zo, .int .i64 a.gd.kd, .int .i64 a.gd.nn, .int .i64 a.ac.kd, .int .i64 a.ac.nn, .int .i64 a.ac.pi, .int .i64 a.ac.si, .int .i64 a.ac.zo, .bool a.ac.be, .slice a.ac.la a.ac.ln a.ac.lcap, .int .i64 a.un, .int .i64 a.le] 32)).alloc (.cells #[.int .i64 0, .int .i64 0, .int .i64 0, .int .i64 0, .int .i64 0, .int .i64 0, .int .i64 0, .int .i64 0, .int .i64 0, .int .i64 0, .int .i64 0, .int .i64 0, .int .i64 0, .int .i64 0, .int .i64 0, .int .i64 0, .int .i64 0, .int .i64 0, .bool false, .slice none 0 0, .int .i64 0, .int .i64 0] 32) = W at HB x1 x2
  have r1 := hok.1.2.2.1.grew evC_ne HB
  have k13 := x1.cell 13
  have k21 := x1.cell 21
  simp at k13 k21
  have hwl := x2.lt
  go_enter Try.func6, Try.ntmps6
  go_upto_region 5 with fail
  clear k13 k21 hW r1 hwl
  have y1 := x1
  have y2 := x2
  have yb := HB
  clear x1 x2 HB
  as_aux_lemma =>
    have k19 := y1.cell 19
    simp at k19
    have r1 := hok.1.2.2.1.grew evC_ne yb
    have hwl := y2.lt
    go_wp2_with fail
    refine (cloneEv_any a.ac.la a.ac.lb a.ac.ln a.ac.lcap a.ac.es _ hn r1).mono ?_
    rintro e w3 ⟨la, cap, rfl, hc1, hc2, hb, oL⟩
    clear k19 r1
    have hV : w.heap.size + 1 < W.heap.size := hwl
    replace y1 := y1.grew hb
    replace y2 := y2.grew hb
    replace yb := below_app yb hb yb.size
    clear hb
    have k19 := y1.cell 19
    have f19 := y1.froz 19
    simp at k19
    have z1 := y1.put 19 (.slice la a.ac.ln cap)
    have z2 := y2.other (q := ⟨w.heap.size, 19, none⟩) (by simp) (.slice la a.ac.ln cap)
    have zb := yb.setCell (p := ⟨w.heap.size, 19, none⟩) (Nat.le_refl _) (.slice la a.ac.ln cap)
    simp only [List.setIfInBounds_toArray, List.set_cons_zero, List.set_cons_succ] at z1
    have zo : ∃ lb, w.heap.size ≤ lb ∧ lb < (w3.setCell ⟨w.heap.size, 19, none⟩ (.slice la a.ac.ln cap)).heap.size ∧ lb ≠ w.heap.size + 1 ∧ RdE evC 7 (w3.setCell ⟨w.heap.size, 19, none⟩ (.slice la a.ac.ln cap)) lb la a.ac.ln a.ac.es ∧ Free (w3.setCell ⟨w.heap.size, 19, none⟩ (.slice la a.ac.ln cap)) lb := by
      rcases oL with ⟨h1, h2⟩ | ⟨q, hq_, oq⟩
      · exact ⟨w.heap.size, Nat.le_refl _, z1.lt, by omega, .inl h1, free_row z1⟩
      · have oq' := oq.setCell (q := ⟨w.heap.size, 19, none⟩) (by have := oq.1; simp; omega) (.slice la a.ac.ln cap)
        exact ⟨q, by have := oq.1; omega, oq'.2.1, by have := oq.1; omega, oq'.2.2⟩
    go_upto_region 6 with fail
    generalize hU : w3.setCell ⟨w.heap.size, 19, none⟩ (.slice la a.ac.ln cap) = U at z1 z2 zb zo ⊢
    clear y1 y2 yb k19 f19 oL hU
    obtain ⟨lb, zo1, zo2, zo3, zo4, zo5⟩ := zo
    as_aux_lemma =>
      go_wp2_with first | (refine wpList_load_row rfl 32 _ rfl (w.heap.size) (by rfl) _ _ _ _ z1 Try.underlying32 rfl (by kernel_rfl) ?_) | (refine wpList_store_row rfl 32 (.tmp 4) _ rfl (w.heap.size + 1) _ (by rfl) (by rfl) _ _ z2 (by kernel_rfl) (by rfl) (by simp [Value.oneCell']) ?_)
      (try simp only [Exit.inBlock, Exit.then]); refine bodyPost_ret (results_cell_row rfl _ _ (w.heap.size + 1) _ _ _ _ rfl (setRow_heap _ _ _ _ _ _ z2) Try.underlying32 rfl (by kernel_rfl)) rfl ?_
      exact ⟨⟨a.id, a.si, a.sr, a.cl, a.pt, a.gd, ⟨a.ac.kd, a.ac.nn, a.ac.pi, a.ac.si, a.ac.zo, a.ac.be, la, a.ac.ln, cap, lb, a.ac.es⟩, a.un, a.le⟩, rfl, below_setRow zb (by omega) _, ⟨hc1, hc2, OwnE.setRow (g := w.heap.size + 1) ⟨zo1, zo2, zo4, zo5⟩ zo3 _⟩, ⟨rfl, rfl, rfl, rfl, rfl, rfl, ⟨rfl, rfl, rfl, rfl, rfl, rfl, rfl, rfl⟩, rfl, by show _ = lfE a n; rw [HL.out]⟩⟩
theorem implSpent_any (a : Ef) (n : Int) (w : World) (hok : a.okW w) (hn : a.ac.ln ≤ 1048577) : Calls Try.prog 6 #[(.agg #[.int .i64 a.id, .int .i64 a.si, .int .i64 a.sr, .int .i64 a.cl, .int .i64 a.pt.kd, .int .i64 a.pt.wh, .int .i64 a.pt.sr, .int .i64 a.pt.tr, .int .i64 a.pt.pi, .int .i64 a.pt.le, .int .i64 a.pt.zo, .int .i64 a.gd.kd, .int .i64 a.gd.nn, .int .i64 a.ac.kd, .int .i64 a.ac.nn, .int .i64 a.ac.pi, .int .i64 a.ac.si, .int .i64 a.ac.zo, .bool a.ac.be, .slice a.ac.la a.ac.ln a.ac.lcap, .int .i64 a.un, .int .i64 a.le]), .int .i64 n] w fun e w' => ∃ t : Ef, e = .returned (.agg #[.int .i64 t.id, .int .i64 t.si, .int .i64 t.sr, .int .i64 t.cl, .int .i64 t.pt.kd, .int .i64 t.pt.wh, .int .i64 t.pt.sr, .int .i64 t.pt.tr, .int .i64 t.pt.pi, .int .i64 t.pt.le, .int .i64 t.pt.zo, .int .i64 t.gd.kd, .int .i64 t.gd.nn, .int .i64 t.ac.kd, .int .i64 t.ac.nn, .int .i64 t.ac.pi, .int .i64 t.ac.si, .int .i64 t.ac.zo, .bool t.ac.be, .slice t.ac.la t.ac.ln t.ac.lcap, .int .i64 t.un, .int .i64 t.le]) ∧ Below w.heap.size w w' ∧ OwnF w' w.heap.size t ∧ AlikeF t (spE a n) := by
  cases h0 : (a.ac.kd == 2) with
  | true => exact isp_0 a n w hok hn h0
  | false =>
    cases h1 : decide (a.le > 0) with
    | true => exact isp_1 a n w hok hn h0 h1
    | false => exact isp_2 a n w hok hn h0 h1
end Go.Proofs.Ytdcgobngmdhmaad
