/-
  Chapter 10, the program: freshEffect: an effect with a list of its own. Written by tools/tai.gen.py. Chapter 10, the program: Spent (spE). Written by tools/sp.gen.py. Chapter 6: the specification's EventOk (okE). Written by tools/ev.gen.py. Chapter 6: the specification's EventOk, going on. Written by tools/ev.gen.py. Chapter 6: the specification's EventOk, going on. Written by tools/ev.gen.py. Chapter 6: the specification's EventOk, going on. Written by tools/ev.gen.py. Chapter 9: the specification's l9Part, l9Plain, ActFits (fiA), Amount (amA). Written by tools/ac.gen.py. Own work.
-/
import Derived.Test.YtodfdfncdoliiadSpB
import Derived.Deep.DeepCutAuto
import Derived.Deep.CutBlock
import Derived.Laws.OwnMore
import Derived.Test.YtodfdfncdoliiadGEvA3
import Derived.Test.YtodfdfncdoliiadGAcR2
namespace Go.Proofs.Ytodfdfncdoliiad
open Go.ChangeShapes Go.WideShapes Go.ChangeAt Go.RowKit
set_option maxRecDepth 100000
set_option linter.unusedVariables false
set_option linter.unusedSimpArgs false

set_option maxHeartbeats 4000000 in
theorem fresh_any (a : Ef) (w : World) (hok : a.okW w) (hn : a.ac.ln ≤ 1048577) : Calls Try.prog 18 #[(.agg #[.int .i64 a.id, .int .i64 a.si, .int .i64 a.sr, .int .i64 a.cl, .int .i64 a.pt.kd, .int .i64 a.pt.wh, .int .i64 a.pt.sr, .int .i64 a.pt.tr, .int .i64 a.pt.pi, .int .i64 a.pt.le, .int .i64 a.pt.zo, .int .i64 a.gd.kd, .int .i64 a.gd.nn, .int .i64 a.ac.kd, .int .i64 a.ac.nn, .int .i64 a.ac.pi, .int .i64 a.ac.si, .int .i64 a.ac.zo, .bool a.ac.be, .slice a.ac.la a.ac.ln a.ac.lcap, .int .i64 a.un, .int .i64 a.le])] w fun e w' => ∃ t : Ef, e = .returned (.agg #[.int .i64 t.id, .int .i64 t.si, .int .i64 t.sr, .int .i64 t.cl, .int .i64 t.pt.kd, .int .i64 t.pt.wh, .int .i64 t.pt.sr, .int .i64 t.pt.tr, .int .i64 t.pt.pi, .int .i64 t.pt.le, .int .i64 t.pt.zo, .int .i64 t.gd.kd, .int .i64 t.gd.nn, .int .i64 t.ac.kd, .int .i64 t.ac.nn, .int .i64 t.ac.pi, .int .i64 t.ac.si, .int .i64 t.ac.zo, .bool t.ac.be, .slice t.ac.la t.ac.ln t.ac.lcap, .int .i64 t.un, .int .i64 t.le]) ∧ Below w.heap.size w w' ∧ OwnF w' w.heap.size t ∧ AlikeF t a := by
  have HB := ((Below.refl _ w).alloc (Nat.le_refl _) (.cells #[.int .i64 a.id, .int .i64 a.si, .int .i64 a.sr, .int .i64 a.cl, .int .i64 a.pt.kd, .int .i64 a.pt.wh, .int .i64 a.pt.sr, .int .i64 a.pt.tr, .int .i64 a.pt.pi, .int .i64 a.pt.le, .int .i64 a.pt.zo, .int .i64 a.gd.kd, .int .i64 a.gd.nn, .int .i64 a.ac.kd, .int .i64 a.ac.nn, .int .i64 a.ac.pi, .int .i64 a.ac.si, .int .i64 a.ac.zo, .bool a.ac.be, .slice a.ac.la a.ac.ln a.ac.lcap, .int .i64 a.un, .int .i64 a.le] 32)).alloc (by simp) (.cells #[.int .i64 0, .int .i64 0, .int .i64 0, .int .i64 0, .int .i64 0, .int .i64 0, .int .i64 0, .int .i64 0, .int .i64 0, .int .i64 0, .int .i64 0, .int .i64 0, .int .i64 0, .int .i64 0, .int .i64 0, .int .i64 0, .int .i64 0, .int .i64 0, .bool false, .slice none 0 0, .int .i64 0, .int .i64 0] 32)
  have x1 := (boxR_new w 32 #[.int .i64 a.id, .int .i64 a.si, .int .i64 a.sr, .int .i64 a.cl, .int .i64 a.pt.kd, .int .i64 a.pt.wh, .int .i64 a.pt.sr, .int .i64 a.pt.tr, .int .i64 a.pt.pi, .int .i64 a.pt.le, .int .i64 a.pt.zo, .int .i64 a.gd.kd, .int .i64 a.gd.nn, .int .i64 a.ac.kd, .int .i64 a.ac.nn, .int .i64 a.ac.pi, .int .i64 a.ac.si, .int .i64 a.ac.zo, .bool a.ac.be, .slice a.ac.la a.ac.ln a.ac.lcap, .int .i64 a.un, .int .i64 a.le]).alloc (.cells #[.int .i64 0, .int .i64 0, .int .i64 0, .int .i64 0, .int .i64 0, .int .i64 0, .int .i64 0, .int .i64 0, .int .i64 0, .int .i64 0, .int .i64 0, .int .i64 0, .int .i64 0, .int .i64 0, .int .i64 0, .int .i64 0, .int .i64 0, .int .i64 0, .bool false, .slice none 0 0, .int .i64 0, .int .i64 0] 32)
  have x2 : BoxR ((w.alloc (.cells #[.int .i64 a.id, .int .i64 a.si, .int .i64 a.sr, .int .i64 a.cl, .int .i64 a.pt.kd, .int .i64 a.pt.wh, .int .i64 a.pt.sr, .int .i64 a.pt.tr, .int .i64 a.pt.pi, .int .i64 a.pt.le, .int .i64 a.pt.zo, .int .i64 a.gd.kd, .int .i64 a.gd.nn, .int .i64 a.ac.kd, .int .i64 a.ac.nn, .int .i64 a.ac.pi, .int .i64 a.ac.si, .int .i64 a.ac.zo, .bool a.ac.be, .slice a.ac.la a.ac.ln a.ac.lcap, .int .i64 a.un, .int .i64 a.le] 32)).alloc (.cells #[.int .i64 0, .int .i64 0, .int .i64 0, .int .i64 0, .int .i64 0, .int .i64 0, .int .i64 0, .int .i64 0, .int .i64 0, .int .i64 0, .int .i64 0, .int .i64 0, .int .i64 0, .int .i64 0, .int .i64 0, .int .i64 0, .int .i64 0, .int .i64 0, .bool false, .slice none 0 0, .int .i64 0, .int .i64 0] 32)) (w.heap.size + 1) 32 #[.int .i64 0, .int .i64 0, .int .i64 0, .int .i64 0, .int .i64 0, .int .i64 0, .int .i64 0, .int .i64 0, .int .i64 0, .int .i64 0, .int .i64 0, .int .i64 0, .int .i64 0, .int .i64 0, .int .i64 0, .int .i64 0, .int .i64 0, .int .i64 0, .bool false, .slice none 0 0, .int .i64 0, .int .i64 0] := heap_alloc2_new _ _ _
  generalize hW : (w.alloc (.cells #[.int .i64 a.id, .int .i64 a.si, .int .i64 a.sr, .int .i64 a.cl, .int .i64 a.pt.kd, .int .i64 a.pt.wh, .int .i64 a.pt.sr, .int .i64 a.pt.tr, .int .i64 a.pt.pi, .int .i64 a.pt.le, .int .i64 a.pt.zo, .int .i64 a.gd.kd, .int .i64 a.gd.nn, .int .i64 a.ac.kd, .int .i64 a.ac.nn, .int .i64 a.ac.pi, .int .i64 a.ac.si, .int .i64 a.ac.zo, .bool a.ac.be, .slice a.ac.la a.ac.ln a.ac.lcap, .int .i64 a.un, .int .i64 a.le] 32)).alloc (.cells #[.int .i64 0, .int .i64 0, .int .i64 0, .int .i64 0, .int .i64 0, .int .i64 0, .int .i64 0, .int .i64 0, .int .i64 0, .int .i64 0, .int .i64 0, .int .i64 0, .int .i64 0, .int .i64 0, .int .i64 0, .int .i64 0, .int .i64 0, .int .i64 0, .bool false, .slice none 0 0, .int .i64 0, .int .i64 0] 32) = W at HB x1 x2
  have r1 := hok.1.2.2.1.grew evC_ne HB
  have k19 := x1.cell 19
  simp at k19
  have hwl := x2.lt
  go_enter Try.func18, Try.ntmps18
  go_wp2_with fail
  refine (cloneEv_any a.ac.la a.ac.lb a.ac.ln a.ac.lcap a.ac.es _ hn r1).mono ?_
  rintro e w3 ⟨la, cap, rfl, hc1, hc2, hb, oL⟩
  clear k19 r1 hW
  have hV : w.heap.size + 1 < W.heap.size := hwl
  replace x1 := x1.grew hb
  replace x2 := x2.grew hb
  replace HB := below_app HB hb HB.size
  clear hb
  have k19 := x1.cell 19
  have f19 := x1.froz 19
  simp at k19
  have z1 := x1.put 19 (.slice la a.ac.ln cap)
  have z2 := x2.other (q := ⟨w.heap.size, 19, none⟩) (by simp) (.slice la a.ac.ln cap)
  have zb := HB.setCell (p := ⟨w.heap.size, 19, none⟩) (Nat.le_refl _) (.slice la a.ac.ln cap)
  simp only [List.setIfInBounds_toArray, List.set_cons_zero, List.set_cons_succ] at z1
  have zo : ∃ lb, w.heap.size ≤ lb ∧ lb < (w3.setCell ⟨w.heap.size, 19, none⟩ (.slice la a.ac.ln cap)).heap.size ∧ lb ≠ w.heap.size + 1 ∧ RdE evC 7 (w3.setCell ⟨w.heap.size, 19, none⟩ (.slice la a.ac.ln cap)) lb la a.ac.ln a.ac.es ∧ Free (w3.setCell ⟨w.heap.size, 19, none⟩ (.slice la a.ac.ln cap)) lb := by
    rcases oL with ⟨h1, h2⟩ | ⟨q, hq_, oq⟩
    · exact ⟨w.heap.size, Nat.le_refl _, z1.lt, by omega, .inl h1, free_row z1⟩
    · have oq' := oq.setCell (q := ⟨w.heap.size, 19, none⟩) (by have := oq.1; simp; omega) (.slice la a.ac.ln cap)
      exact ⟨q, by have := oq.1; omega, oq'.2.1, by have := oq.1; omega, oq'.2.2⟩
  go_upto_region 2 with fail
  generalize hU : w3.setCell ⟨w.heap.size, 19, none⟩ (.slice la a.ac.ln cap) = U at z1 z2 zb zo ⊢
  clear x1 x2 HB k19 f19 oL hU
  obtain ⟨lb, zo1, zo2, zo3, zo4, zo5⟩ := zo
  as_aux_lemma =>
    go_wp2_with first | (refine wpList_load_row rfl 32 _ rfl (w.heap.size) (by rfl) _ _ _ _ z1 Try.underlying32 rfl (by kernel_rfl) ?_) | (refine wpList_store_row rfl 32 (.tmp 2) _ rfl (w.heap.size + 1) _ (by rfl) (by rfl) _ _ z2 (by kernel_rfl) (by rfl) (by simp [Value.oneCell']) ?_)
    (try simp only [Exit.inBlock, Exit.then]); refine bodyPost_ret (results_cell_row rfl _ _ (w.heap.size + 1) _ _ _ _ rfl (setRow_heap _ _ _ _ _ _ z2) Try.underlying32 rfl (by kernel_rfl)) rfl ?_
    exact ⟨⟨a.id, a.si, a.sr, a.cl, a.pt, a.gd, ⟨a.ac.kd, a.ac.nn, a.ac.pi, a.ac.si, a.ac.zo, a.ac.be, la, a.ac.ln, cap, lb, a.ac.es⟩, a.un, a.le⟩, rfl, below_setRow zb (by omega) _, ⟨hc1, hc2, OwnE.setRow (g := w.heap.size + 1) ⟨zo1, zo2, zo4, zo5⟩ zo3 _⟩, ⟨rfl, rfl, rfl, rfl, rfl, rfl, ⟨rfl, rfl, rfl, rfl, rfl, rfl, rfl, rfl⟩, rfl, rfl⟩⟩
end Go.Proofs.Ytodfdfncdoliiad
namespace Go.Proofs.Ytodfdfncdoliiad
open Go.ChangeShapes Go.WideShapes Go.ChangeAt Go.RowKit
set_option maxRecDepth 100000
set_option linter.unusedVariables false
set_option linter.unusedSimpArgs false

def eflx (a : Ef) : Array Value := #[.int .i64 a.id, .int .i64 a.si, .int .i64 a.sr, .int .i64 a.cl, .int .i64 a.pt.kd, .int .i64 a.pt.wh, .int .i64 a.pt.sr, .int .i64 a.pt.tr, .int .i64 a.pt.pi, .int .i64 a.pt.le, .int .i64 a.pt.zo, .int .i64 a.gd.kd, .int .i64 a.gd.nn, .int .i64 a.ac.kd, .int .i64 a.ac.nn, .int .i64 a.ac.pi, .int .i64 a.ac.si, .int .i64 a.ac.zo, .bool a.ac.be, .slice a.ac.la a.ac.ln a.ac.lcap, .int .i64 a.un, .int .i64 a.le]
theorem wf_i64S {x : Int} (h1 : -9223372036854775808 ≤ x) (h2 : x ≤ 9223372036854775807) : (Lit.int .i64 x).wf = true := by
  have e1 : IntKind.min .i64 = -9223372036854775808 := by decide
  have e2 : IntKind.max .i64 = 9223372036854775807 := by decide
  simp only [Lit.wf, e1, e2, Bool.and_eq_true, decide_eq_true_eq]
  omega
theorem AlikeF.transS {s t a : Ef} (h : AlikeF s t) (k : AlikeF t a) : AlikeF s a := ⟨h.id.trans k.id, h.si.trans k.si, h.sr.trans k.sr, h.cl.trans k.cl, h.pt.trans k.pt, h.gd.trans k.gd, ⟨h.ac.kd.trans k.ac.kd, h.ac.nn.trans k.ac.nn, h.ac.pi.trans k.ac.pi, h.ac.si.trans k.ac.si, h.ac.zo.trans k.ac.zo, h.ac.be.trans k.ac.be, h.ac.ln.trans k.ac.ln, h.ac.es.trans k.ac.es⟩, h.un.trans k.un, h.le.trans k.le⟩
set_option maxHeartbeats 4000000 in
theorem isp_0 (a : Ef) (n : Int) (w : World) (hok : a.okW w) (hn : a.ac.ln ≤ 1048577) (h0 : (a.ac.kd == 2) = true) : Calls Try.prog 6 #[(.agg #[.int .i64 a.id, .int .i64 a.si, .int .i64 a.sr, .int .i64 a.cl, .int .i64 a.pt.kd, .int .i64 a.pt.wh, .int .i64 a.pt.sr, .int .i64 a.pt.tr, .int .i64 a.pt.pi, .int .i64 a.pt.le, .int .i64 a.pt.zo, .int .i64 a.gd.kd, .int .i64 a.gd.nn, .int .i64 a.ac.kd, .int .i64 a.ac.nn, .int .i64 a.ac.pi, .int .i64 a.ac.si, .int .i64 a.ac.zo, .bool a.ac.be, .slice a.ac.la a.ac.ln a.ac.lcap, .int .i64 a.un, .int .i64 a.le]), .int .i64 n] w fun e w' => ∃ t : Ef, e = .returned (.agg #[.int .i64 t.id, .int .i64 t.si, .int .i64 t.sr, .int .i64 t.cl, .int .i64 t.pt.kd, .int .i64 t.pt.wh, .int .i64 t.pt.sr, .int .i64 t.pt.tr, .int .i64 t.pt.pi, .int .i64 t.pt.le, .int .i64 t.pt.zo, .int .i64 t.gd.kd, .int .i64 t.gd.nn, .int .i64 t.ac.kd, .int .i64 t.ac.nn, .int .i64 t.ac.pi, .int .i64 t.ac.si, .int .i64 t.ac.zo, .bool t.ac.be, .slice t.ac.la t.ac.ln t.ac.lcap, .int .i64 t.un, .int .i64 t.le]) ∧ Below w.heap.size w w' ∧ OwnF w' w.heap.size t ∧ AlikeF t (spE a n) := by
  have HL : Hid (lfE a n = (up (ls a.le n) 2147483647)) := by show _ = _; unfold lfE; simp at h0; simp [*]
  have HM : (if ls a.le n > 0 then ls a.le n else 0) = (up (ls a.le n) 2147483647) := by have h9 : -2147483647 ≤ ls a.le n ∧ ls a.le n ≤ 2147483647 := bnd_rng _; unfold up upt; (repeat' split) <;> omega
  have HB := ((Below.refl _ w).alloc (Nat.le_refl _) (.cells #[.int .i64 a.id, .int .i64 a.si, .int .i64 a.sr, .int .i64 a.cl, .int .i64 a.pt.kd, .int .i64 a.pt.wh, .int .i64 a.pt.sr, .int .i64 a.pt.tr, .int .i64 a.pt.pi, .int .i64 a.pt.le, .int .i64 a.pt.zo, .int .i64 a.gd.kd, .int .i64 a.gd.nn, .int .i64 a.ac.kd, .int .i64 a.ac.nn, .int .i64 a.ac.pi, .int .i64 a.ac.si, .int .i64 a.ac.zo, .bool a.ac.be, .slice a.ac.la a.ac.ln a.ac.lcap, .int .i64 a.un, .int .i64 a.le] 32)).alloc (by simp) (.cells #[.int .i64 0, .int .i64 0, .int .i64 0, .int .i64 0, .int .i64 0, .int .i64 0, .int .i64 0, .int .i64 0, .int .i64 0, .int .i64 0, .int .i64 0, .int .i64 0, .int .i64 0, .int .i64 0, .int .i64 0, .int .i64 0, .int .i64 0, .int .i64 0, .bool false, .slice none 0 0, .int .i64 0, .int .i64 0] 32)
  have x1 := (boxR_new w 32 #[.int .i64 a.id, .int .i64 a.si, .int .i64 a.sr, .int .i64 a.cl, .int .i64 a.pt.kd, .int .i64 a.pt.wh, .int .i64 a.pt.sr, .int .i64 a.pt.tr, .int .i64 a.pt.pi, .int .i64 a.pt.le, .int .i64 a.pt.zo, .int .i64 a.gd.kd, .int .i64 a.gd.nn, .int .i64 a.ac.kd, .int .i64 a.ac.nn, .int .i64 a.ac.pi, .int .i64 a.ac.si, .int .i64 a.ac.zo, .bool a.ac.be, .slice a.ac.la a.ac.ln a.ac.lcap, .int .i64 a.un, .int .i64 a.le]).alloc (.cells #[.int .i64 0, .int .i64 0, .int .i64 0, .int .i64 0, .int .i64 0, .int .i64 0, .int .i64 0, .int .i64 0, .int .i64 0, .int .i64 0, .int .i64 0, .int .i64 0, .int .i64 0, .int .i64 0, .int .i64 0, .int .i64 0, .int .i64 0, .int .i64 0, .bool false, .slice none 0 0, .int .i64 0, .int .i64 0] 32)
  have x2 : BoxR ((w.alloc (.cells #[.int .i64 a.id, .int .i64 a.si, .int .i64 a.sr, .int .i64 a.cl, .int .i64 a.pt.kd, .int .i64 a.pt.wh, .int .i64 a.pt.sr, .int .i64 a.pt.tr, .int .i64 a.pt.pi, .int .i64 a.pt.le, .int .i64 a.pt.zo, .int .i64 a.gd.kd, .int .i64 a.gd.nn, .int .i64 a.ac.kd, .int .i64 a.ac.nn, .int .i64 a.ac.pi, .int .i64 a.ac.si, .int .i64 a.ac.zo, .bool a.ac.be, .slice a.ac.la a.ac.ln a.ac.lcap, .int .i64 a.un, .int .i64 a.le] 32)).alloc (.cells #[.int .i64 0, .int .i64 0, .int .i64 0, .int .i64 0, .int .i64 0, .int .i64 0, .int .i64 0, .int .i64 0, .int .i64 0, .int .i64 0, .int .i64 0, .int .i64 0, .int .i64 0, .int .i64 0, .int .i64 0, .int .i64 0, .int .i64 0, .int .i64 0, .bool false, .slice none 0 0, .int .i64 0, .int .i64 0] 32)) (w.heap.size + 1) 32 #[.int .i64 0, .int .i64 0, .int .i64 0, .int .i64 0, .int .i64 0, .int .i64 0, .int .i64 0, .int .i64 0, .int .i64 0, .int .i64 0, .int .i64 0, .int .i64 0, .int .i64 0, .int .i64 0, .int .i64 0, .int .i64 0, .int .i64 0, .int .i64 0, .bool false, .slice none 0 0, .int .i64 0, .int .i64 0] := heap_alloc2_new _ _ _
  generalize hW : (w.alloc (.cells #[.int .i64 a.id, .int .i64 a.si, .int .i64 a.sr, .int .i64 a.cl, .int .i64 a.pt.kd, .int .i64 a.pt.wh, .int .i64 a.pt.sr, .int .i64 a.pt.tr, .int .i64 a.pt.pi, .int .i64 a.pt.le, .int .i64 a.pt.zo, .int .i64 a.gd.kd, .int .i64 a.gd.nn, .int .i64 a.ac.kd, .int .i64 a.ac.nn, .int .i64 a.ac.pi, .int .i64 a.ac.si, .int .i64 a.ac.zo, .bool a.ac.be, .slice a.ac.la a.ac.ln a.ac.lcap, .int .i64 a.un, .int .i64 a.le] 32)).alloc (.cells #[.int .i64 0, .int .i64 0, .int .i64 0, .int .i64 0, .int .i64 0, .int .i64 0, .int .i64 0, .int .i64 0, .int .i64 0, .int .i64 0, .int .i64 0, .int .i64 0, .int .i64 0, .int .i64 0, .int .i64 0, .int .i64 0, .int .i64 0, .int .i64 0, .bool false, .slice none 0 0, .int .i64 0, .int .i64 0] 32) = W at HB x1 x2
  have k13 := x1.cell 13
  have k21 := x1.cell 21
  simp at k13 k21
  go_enter Try.func6, Try.ntmps6
  go_wp2_with fail
  refine (implLess_b a.le n (Below.refl W.heap.size W) (Nat.le_refl _)).mono ?_
  rintro e w1 ⟨rfl, hb, _⟩
  clear k13 k21 hW
  replace x1 := x1.grew hb
  replace x2 := x2.grew hb
  replace HB := below_app HB hb HB.size
  clear hb
  have k21 := x1.cell 21
  have f21 := x1.froz 21
  simp at k21
  have y1 := x1.put 21 (.int .i64 (up (ls a.le n) 2147483647))
  have y2 := x2.other (q := ⟨w.heap.size, 21, none⟩) (by simp) (.int .i64 (up (ls a.le n) 2147483647))
  have yb := HB.setCell (p := ⟨w.heap.size, 21, none⟩) (Nat.le_refl _) (.int .i64 (up (ls a.le n) 2147483647))
  simp only [List.setIfInBounds_toArray, List.set_cons_zero, List.set_cons_succ] at y1
  go_upto_region 5 with fail
  generalize hU : w1.setCell ⟨w.heap.size, 21, none⟩ (.int .i64 (up (ls a.le n) 2147483647)) = V at y1 y2 yb ⊢
  clear x1 x2 HB k21 f21 hU
  as_aux_lemma =>
    have hwf : (Lit.int .i64 ((up (ls a.le n) 2147483647))).wf = true := by have h9 : -2147483647 ≤ ls a.le n ∧ ls a.le n ≤ 2147483647 := bnd_rng _; refine wf_i64S ?_ ?_ <;> (unfold up upt; (repeat' split) <;> omega)
    obtain ⟨b, hbe⟩ : ∃ b : Ef, Hid (b = ({ a with le := (up (ls a.le n) 2147483647) } : Ef)) := ⟨_, (rfl : ({ a with le := (up (ls a.le n) 2147483647) } : Ef) = _)⟩
    have bok : b.okW V := by rw [hbe.out]; exact ⟨(efw_grew hok yb).1, hwf⟩
    have hAl : Hid (AlikeF b (spE a n)) := (by rw [hbe.out]; exact ⟨rfl, rfl, rfl, rfl, rfl, rfl, ⟨rfl, rfl, rfl, rfl, rfl, rfl, rfl, rfl⟩, rfl, by show _ = lfE a n; rw [HL.out]⟩ : AlikeF b (spE a n))
    have y9 : BoxR V w.heap.size 32 (eflx b) := by rw [hbe.out]; exact y1
    have hn9 : b.ac.ln ≤ 1048577 := by rw [hbe.out]; exact hn
    unfold eflx at y9
    have hwl := y2.lt
    clear y1 hok hn hwf hbe
    go_wp2_with (refine wpList_load_row rfl 32 _ rfl (w.heap.size) (by rfl) _ _ _ _ y9 Try.underlying32 rfl (by kernel_rfl) ?_)
    refine (fresh_any b _ bok hn9).mono ?_
    rintro e w3 ⟨t, rfl, hb, ot, kt⟩
    have hlt := ot.2.2.1
    replace y2 := y2.grew hb
    replace yb := below_app yb hb yb.size
    clear hb y9 bok
    go_wp2_with (refine wpList_store_row rfl 32 (.tmp 4) _ rfl (w.heap.size + 1) _ (by rfl) (by rfl) _ _ y2 (by kernel_rfl) (by rfl) (by simp [Value.oneCell']) ?_)
    (try simp only [Exit.inBlock, Exit.then]); refine bodyPost_ret (results_cell_row rfl _ _ (w.heap.size + 1) _ _ _ _ rfl (setRow_heap _ _ _ _ _ _ y2) Try.underlying32 rfl (by kernel_rfl)) rfl ?_
    exact ⟨t, rfl, below_setRow yb (by omega) _, ⟨ot.1, ot.2.1, OwnE.setRow (g := w.heap.size + 1) ⟨by omega, ot.2.2.2⟩ (by omega) _⟩, AlikeF.transS kt hAl.out⟩
set_option maxHeartbeats 4000000 in
theorem isp_1 (a : Ef) (n : Int) (w : World) (hok : a.okW w) (hn : a.ac.ln ≤ 1048577) (h0 : (a.ac.kd == 2) = false) (h1 : decide (a.le > 0) = true) : Calls Try.prog 6 #[(.agg #[.int .i64 a.id, .int .i64 a.si, .int .i64 a.sr, .int .i64 a.cl, .int .i64 a.pt.kd, .int .i64 a.pt.wh, .int .i64 a.pt.sr, .int .i64 a.pt.tr, .int .i64 a.pt.pi, .int .i64 a.pt.le, .int .i64 a.pt.zo, .int .i64 a.gd.kd, .int .i64 a.gd.nn, .int .i64 a.ac.kd, .int .i64 a.ac.nn, .int .i64 a.ac.pi, .int .i64 a.ac.si, .int .i64 a.ac.zo, .bool a.ac.be, .slice a.ac.la a.ac.ln a.ac.lcap, .int .i64 a.un, .int .i64 a.le]), .int .i64 n] w fun e w' => ∃ t : Ef, e = .returned (.agg #[.int .i64 t.id, .int .i64 t.si, .int .i64 t.sr, .int .i64 t.cl, .int .i64 t.pt.kd, .int .i64 t.pt.wh, .int .i64 t.pt.sr, .int .i64 t.pt.tr, .int .i64 t.pt.pi, .int .i64 t.pt.le, .int .i64 t.pt.zo, .int .i64 t.gd.kd, .int .i64 t.gd.nn, .int .i64 t.ac.kd, .int .i64 t.ac.nn, .int .i64 t.ac.pi, .int .i64 t.ac.si, .int .i64 t.ac.zo, .bool t.ac.be, .slice t.ac.la t.ac.ln t.ac.lcap, .int .i64 t.un, .int .i64 t.le]) ∧ Below w.heap.size w w' ∧ OwnF w' w.heap.size t ∧ AlikeF t (spE a n) := by
  have HL : Hid (lfE a n = (a.le - 1)) := by show _ = _; unfold lfE; simp at h0 h1; simp [*]
  have hi : -9223372036854775808 ≤ a.le - 1 ∧ a.le - 1 ≤ 9223372036854775807 := by have h8 := hok.2; simp [Lit.wf] at h8 h1; first | omega | (simp [IntKind.min, IntKind.max] at h8; omega)
  have HB := ((Below.refl _ w).alloc (Nat.le_refl _) (.cells #[.int .i64 a.id, .int .i64 a.si, .int .i64 a.sr, .int .i64 a.cl, .int .i64 a.pt.kd, .int .i64 a.pt.wh, .int .i64 a.pt.sr, .int .i64 a.pt.tr, .int .i64 a.pt.pi, .int .i64 a.pt.le, .int .i64 a.pt.zo, .int .i64 a.gd.kd, .int .i64 a.gd.nn, .int .i64 a.ac.kd, .int .i64 a.ac.nn, .int .i64 a.ac.pi, .int .i64 a.ac.si, .int .i64 a.ac.zo, .bool a.ac.be, .slice a.ac.la a.ac.ln a.ac.lcap, .int .i64 a.un, .int .i64 a.le] 32)).alloc (by simp) (.cells #[.int .i64 0, .int .i64 0, .int .i64 0, .int .i64 0, .int .i64 0, .int .i64 0, .int .i64 0, .int .i64 0, .int .i64 0, .int .i64 0, .int .i64 0, .int .i64 0, .int .i64 0, .int .i64 0, .int .i64 0, .int .i64 0, .int .i64 0, .int .i64 0, .bool false, .slice none 0 0, .int .i64 0, .int .i64 0] 32)
  have x1 := (boxR_new w 32 #[.int .i64 a.id, .int .i64 a.si, .int .i64 a.sr, .int .i64 a.cl, .int .i64 a.pt.kd, .int .i64 a.pt.wh, .int .i64 a.pt.sr, .int .i64 a.pt.tr, .int .i64 a.pt.pi, .int .i64 a.pt.le, .int .i64 a.pt.zo, .int .i64 a.gd.kd, .int .i64 a.gd.nn, .int .i64 a.ac.kd, .int .i64 a.ac.nn, .int .i64 a.ac.pi, .int .i64 a.ac.si, .int .i64 a.ac.zo, .bool a.ac.be, .slice a.ac.la a.ac.ln a.ac.lcap, .int .i64 a.un, .int .i64 a.le]).alloc (.cells #[.int .i64 0, .int .i64 0, .int .i64 0, .int .i64 0, .int .i64 0, .int .i64 0, .int .i64 0, .int .i64 0, .int .i64 0, .int .i64 0, .int .i64 0, .int .i64 0, .int .i64 0, .int .i64 0, .int .i64 0, .int .i64 0, .int .i64 0, .int .i64 0, .bool false, .slice none 0 0, .int .i64 0, .int .i64 0] 32)
  have x2 : BoxR ((w.alloc (.cells #[.int .i64 a.id, .int .i64 a.si, .int .i64 a.sr, .int .i64 a.cl, .int .i64 a.pt.kd, .int .i64 a.pt.wh, .int .i64 a.pt.sr, .int .i64 a.pt.tr, .int .i64 a.pt.pi, .int .i64 a.pt.le, .int .i64 a.pt.zo, .int .i64 a.gd.kd, .int .i64 a.gd.nn, .int .i64 a.ac.kd, .int .i64 a.ac.nn, .int .i64 a.ac.pi, .int .i64 a.ac.si, .int .i64 a.ac.zo, .bool a.ac.be, .slice a.ac.la a.ac.ln a.ac.lcap, .int .i64 a.un, .int .i64 a.le] 32)).alloc (.cells #[.int .i64 0, .int .i64 0, .int .i64 0, .int .i64 0, .int .i64 0, .int .i64 0, .int .i64 0, .int .i64 0, .int .i64 0, .int .i64 0, .int .i64 0, .int .i64 0, .int .i64 0, .int .i64 0, .int .i64 0, .int .i64 0, .int .i64 0, .int .i64 0, .bool false, .slice none 0 0, .int .i64 0, .int .i64 0] 32)) (w.heap.size + 1) 32 #[.int .i64 0, .int .i64 0, .int .i64 0, .int .i64 0, .int .i64 0, .int .i64 0, .int .i64 0, .int .i64 0, .int .i64 0, .int .i64 0, .int .i64 0, .int .i64 0, .int .i64 0, .int .i64 0, .int .i64 0, .int .i64 0, .int .i64 0, .int .i64 0, .bool false, .slice none 0 0, .int .i64 0, .int .i64 0] := heap_alloc2_new _ _ _
  generalize hW : (w.alloc (.cells #[.int .i64 a.id, .int .i64 a.si, .int .i64 a.sr, .int .i64 a.cl, .int .i64 a.pt.kd, .int .i64 a.pt.wh, .int .i64 a.pt.sr, .int .i64 a.pt.tr, .int .i64 a.pt.pi, .int .i64 a.pt.le, .int .i64 a.pt.zo, .int .i64 a.gd.kd, .int .i64 a.gd.nn, .int .i64 a.ac.kd, .int .i64 a.ac.nn, .int .i64 a.ac.pi, .int .i64 a.ac.si, .int .i64 a.ac.zo, .bool a.ac.be, .slice a.ac.la a.ac.ln a.ac.lcap, .int .i64 a.un, .int .i64 a.le] 32)).alloc (.cells #[.int .i64 0, .int .i64 0, .int .i64 0, .int .i64 0, .int .i64 0, .int .i64 0, .int .i64 0, .int .i64 0, .int .i64 0, .int .i64 0, .int .i64 0, .int .i64 0, .int .i64 0, .int .i64 0, .int .i64 0, .int .i64 0, .int .i64 0, .int .i64 0, .bool false, .slice none 0 0, .int .i64 0, .int .i64 0] 32) = W at HB x1 x2
  have r1 := hok.1.2.2.1.grew evC_ne HB
  have k13 := x1.cell 13
  have k21 := x1.cell 21
  simp at k13 k21
  have hwl := x2.lt
  have f21 := x1.froz 21
  have y1 := x1.put 21 (.int .i64 (a.le - 1))
  have y2 := x2.other (q := ⟨w.heap.size, 21, none⟩) (by simp) (.int .i64 (a.le - 1))
  have yb := HB.setCell (p := ⟨w.heap.size, 21, none⟩) (Nat.le_refl _) (.int .i64 (a.le - 1))
  have yr := hok.1.2.2.1.grew evC_ne yb
  simp only [List.setIfInBounds_toArray, List.set_cons_zero, List.set_cons_succ] at y1
  go_enter Try.func6, Try.ntmps6
  go_upto_region 5 with fail
  generalize hU : W.setCell ⟨w.heap.size, 21, none⟩ (.int .i64 (a.le - 1)) = V at y1 y2 yb yr ⊢
  clear x1 x2 HB k13 k21 f21 hU hW r1 hwl yr
  as_aux_lemma =>
    have hwf : (Lit.int .i64 ((a.le - 1))).wf = true := wf_i64S (by omega) (by omega)
    obtain ⟨b, hbe⟩ : ∃ b : Ef, Hid (b = ({ a with le := (a.le - 1) } : Ef)) := ⟨_, (rfl : ({ a with le := (a.le - 1) } : Ef) = _)⟩
    have bok : b.okW V := by rw [hbe.out]; exact ⟨(efw_grew hok yb).1, hwf⟩
    have hAl : Hid (AlikeF b (spE a n)) := (by rw [hbe.out]; exact ⟨rfl, rfl, rfl, rfl, rfl, rfl, ⟨rfl, rfl, rfl, rfl, rfl, rfl, rfl, rfl⟩, rfl, by show _ = lfE a n; rw [HL.out]⟩ : AlikeF b (spE a n))
    have y9 : BoxR V w.heap.size 32 (eflx b) := by rw [hbe.out]; exact y1
    have hn9 : b.ac.ln ≤ 1048577 := by rw [hbe.out]; exact hn
    unfold eflx at y9
    have hwl := y2.lt
    clear y1 hok hn hwf hbe
    go_wp2_with (refine wpList_load_row rfl 32 _ rfl (w.heap.size) (by rfl) _ _ _ _ y9 Try.underlying32 rfl (by kernel_rfl) ?_)
    refine (fresh_any b _ bok hn9).mono ?_
    rintro e w3 ⟨t, rfl, hb, ot, kt⟩
    have hlt := ot.2.2.1
    replace y2 := y2.grew hb
    replace yb := below_app yb hb yb.size
    clear hb y9 bok
    go_wp2_with (refine wpList_store_row rfl 32 (.tmp 4) _ rfl (w.heap.size + 1) _ (by rfl) (by rfl) _ _ y2 (by kernel_rfl) (by rfl) (by simp [Value.oneCell']) ?_)
    (try simp only [Exit.inBlock, Exit.then]); refine bodyPost_ret (results_cell_row rfl _ _ (w.heap.size + 1) _ _ _ _ rfl (setRow_heap _ _ _ _ _ _ y2) Try.underlying32 rfl (by kernel_rfl)) rfl ?_
    exact ⟨t, rfl, below_setRow yb (by omega) _, ⟨ot.1, ot.2.1, OwnE.setRow (g := w.heap.size + 1) ⟨by omega, ot.2.2.2⟩ (by omega) _⟩, AlikeF.transS kt hAl.out⟩
set_option maxHeartbeats 4000000 in
theorem isp_2 (a : Ef) (n : Int) (w : World) (hok : a.okW w) (hn : a.ac.ln ≤ 1048577) (h0 : (a.ac.kd == 2) = false) (h1 : decide (a.le > 0) = false) : Calls Try.prog 6 #[(.agg #[.int .i64 a.id, .int .i64 a.si, .int .i64 a.sr, .int .i64 a.cl, .int .i64 a.pt.kd, .int .i64 a.pt.wh, .int .i64 a.pt.sr, .int .i64 a.pt.tr, .int .i64 a.pt.pi, .int .i64 a.pt.le, .int .i64 a.pt.zo, .int .i64 a.gd.kd, .int .i64 a.gd.nn, .int .i64 a.ac.kd, .int .i64 a.ac.nn, .int .i64 a.ac.pi, .int .i64 a.ac.si, .int .i64 a.ac.zo, .bool a.ac.be, .slice a.ac.la a.ac.ln a.ac.lcap, .int .i64 a.un, .int .i64 a.le]), .int .i64 n] w fun e w' => ∃ t : Ef, e = .returned (.agg #[.int .i64 t.id, .int .i64 t.si, .int .i64 t.sr, .int .i64 t.cl, .int .i64 t.pt.kd, .int .i64 t.pt.wh, .int .i64 t.pt.sr, .int .i64 t.pt.tr, .int .i64 t.pt.pi, .int .i64 t.pt.le, .int .i64 t.pt.zo, .int .i64 t.gd.kd, .int .i64 t.gd.nn, .int .i64 t.ac.kd, .int .i64 t.ac.nn, .int .i64 t.ac.pi, .int .i64 t.ac.si, .int .i64 t.ac.zo, .bool t.ac.be, .slice t.ac.la t.ac.ln t.ac.lcap, .int .i64 t.un, .int .i64 t.le]) ∧ Below w.heap.size w w' ∧ OwnF w' w.heap.size t ∧ AlikeF t (spE a n) := by
  have HL : Hid (lfE a n = a.le) := by show _ = _; unfold lfE; simp at h0 h1; rw [if_neg h0, if_neg (by omega)]
  have HB := ((Below.refl _ w).alloc (Nat.le_refl _) (.cells #[.int .i64 a.id, .int .i64 a.si, .int .i64 a.sr, .int .i64 a.cl, .int .i64 a.pt.kd, .int .i64 a.pt.wh, .int .i64 a.pt.sr, .int .i64 a.pt.tr, .int .i64 a.pt.pi, .int .i64 a.pt.le, .int .i64 a.pt.zo, .int .i64 a.gd.kd, .int .i64 a.gd.nn, .int .i64 a.ac.kd, .int .i64 a.ac.nn, .int .i64 a.ac.pi, .int .i64 a.ac.si, .int .i64 a.ac.zo, .bool a.ac.be, .slice a.ac.la a.ac.ln a.ac.lcap, .int .i64 a.un, .int .i64 a.le] 32)).alloc (by simp) (.cells #[.int .i64 0, .int .i64 0, .int .i64 0, .int .i64 0, .int .i64 0, .int .i64 0, .int .i64 0, .int .i64 0, .int .i64 0, .int .i64 0, .int .i64 0, .int .i64 0, .int .i64 0, .int .i64 0, .int .i64 0, .int .i64 0, .int .i64 0, .int .i64 0, .bool false, .slice none 0 0, .int .i64 0, .int .i64 0] 32)
  have x1 := (boxR_new w 32 #[.int .i64 a.id, .int .i64 a.si, .int .i64 a.sr, .int .i64 a.cl, .int .i64 a.pt.kd, .int .i64 a.pt.wh, .int .i64 a.pt.sr, .int .i64 a.pt.tr, .int .i64 a.pt.pi, .int .i64 a.pt.le, .int .i64 a.pt.zo, .int .i64 a.gd.kd, .int .i64 a.gd.nn, .int .i64 a.ac.kd, .int .i64 a.ac.nn, .int .i64 a.ac.pi, .int .i64 a.ac.si, .int .i64 a.ac.zo, .bool a.ac.be, .slice a.ac.la a.ac.ln a.ac.lcap, .int .i64 a.un, .int .i64 a.le]).alloc (.cells #[.int .i64 0, .int .i64 0, .int .i64 0, .int .i64 0, .int .i64 0, .int .i64 0, .int .i64 0, .int .i64 0, .int .i64 0, .int .i64 0, .int .i64 0, .int .i64 0, .int .i64 0, .int .i64 0, .int .i64 0, .int .i64 0, .int .i64 0, .int .i64 0, .bool false, .slice none 0 0, .int .i64 0, .int .i64 0] 32)
  have x2 : BoxR ((w.alloc (.cells #[.int .i64 a.id, .int .i64 a.si, .int .i64 a.sr, .int .i64 a.cl, .int .i64 a.pt.kd, .int .i64 a.pt.wh, .int .i64 a.pt.sr, .int .i64 a.pt.tr, .int .i64 a.pt.pi, .int .i64 a.pt.le, .int .i64 a.pt.zo, .int .i64 a.gd.kd, .int .i64 a.gd.nn, .int .i64 a.ac.kd, .int .i64 a.ac.nn, .int .i64 a.ac.pi, .int .i64 a.ac.si, .int .i64 a.ac.zo, .bool a.ac.be, .slice a.ac.la a.ac.ln a.ac.lcap, .int .i64 a.un, .int .i64 a.le] 32)).alloc (.cells #[.int .i64 0, .int .i64 0, .int .i64 0, .int .i64 0, .int .i64 0, .int .i64 0, .int .i64 0, .int .i64 0, .int .i64 0, .int .i64 0, .int .i64 0, .int .i64 0, .int .i64 0, .int .i64 0, .int .i64 0, .int .i64 0, .int .i64 0, .int .i64 0, .bool false, .slice none 0 0, .int .i64 0, .int .i64 0] 32)) (w.heap.size + 1) 32 #[.int .i64 0, .int .i64 0, .int .i64 0, .int .i64 0, .int .i64 0, .int .i64 0, .int .i64 0, .int .i64 0, .int .i64 0, .int .i64 0, .int .i64 0, .int .i64 0, .int .i64 0, .int .i64 0, .int .i64 0, .int .i64 0, .int .i64 0, .int .i64 0, .bool false, .slice none 0 0, .int .i64 0, .int .i64 0] := heap_alloc2_new _ _ _
  generalize hW : (w.alloc (.cells #[.int .i64 a.id, .int .i64 a.si, .int .i64 a.sr, .int .i64 a.cl, .int .i64 a.pt.kd, .int .i64 a.pt.wh, .int .i64 a.pt.sr, .int .i64 a.pt.tr, .int .i64 a.pt.pi, .int .i64 a.pt.le, .int .i64 a.pt.zo, .int .i64 a.gd.kd, .int .i64 a.gd.nn, .int .i64 a.ac.kd, .int .i64 a.ac.nn, .int .i64 a.ac.pi, .int .i64 a.ac.si, .int .i64 a.ac.zo, .bool a.ac.be, .slice a.ac.la a.ac.ln a.ac.lcap, .int .i64 a.un, .int .i64 a.le] 32)).alloc (.cells #[.int .i64 0, .int .i64 0, .int .i64 0, .int .i64 0, .int .i64 0, .int .i64 0, .int .i64 0, .int .i64 0, .int .i64 0, .int .i64 0, .int .i64 0, .int .i64 0, .int .i64 0, .int .i64 0, .int .i64 0, .int .i64 0, .int .i64 0, .int .i64 0, .bool false, .slice none 0 0, .int .i64 0, .int .i64 0] 32) = W at HB x1 x2
  have r1 := hok.1.2.2.1.grew evC_ne HB
  have k13 := x1.cell 13
  have k21 := x1.cell 21
  simp at k13 k21
  have hwl := x2.lt
  go_enter Try.func6, Try.ntmps6
  go_upto_region 5 with fail
  clear k13 k21 hW r1 hwl
  have y1 := x1
  have y2 := x2
  have yb := HB
  clear x1 x2 HB
  as_aux_lemma =>
    have hwf : (Lit.int .i64 (a.le)).wf = true := hok.2
    obtain ⟨b, hbe⟩ : ∃ b : Ef, Hid (b = ({ a with le := a.le } : Ef)) := ⟨_, (rfl : ({ a with le := a.le } : Ef) = _)⟩
    have bok : b.okW W := by rw [hbe.out]; exact ⟨(efw_grew hok yb).1, hwf⟩
    have hAl : Hid (AlikeF b (spE a n)) := (by rw [hbe.out]; exact ⟨rfl, rfl, rfl, rfl, rfl, rfl, ⟨rfl, rfl, rfl, rfl, rfl, rfl, rfl, rfl⟩, rfl, by show _ = lfE a n; rw [HL.out]⟩ : AlikeF b (spE a n))
    have y9 : BoxR W w.heap.size 32 (eflx b) := by rw [hbe.out]; exact y1
    have hn9 : b.ac.ln ≤ 1048577 := by rw [hbe.out]; exact hn
    unfold eflx at y9
    have hwl := y2.lt
    clear y1 hok hn hwf hbe
    go_wp2_with (refine wpList_load_row rfl 32 _ rfl (w.heap.size) (by rfl) _ _ _ _ y9 Try.underlying32 rfl (by kernel_rfl) ?_)
    refine (fresh_any b _ bok hn9).mono ?_
    rintro e w3 ⟨t, rfl, hb, ot, kt⟩
    have hlt := ot.2.2.1
    replace y2 := y2.grew hb
    replace yb := below_app yb hb yb.size
    clear hb y9 bok
    go_wp2_with (refine wpList_store_row rfl 32 (.tmp 4) _ rfl (w.heap.size + 1) _ (by rfl) (by rfl) _ _ y2 (by kernel_rfl) (by rfl) (by simp [Value.oneCell']) ?_)
    (try simp only [Exit.inBlock, Exit.then]); refine bodyPost_ret (results_cell_row rfl _ _ (w.heap.size + 1) _ _ _ _ rfl (setRow_heap _ _ _ _ _ _ y2) Try.underlying32 rfl (by kernel_rfl)) rfl ?_
    exact ⟨t, rfl, below_setRow yb (by omega) _, ⟨ot.1, ot.2.1, OwnE.setRow (g := w.heap.size + 1) ⟨by omega, ot.2.2.2⟩ (by omega) _⟩, AlikeF.transS kt hAl.out⟩
theorem implSpent_any (a : Ef) (n : Int) (w : World) (hok : a.okW w) (hn : a.ac.ln ≤ 1048577) : Calls Try.prog 6 #[(.agg #[.int .i64 a.id, .int .i64 a.si, .int .i64 a.sr, .int .i64 a.cl, .int .i64 a.pt.kd, .int .i64 a.pt.wh, .int .i64 a.pt.sr, .int .i64 a.pt.tr, .int .i64 a.pt.pi, .int .i64 a.pt.le, .int .i64 a.pt.zo, .int .i64 a.gd.kd, .int .i64 a.gd.nn, .int .i64 a.ac.kd, .int .i64 a.ac.nn, .int .i64 a.ac.pi, .int .i64 a.ac.si, .int .i64 a.ac.zo, .bool a.ac.be, .slice a.ac.la a.ac.ln a.ac.lcap, .int .i64 a.un, .int .i64 a.le]), .int .i64 n] w fun e w' => ∃ t : Ef, e = .returned (.agg #[.int .i64 t.id, .int .i64 t.si, .int .i64 t.sr, .int .i64 t.cl, .int .i64 t.pt.kd, .int .i64 t.pt.wh, .int .i64 t.pt.sr, .int .i64 t.pt.tr, .int .i64 t.pt.pi, .int .i64 t.pt.le, .int .i64 t.pt.zo, .int .i64 t.gd.kd, .int .i64 t.gd.nn, .int .i64 t.ac.kd, .int .i64 t.ac.nn, .int .i64 t.ac.pi, .int .i64 t.ac.si, .int .i64 t.ac.zo, .bool t.ac.be, .slice t.ac.la t.ac.ln t.ac.lcap, .int .i64 t.un, .int .i64 t.le]) ∧ Below w.heap.size w w' ∧ OwnF w' w.heap.size t ∧ AlikeF t (spE a n) := by
  cases h0 : (a.ac.kd == 2) with
  | true => exact isp_0 a n w hok hn h0
  | false =>
    cases h1 : decide (a.le > 0) with
    | true => exact isp_1 a n w hok hn h0 h1
    | false => exact isp_2 a n w hok hn h0 h1
end Go.Proofs.Ytodfdfncdoliiad
namespace Go.Proofs.Ytodfdfncdoliiad
open Go.ChangeShapes Go.WideShapes Go.ChangeAt Go.RowKit
set_option maxRecDepth 100000
set_option linter.unusedVariables false
set_option linter.unusedSimpArgs false

/-- of a piece; of a side -/
def pcE (e : Ev) : Bool := ib e.pi 1 99 && decide (e.si = -1)
def sdE (e : Ev) : Bool := decide (e.pi = 0) && ib e.si 0 2
def ok1 (e : Ev) : Bool := ib e.sr 1 99 && (pcE e || sdE e) && decide (e.zo = 0) && !e.be
def ok2 (e : Ev) : Bool := decide (e.sr = 0) && pcE e && ib e.zo 1 4 && decide (e.nn ≤ 99) && (decide (e.zo = 2) || decide (e.nn = 0) && !e.be)
def ok3 (e : Ev) : Bool := decide (e.sr = 0) && sdE e && decide (e.zo = 0) && !e.be
def ok5 (e : Ev) : Bool := decide (e.sr = 0) && pcE e && decide (e.zo = 0) && !e.be
/-- whether it may be -/
def okE (e : Ev) : Bool := ib e.nn 0 2147483647 && (if e.kd = 1 then ok1 e else if e.kd = 2 then ok2 e else if e.kd = 3 ∨ e.kd = 4 then ok3 e else if e.kd = 5 ∨ e.kd = 6 then ok5 e else false)
end Go.Proofs.Ytodfdfncdoliiad
namespace Go.Proofs.Ytodfdfncdoliiad
open Go.ChangeShapes Go.WideShapes Go.ChangeAt Go.RowKit
set_option maxRecDepth 100000
set_option linter.unusedVariables false
set_option linter.unusedSimpArgs false

end Go.Proofs.Ytodfdfncdoliiad
namespace Go.Proofs.Ytodfdfncdoliiad
open Go.ChangeShapes Go.WideShapes Go.ChangeAt Go.RowKit
set_option maxRecDepth 100000
set_option linter.unusedVariables false
set_option linter.unusedSimpArgs false

end Go.Proofs.Ytodfdfncdoliiad
namespace Go.Proofs.Ytodfdfncdoliiad
open Go.ChangeShapes Go.WideShapes Go.ChangeAt Go.RowKit
set_option maxRecDepth 100000
set_option linter.unusedVariables false
set_option linter.unusedSimpArgs false

end Go.Proofs.Ytodfdfncdoliiad
namespace Go.Proofs.Ytodfdfncdoliiad
open Go.ChangeShapes Go.WideShapes Go.ChangeAt Go.RowKit
set_option maxRecDepth 100000
set_option linter.unusedVariables false
set_option linter.unusedSimpArgs false

/-- whether a part is right: as it stands, or with another amount -/
def ptE (e : Ev) : Bool := okE (bif decide (e.nn = -1) && !decide (e.kd = 2) then { e with nn := 0 } else e)
/-- whether an act names nothing but its kind, and perhaps an amount -/
def plA (a : Ac) : Bool := decide (a.pi = 0) && decide (a.si = -1) && decide (a.zo = 0) && !a.be && decide (a.ln = 0)
def fiA (a : Ac) (k : Int) : Bool := ib k 1 6 && (bif decide (a.kd = 2) || decide (a.kd = 6) then decide (k = 1) else bif decide (a.kd = 3) || decide (a.kd = 4) || decide (a.kd = 5) then !decide (k = 2) else bif decide (a.kd = 7) || decide (a.kd = 8) then decide (k = 2) else decide (a.kd = 1) || decide (a.kd = 9))
def amA (a : Ac) (n : Int) : Int := if a.kd = 1 then 0 else if a.kd = 3 then pl (up n 2147483647) a.nn else if a.kd = 4 then tw (up n 2147483647) else if a.kd = 5 then hf (up n 2147483647) else up n 2147483647
set_option maxHeartbeats 2000000 in
theorem specActFits_any (a : Ac) (k : Int) (w : World) : Calls Try.prog 65 #[(.agg #[.int .i64 a.kd, .int .i64 a.nn, .int .i64 a.pi, .int .i64 a.si, .int .i64 a.zo, .bool a.be, .slice a.la a.ln a.lcap]), .int .i64 k] w fun e w' => e = .returned (.bool (fiA a k)) ∧ Below w.heap.size w w' := by
  have HB := (Below.refl _ w).alloc (Nat.le_refl _) (.cells #[.int .i64 a.kd, .int .i64 a.nn, .int .i64 a.pi, .int .i64 a.si, .int .i64 a.zo, .bool a.be, .slice a.la a.ln a.lcap] 30)
  have bx := boxR_new w 30 #[.int .i64 a.kd, .int .i64 a.nn, .int .i64 a.pi, .int .i64 a.si, .int .i64 a.zo, .bool a.be, .slice a.la a.ln a.lcap]
  generalize hW : w.alloc (.cells #[.int .i64 a.kd, .int .i64 a.nn, .int .i64 a.pi, .int .i64 a.si, .int .i64 a.zo, .bool a.be, .slice a.la a.ln a.lcap] 30) = W at HB bx
  have c0 := bx.cell 0
  have c1 := bx.cell 1
  have c2 := bx.cell 2
  have c3 := bx.cell 3
  have c4 := bx.cell 4
  have c5 := bx.cell 5
  have c6 := bx.cell 6
  simp at c0 c1 c2 c3 c4 c5 c6
  go_enter Try.func65, Try.ntmps65
  go_wp2_with (go_at_call 72; refine (l1In_any _ _ _ _).mono ?_; rintro e w' ⟨rfl, rfl⟩)
  all_goals go_ret
  all_goals exact ⟨ret_bool' (by unfold fiA; first | (simp_all; done) | (rw [Bool.eq_iff_iff]; simp_all)), HB⟩
end Go.Proofs.Ytodfdfncdoliiad
