/-
  Chapter 10: the specification's l10Copy and Spent (spE). Written by tools/sp.gen.py. Own work.
-/
import Derived.Test.YtodfdfncdoliiauGreatGStNew2
import Derived.Test.YtodfdfncdoliiauGreatGEvA3
import Derived.Test.YtodfdfncdoliiauGreatGEfC2
import Derived.Deep.DeepCutAuto
import Derived.Deep.CutBlock
import Derived.Laws.OwnMore
namespace Go.Proofs.YtodfdfncdoliiauGreat
open Go.ChangeShapes Go.WideShapes Go.ChangeAt Go.RowKit
set_option maxRecDepth 100000
set_option linter.unusedVariables false
set_option linter.unusedSimpArgs false

/-- what is left of it -/
def lfE (a : Ef) (n : Int) : Int := if a.ac.kd = 2 then up (ls a.le n) 2147483647 else if 0 < a.le then a.le - 1 else a.le
def spE (a : Ef) (n : Int) : Ef := ⟨a.id, a.si, a.sr, a.cl, a.pt, a.gd, a.ac, a.un, lfE a n⟩
set_option maxHeartbeats 4000000 in
theorem l10Copy_any (a : Ef) (w : World) (hok : a.okW w) (hn : a.ac.ln ≤ 1048577) : Calls Tryz.prog 17 #[(.agg #[.int .i64 a.id, .int .i64 a.si, .int .i64 a.sr, .int .i64 a.cl, .int .i64 a.pt.kd, .int .i64 a.pt.wh, .int .i64 a.pt.sr, .int .i64 a.pt.tr, .int .i64 a.pt.pi, .int .i64 a.pt.le, .int .i64 a.pt.zo, .int .i64 a.gd.kd, .int .i64 a.gd.nn, .int .i64 a.ac.kd, .int .i64 a.ac.nn, .int .i64 a.ac.pi, .int .i64 a.ac.si, .int .i64 a.ac.zo, .bool a.ac.be, .slice a.ac.la a.ac.ln a.ac.lcap, .int .i64 a.un, .int .i64 a.le])] w fun e w' => ∃ t : Ef, e = .returned (.agg #[.int .i64 t.id, .int .i64 t.si, .int .i64 t.sr, .int .i64 t.cl, .int .i64 t.pt.kd, .int .i64 t.pt.wh, .int .i64 t.pt.sr, .int .i64 t.pt.tr, .int .i64 t.pt.pi, .int .i64 t.pt.le, .int .i64 t.pt.zo, .int .i64 t.gd.kd, .int .i64 t.gd.nn, .int .i64 t.ac.kd, .int .i64 t.ac.nn, .int .i64 t.ac.pi, .int .i64 t.ac.si, .int .i64 t.ac.zo, .bool t.ac.be, .slice t.ac.la t.ac.ln t.ac.lcap, .int .i64 t.un, .int .i64 t.le]) ∧ Below w.heap.size w w' ∧ OwnF w' w.heap.size t ∧ AlikeF t a := by
  have HB := ((Below.refl _ w).alloc (Nat.le_refl _) (.cells #[.int .i64 a.id, .int .i64 a.si, .int .i64 a.sr, .int .i64 a.cl, .int .i64 a.pt.kd, .int .i64 a.pt.wh, .int .i64 a.pt.sr, .int .i64 a.pt.tr, .int .i64 a.pt.pi, .int .i64 a.pt.le, .int .i64 a.pt.zo, .int .i64 a.gd.kd, .int .i64 a.gd.nn, .int .i64 a.ac.kd, .int .i64 a.ac.nn, .int .i64 a.ac.pi, .int .i64 a.ac.si, .int .i64 a.ac.zo, .bool a.ac.be, .slice a.ac.la a.ac.ln a.ac.lcap, .int .i64 a.un, .int .i64 a.le] 44)).alloc (by simp) (.cells #[.int .i64 0, .int .i64 0, .int .i64 0, .int .i64 0, .int .i64 0, .int .i64 0, .int .i64 0, .int .i64 0, .int .i64 0, .int .i64 0, .int .i64 0, .int .i64 0, .int .i64 0, .int .i64 0, .int .i64 0, .int .i64 0, .int .i64 0, .int .i64 0, .bool false, .slice none 0 0, .int .i64 0, .int .i64 0] 44)
  have x1 := (boxR_new w 44 #[.int .i64 a.id, .int .i64 a.si, .int .i64 a.sr, .int .i64 a.cl, .int .i64 a.pt.kd, .int .i64 a.pt.wh, .int .i64 a.pt.sr, .int .i64 a.pt.tr, .int .i64 a.pt.pi, .int .i64 a.pt.le, .int .i64 a.pt.zo, .int .i64 a.gd.kd, .int .i64 a.gd.nn, .int .i64 a.ac.kd, .int .i64 a.ac.nn, .int .i64 a.ac.pi, .int .i64 a.ac.si, .int .i64 a.ac.zo, .bool a.ac.be, .slice a.ac.la a.ac.ln a.ac.lcap, .int .i64 a.un, .int .i64 a.le]).alloc (.cells #[.int .i64 0, .int .i64 0, .int .i64 0, .int .i64 0, .int .i64 0, .int .i64 0, .int .i64 0, .int .i64 0, .int .i64 0, .int .i64 0, .int .i64 0, .int .i64 0, .int .i64 0, .int .i64 0, .int .i64 0, .int .i64 0, .int .i64 0, .int .i64 0, .bool false, .slice none 0 0, .int .i64 0, .int .i64 0] 44)
  have x2 : BoxR ((w.alloc (.cells #[.int .i64 a.id, .int .i64 a.si, .int .i64 a.sr, .int .i64 a.cl, .int .i64 a.pt.kd, .int .i64 a.pt.wh, .int .i64 a.pt.sr, .int .i64 a.pt.tr, .int .i64 a.pt.pi, .int .i64 a.pt.le, .int .i64 a.pt.zo, .int .i64 a.gd.kd, .int .i64 a.gd.nn, .int .i64 a.ac.kd, .int .i64 a.ac.nn, .int .i64 a.ac.pi, .int .i64 a.ac.si, .int .i64 a.ac.zo, .bool a.ac.be, .slice a.ac.la a.ac.ln a.ac.lcap, .int .i64 a.un, .int .i64 a.le] 44)).alloc (.cells #[.int .i64 0, .int .i64 0, .int .i64 0, .int .i64 0, .int .i64 0, .int .i64 0, .int .i64 0, .int .i64 0, .int .i64 0, .int .i64 0, .int .i64 0, .int .i64 0, .int .i64 0, .int .i64 0, .int .i64 0, .int .i64 0, .int .i64 0, .int .i64 0, .bool false, .slice none 0 0, .int .i64 0, .int .i64 0] 44)) (w.heap.size + 1) 44 #[.int .i64 0, .int .i64 0, .int .i64 0, .int .i64 0, .int .i64 0, .int .i64 0, .int .i64 0, .int .i64 0, .int .i64 0, .int .i64 0, .int .i64 0, .int .i64 0, .int .i64 0, .int .i64 0, .int .i64 0, .int .i64 0, .int .i64 0, .int .i64 0, .bool false, .slice none 0 0, .int .i64 0, .int .i64 0] := heap_alloc2_new _ _ _
  generalize hW : (w.alloc (.cells #[.int .i64 a.id, .int .i64 a.si, .int .i64 a.sr, .int .i64 a.cl, .int .i64 a.pt.kd, .int .i64 a.pt.wh, .int .i64 a.pt.sr, .int .i64 a.pt.tr, .int .i64 a.pt.pi, .int .i64 a.pt.le, .int .i64 a.pt.zo, .int .i64 a.gd.kd, .int .i64 a.gd.nn, .int .i64 a.ac.kd, .int .i64 a.ac.nn, .int .i64 a.ac.pi, .int .i64 a.ac.si, .int .i64 a.ac.zo, .bool a.ac.be, .slice a.ac.la a.ac.ln a.ac.lcap, .int .i64 a.un, .int .i64 a.le] 44)).alloc (.cells #[.int .i64 0, .int .i64 0, .int .i64 0, .int .i64 0, .int .i64 0, .int .i64 0, .int .i64 0, .int .i64 0, .int .i64 0, .int .i64 0, .int .i64 0, .int .i64 0, .int .i64 0, .int .i64 0, .int .i64 0, .int .i64 0, .int .i64 0, .int .i64 0, .bool false, .slice none 0 0, .int .i64 0, .int .i64 0] 44) = W at HB x1 x2
  have oka := act_grew hok.1 HB
  obtain ⟨k13, k14, k15, k16, k17, k18, k19⟩ := x1.acts
  go_enter Tryz.func17, Tryz.ntmps17
  go_wp2_with fail
  refine (l9Copy_any a.ac _ oka hn).mono ?_
  rintro e w1 ⟨ta, rfl, hb, oA, eA⟩
  clear k13 k14 k15 k16 k17 k18 k19 hW oka
  have hwl := x2.lt
  replace x1 := x1.grew hb
  replace x2 := x2.grew hb
  replace HB := below_app HB hb HB.size
  clear hb
  have ht : w1.there w.heap.size 13 7 := x1.thereL (by simp)
  have y1 := x1.putL 13 (#[.int .i64 ta.kd, .int .i64 ta.nn, .int .i64 ta.pi, .int .i64 ta.si, .int .i64 ta.zo, .bool ta.be, .slice ta.la ta.ln ta.lcap] : Array Value).toList
  have y2 := x2.otherL (g := w.heap.size) (by omega) 13 (#[.int .i64 ta.kd, .int .i64 ta.nn, .int .i64 ta.pi, .int .i64 ta.si, .int .i64 ta.zo, .bool ta.be, .slice ta.la ta.ln ta.lcap] : Array Value).toList
  have yb := below_setCells' (g := w.heap.size) (Nat.le_refl _) (#[.int .i64 ta.kd, .int .i64 ta.nn, .int .i64 ta.pi, .int .i64 ta.si, .int .i64 ta.zo, .bool ta.be, .slice ta.la ta.ln ta.lcap] : Array Value).toList 13 w1 HB
  replace oA := OwnA.setL oA (g := w.heap.size) (by have := oA.2.2.1; omega) 13 (#[.int .i64 ta.kd, .int .i64 ta.nn, .int .i64 ta.pi, .int .i64 ta.si, .int .i64 ta.zo, .bool ta.be, .slice ta.la ta.ln ta.lcap] : Array Value).toList
  generalize hU : w1.setCells w.heap.size 13 (#[.int .i64 ta.kd, .int .i64 ta.nn, .int .i64 ta.pi, .int .i64 ta.si, .int .i64 ta.zo, .bool ta.be, .slice ta.la ta.ln ta.lcap] : Array Value).toList = U at y1 y2 yb oA
  clear x1 x2 HB
  simp only [putA, List.setIfInBounds_toArray, List.set_cons_zero, List.set_cons_succ] at y1
  go_upto_region 2 with (refine wpList_store_mid rfl 42 (.tmp 6) (.tmp 5) rfl (w.heap.size) 13 #[.int .i64 ta.kd, .int .i64 ta.nn, .int .i64 ta.pi, .int .i64 ta.si, .int .i64 ta.zo, .bool ta.be, .slice ta.la ta.ln ta.lcap] (by first | rfl | simp [Act.eval]) rfl ht (by kernel_rfl) (by simp [Value.oneCell']) ?_; rw [hU])
  clear hU ht
  have z1 : BoxR U w.heap.size 44 #[.int .i64 a.id, .int .i64 a.si, .int .i64 a.sr, .int .i64 a.cl, .int .i64 a.pt.kd, .int .i64 a.pt.wh, .int .i64 a.pt.sr, .int .i64 a.pt.tr, .int .i64 a.pt.pi, .int .i64 a.pt.le, .int .i64 a.pt.zo, .int .i64 a.gd.kd, .int .i64 a.gd.nn, .int .i64 ta.kd, .int .i64 ta.nn, .int .i64 ta.pi, .int .i64 ta.si, .int .i64 ta.zo, .bool ta.be, .slice ta.la ta.ln ta.lcap, .int .i64 a.un, .int .i64 a.le] := y1
  clear y1
  as_aux_lemma =>
    go_wp2_with first | (refine wpList_load_row rfl 44 _ rfl (w.heap.size) (by rfl) _ _ _ _ z1 Tryz.underlying44 rfl (by kernel_rfl) ?_) | (refine wpList_store_row rfl 44 (.tmp 2) _ rfl (w.heap.size + 1) _ (by rfl) (by rfl) _ _ y2 (by kernel_rfl) (by rfl) (by simp [Value.oneCell']) ?_)
    (try simp only [Exit.inBlock, Exit.then]); refine bodyPost_ret (results_cell_row rfl _ _ (w.heap.size + 1) _ _ _ _ rfl (setRow_heap _ _ _ _ _ _ y2) Tryz.underlying44 rfl (by kernel_rfl)) rfl ?_
    exact ⟨⟨a.id, a.si, a.sr, a.cl, a.pt, a.gd, ta, a.un, a.le⟩, rfl, below_setRow yb (by omega) _, ⟨oA.1, oA.2.1, (oA.2.2.setRow (by have := oA.2.2.1; omega) _).downS (by omega)⟩, ⟨rfl, rfl, rfl, rfl, rfl, rfl, eA, rfl, rfl⟩⟩
end Go.Proofs.YtodfdfncdoliiauGreat
