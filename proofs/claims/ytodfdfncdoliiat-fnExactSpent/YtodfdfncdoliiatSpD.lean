/-
  Chapter 10: the specification's Spent at effects that are alike; a law's markEffect, heldEffect. Written by tools/sp.gen.py. Own work.
-/
import Derived.Test.YtodfdfncdoliiatSpB
import Derived.Test.YtodfdfncdoliiatEfL
import Derived.Deep.DeepCutAuto
import Derived.Deep.CutBlock
import Derived.Laws.OwnMore
namespace Go.Proofs.Ytodfdfncdoliiat
open Go.ChangeShapes Go.WideShapes Go.ChangeAt Go.RowKit
set_option maxRecDepth 100000
set_option linter.unusedVariables false
set_option linter.unusedSimpArgs false

theorem alike_spE {q t a : Ef} {n : Int} (h : AlikeF q (spE t n)) (k : AlikeF t a) : AlikeF q (spE a n) := by
  have hl : lfE t n = lfE a n := by unfold lfE; rw [k.ac.kd, k.le]
  exact ⟨h.id.trans k.id, h.si.trans k.si, h.sr.trans k.sr, h.cl.trans k.cl, h.pt.trans k.pt, h.gd.trans k.gd, ⟨h.ac.kd.trans k.ac.kd, h.ac.nn.trans k.ac.nn, h.ac.pi.trans k.ac.pi, h.ac.si.trans k.ac.si, h.ac.zo.trans k.ac.zo, h.ac.be.trans k.ac.be, h.ac.ln.trans k.ac.ln, h.ac.es.trans k.ac.es⟩, h.un.trans k.un, h.le.trans hl⟩
theorem specSpent_al {w0 w : World} {B : Nat} {t a : Ef} (n : Int) (h : OwnF w B t) (k : AlikeF t a) (hs : a.ok w0) (hn : a.ac.ln ≤ 1048576) : Calls Try.prog 14 #[(.agg #[.int .i64 t.id, .int .i64 t.si, .int .i64 t.sr, .int .i64 t.cl, .int .i64 t.pt.kd, .int .i64 t.pt.wh, .int .i64 t.pt.sr, .int .i64 t.pt.tr, .int .i64 t.pt.pi, .int .i64 t.pt.le, .int .i64 t.pt.zo, .int .i64 t.gd.kd, .int .i64 t.gd.nn, .int .i64 t.ac.kd, .int .i64 t.ac.nn, .int .i64 t.ac.pi, .int .i64 t.ac.si, .int .i64 t.ac.zo, .bool t.ac.be, .slice t.ac.la t.ac.ln t.ac.lcap, .int .i64 t.un, .int .i64 t.le]), .int .i64 n] w fun e w' => ∃ q : Ef, e = .returned (.agg #[.int .i64 q.id, .int .i64 q.si, .int .i64 q.sr, .int .i64 q.cl, .int .i64 q.pt.kd, .int .i64 q.pt.wh, .int .i64 q.pt.sr, .int .i64 q.pt.tr, .int .i64 q.pt.pi, .int .i64 q.pt.le, .int .i64 q.pt.zo, .int .i64 q.gd.kd, .int .i64 q.gd.nn, .int .i64 q.ac.kd, .int .i64 q.ac.nn, .int .i64 q.ac.pi, .int .i64 q.ac.si, .int .i64 q.ac.zo, .bool q.ac.be, .slice q.ac.la q.ac.ln q.ac.lcap, .int .i64 q.un, .int .i64 q.le]) ∧ Below w.heap.size w w' ∧ OwnF w' w.heap.size q ∧ AlikeF q (spE a n) :=
  (specSpent_any t n w (okT10 h k hs).w (by rw [k.ac.ln]; omega)).mono (by rintro e w' ⟨q, h1, h2, h3, h4⟩; exact ⟨q, h1, h2, h3, alike_spE h4 k⟩)
set_option maxHeartbeats 1000000 in
theorem heldAct_any (t : Ac) (k0 : Int) (w : World) (hn : t.ln ≤ 1048577) (hk0 : 0 ≤ k0) (hk1 : k0 ≤ 140737488351232) (h : RdE evC 7 w t.lb t.la t.ln (fun i => mkE (k0 + 7 * i))) :
    Calls Try.prog 42 #[(.agg #[.int .i64 t.kd, .int .i64 t.nn, .int .i64 t.pi, .int .i64 t.si, .int .i64 t.zo, .bool t.be, .slice t.la t.ln t.lcap]), .int .i64 k0] w fun e w' => e = .returned (.int .i64 (k0 + 7 * t.ln)) ∧ Below w.heap.size w w' := by
  have HB := (Below.refl w.heap.size w).alloc (Nat.le_refl _) (.cells #[.int .i64 t.kd, .int .i64 t.nn, .int .i64 t.pi, .int .i64 t.si, .int .i64 t.zo, .bool t.be, .slice t.la t.ln t.lcap] 39)
  have ho := h.grew evC_ne HB
  have hx : ¬ k0 + 7 * (t.ln : Int) < 0 := by omega
  generalize hW : w.alloc (.cells #[.int .i64 t.kd, .int .i64 t.nn, .int .i64 t.pi, .int .i64 t.si, .int .i64 t.zo, .bool t.be, .slice t.la t.ln t.lcap] 39) = W at HB ho
  go_enter Try.func42, Try.ntmps42
  have c6 : W.cell? ⟨w.heap.size, 6, none⟩ = some (.slice t.la t.ln t.lcap) := by rw [← hW]; exact (boxR_new w 39 #[.int .i64 t.kd, .int .i64 t.nn, .int .i64 t.pi, .int .i64 t.si, .int .i64 t.zo, .bool t.be, .slice t.la t.ln t.lcap]).cell 6
  go_wp2_with fail
  clear hW c6
  refine (heldEventS_any _ _ _ _ _ _ hn hk0 hk1 ho).mono ?_
  rintro e w1 ⟨rfl, hb⟩
  go_wp2
  go_ret
  exact ⟨rfl, below_app HB hb HB.size⟩
set_option maxHeartbeats 1000000 in
theorem heldEffect_any (t : Ef) (k0 : Int) (w : World) (hn : t.ac.ln ≤ 1048577) (hk0 : 0 ≤ k0) (hk1 : k0 ≤ 140737488351232) (h : RdE evC 7 w t.ac.lb t.ac.la t.ac.ln (fun i => mkE (k0 + 7 * i))) :
    Calls Try.prog 17 #[(.agg #[.int .i64 t.id, .int .i64 t.si, .int .i64 t.sr, .int .i64 t.cl, .int .i64 t.pt.kd, .int .i64 t.pt.wh, .int .i64 t.pt.sr, .int .i64 t.pt.tr, .int .i64 t.pt.pi, .int .i64 t.pt.le, .int .i64 t.pt.zo, .int .i64 t.gd.kd, .int .i64 t.gd.nn, .int .i64 t.ac.kd, .int .i64 t.ac.nn, .int .i64 t.ac.pi, .int .i64 t.ac.si, .int .i64 t.ac.zo, .bool t.ac.be, .slice t.ac.la t.ac.ln t.ac.lcap, .int .i64 t.un, .int .i64 t.le]), .int .i64 k0] w fun e w' => e = .returned (.int .i64 (k0 + 7 * t.ac.ln)) ∧ Below w.heap.size w w' := by
  have HB := (Below.refl w.heap.size w).alloc (Nat.le_refl _) (.cells #[.int .i64 t.id, .int .i64 t.si, .int .i64 t.sr, .int .i64 t.cl, .int .i64 t.pt.kd, .int .i64 t.pt.wh, .int .i64 t.pt.sr, .int .i64 t.pt.tr, .int .i64 t.pt.pi, .int .i64 t.pt.le, .int .i64 t.pt.zo, .int .i64 t.gd.kd, .int .i64 t.gd.nn, .int .i64 t.ac.kd, .int .i64 t.ac.nn, .int .i64 t.ac.pi, .int .i64 t.ac.si, .int .i64 t.ac.zo, .bool t.ac.be, .slice t.ac.la t.ac.ln t.ac.lcap, .int .i64 t.un, .int .i64 t.le] 41)
  have ho := h.grew evC_ne HB
  have hx : ¬ k0 + 7 * (t.ac.ln : Int) < 0 := by omega
  have bx := boxR_new w 41 #[.int .i64 t.id, .int .i64 t.si, .int .i64 t.sr, .int .i64 t.cl, .int .i64 t.pt.kd, .int .i64 t.pt.wh, .int .i64 t.pt.sr, .int .i64 t.pt.tr, .int .i64 t.pt.pi, .int .i64 t.pt.le, .int .i64 t.pt.zo, .int .i64 t.gd.kd, .int .i64 t.gd.nn, .int .i64 t.ac.kd, .int .i64 t.ac.nn, .int .i64 t.ac.pi, .int .i64 t.ac.si, .int .i64 t.ac.zo, .bool t.ac.be, .slice t.ac.la t.ac.ln t.ac.lcap, .int .i64 t.un, .int .i64 t.le]
  generalize hW : w.alloc (.cells #[.int .i64 t.id, .int .i64 t.si, .int .i64 t.sr, .int .i64 t.cl, .int .i64 t.pt.kd, .int .i64 t.pt.wh, .int .i64 t.pt.sr, .int .i64 t.pt.tr, .int .i64 t.pt.pi, .int .i64 t.pt.le, .int .i64 t.pt.zo, .int .i64 t.gd.kd, .int .i64 t.gd.nn, .int .i64 t.ac.kd, .int .i64 t.ac.nn, .int .i64 t.ac.pi, .int .i64 t.ac.si, .int .i64 t.ac.zo, .bool t.ac.be, .slice t.ac.la t.ac.ln t.ac.lcap, .int .i64 t.un, .int .i64 t.le] 41) = W at HB ho bx
  obtain ⟨k13, k14, k15, k16, k17, k18, k19⟩ := bx.acts
  go_enter Try.func17, Try.ntmps17
  go_wp2_with fail
  clear hW bx k13 k14 k15 k16 k17 k18 k19
  refine (heldAct_any t.ac _ _ hn hk0 hk1 ho).mono ?_
  rintro e w1 ⟨rfl, hb⟩
  go_wp2
  go_ret
  exact ⟨rfl, below_app HB hb HB.size⟩
set_option maxHeartbeats 1000000 in
theorem markEffect_any (t : Ef) (k0 : Int) (w : World) {B : Nat} (hn : t.ac.ln ≤ 1048577) (hk0 : 0 ≤ k0) (hk1 : k0 ≤ 140737488351232) (h : OwnF w B t) :
    Calls Try.prog 16 #[(.agg #[.int .i64 t.id, .int .i64 t.si, .int .i64 t.sr, .int .i64 t.cl, .int .i64 t.pt.kd, .int .i64 t.pt.wh, .int .i64 t.pt.sr, .int .i64 t.pt.tr, .int .i64 t.pt.pi, .int .i64 t.pt.le, .int .i64 t.pt.zo, .int .i64 t.gd.kd, .int .i64 t.gd.nn, .int .i64 t.ac.kd, .int .i64 t.ac.nn, .int .i64 t.ac.pi, .int .i64 t.ac.si, .int .i64 t.ac.zo, .bool t.ac.be, .slice t.ac.la t.ac.ln t.ac.lcap, .int .i64 t.un, .int .i64 t.le]), .int .i64 k0] w fun e w' => e = .returned (.int .i64 (k0 + 7 * t.ac.ln)) ∧ Only t.ac.lb w w' ∧ OwnE evC 7 w' B t.ac.lb t.ac.la t.ac.ln (fun i => mkE (k0 + 7 * i)) := by
  have HO : Only t.ac.lb w (w.alloc (.cells #[.int .i64 t.id, .int .i64 t.si, .int .i64 t.sr, .int .i64 t.cl, .int .i64 t.pt.kd, .int .i64 t.pt.wh, .int .i64 t.pt.sr, .int .i64 t.pt.tr, .int .i64 t.pt.pi, .int .i64 t.pt.le, .int .i64 t.pt.zo, .int .i64 t.gd.kd, .int .i64 t.gd.nn, .int .i64 t.ac.kd, .int .i64 t.ac.nn, .int .i64 t.ac.pi, .int .i64 t.ac.si, .int .i64 t.ac.zo, .bool t.ac.be, .slice t.ac.la t.ac.ln t.ac.lcap, .int .i64 t.un, .int .i64 t.le] 41)) := (Only.refl _ w).alloc _
  have ho := OwnF.grew h ((Below.refl w.heap.size w).alloc (Nat.le_refl _) (.cells #[.int .i64 t.id, .int .i64 t.si, .int .i64 t.sr, .int .i64 t.cl, .int .i64 t.pt.kd, .int .i64 t.pt.wh, .int .i64 t.pt.sr, .int .i64 t.pt.tr, .int .i64 t.pt.pi, .int .i64 t.pt.le, .int .i64 t.pt.zo, .int .i64 t.gd.kd, .int .i64 t.gd.nn, .int .i64 t.ac.kd, .int .i64 t.ac.nn, .int .i64 t.ac.pi, .int .i64 t.ac.si, .int .i64 t.ac.zo, .bool t.ac.be, .slice t.ac.la t.ac.ln t.ac.lcap, .int .i64 t.un, .int .i64 t.le] 41))
  have bx := boxR_new w 41 #[.int .i64 t.id, .int .i64 t.si, .int .i64 t.sr, .int .i64 t.cl, .int .i64 t.pt.kd, .int .i64 t.pt.wh, .int .i64 t.pt.sr, .int .i64 t.pt.tr, .int .i64 t.pt.pi, .int .i64 t.pt.le, .int .i64 t.pt.zo, .int .i64 t.gd.kd, .int .i64 t.gd.nn, .int .i64 t.ac.kd, .int .i64 t.ac.nn, .int .i64 t.ac.pi, .int .i64 t.ac.si, .int .i64 t.ac.zo, .bool t.ac.be, .slice t.ac.la t.ac.ln t.ac.lcap, .int .i64 t.un, .int .i64 t.le]
  generalize hW : w.alloc (.cells #[.int .i64 t.id, .int .i64 t.si, .int .i64 t.sr, .int .i64 t.cl, .int .i64 t.pt.kd, .int .i64 t.pt.wh, .int .i64 t.pt.sr, .int .i64 t.pt.tr, .int .i64 t.pt.pi, .int .i64 t.pt.le, .int .i64 t.pt.zo, .int .i64 t.gd.kd, .int .i64 t.gd.nn, .int .i64 t.ac.kd, .int .i64 t.ac.nn, .int .i64 t.ac.pi, .int .i64 t.ac.si, .int .i64 t.ac.zo, .bool t.ac.be, .slice t.ac.la t.ac.ln t.ac.lcap, .int .i64 t.un, .int .i64 t.le] 41) = W at HO ho bx
  obtain ⟨k13, k14, k15, k16, k17, k18, k19⟩ := bx.acts
  go_enter Try.func16, Try.ntmps16
  go_wp2_with fail
  clear hW bx k13 k14 k15 k16 k17 k18 k19
  refine (markAct_any t.ac _ _ hn hk0 hk1 ho).mono ?_
  rintro e w1 ⟨rfl, ho1, ho2⟩
  go_wp2
  go_ret
  exact ⟨rfl, HO.trans ho1, ho2⟩
end Go.Proofs.Ytodfdfncdoliiat
