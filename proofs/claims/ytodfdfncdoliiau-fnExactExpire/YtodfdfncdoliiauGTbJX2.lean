/-
  Chapter 11, the program: at lists of effects that are alike: Expire. Written by tools/tab.gen.py. Chapter 10: the specification's Spent at effects that are alike; a law's markEffect, heldEffect. Written by tools/sp.gen.py. Own work.
-/
import Derived.Test.YtodfdfncdoliiauTaJ
import Derived.Test.YtodfdfncdoliiauTbD
import Derived.Test.YtodfdfncdoliiauSpB
import Derived.Test.YtodfdfncdoliiauGAcL3
import Derived.Deep.DeepCutAuto
import Derived.Deep.CutBlock
import Derived.Laws.OwnMore
namespace Go.Proofs.Ytodfdfncdoliiau
open Go.ChangeShapes Go.WideShapes Go.ChangeAt Go.RowKit
set_option maxRecDepth 100000
set_option linter.unusedVariables false
set_option linter.unusedSimpArgs false

theorem implExpire_al (c : Int) {w0 w : World} {B : Nat} {t a : Tb} (h : OwnTb w B t) (k : AlikeT t a) (hs : a.ok w0) (hn : a.n ≤ 1048576) (hl : ∀ i, i < a.n → (a.f i).ac.ln ≤ 1048576) : Calls Try.prog 16 #[.slice t.p t.n t.cap, .int .i64 c] w fun e w' => ∃ q : Tb, e = .returned (.slice q.p q.n q.cap) ∧ Below w.heap.size w w' ∧ AnsT w' w.heap.size q (exL a.f c a.n).length (exF (exL a.f c a.n) a.f) := by
  refine (implExpire_any t c w (okW_al h k hs hl) (by rw [k.n]; omega)).mono ?_
  rw [k.n, exL_alike k.f]
  rintro e w' ⟨q, h1, h2, h3⟩
  exact ⟨q, h1, h2, h3.alike (exF_alike k.f)⟩
end Go.Proofs.Ytodfdfncdoliiau
namespace Go.Proofs.Ytodfdfncdoliiau
open Go.ChangeShapes Go.WideShapes Go.ChangeAt Go.RowKit
set_option maxRecDepth 100000
set_option linter.unusedVariables false
set_option linter.unusedSimpArgs false

theorem alike_spE {q t a : Ef} {n : Int} (h : AlikeF q (spE t n)) (k : AlikeF t a) : AlikeF q (spE a n) := by
  have hl : lfE t n = lfE a n := by unfold lfE; rw [k.ac.kd, k.le]
  exact ⟨h.id.trans k.id, h.si.trans k.si, h.sr.trans k.sr, h.cl.trans k.cl, h.pt.trans k.pt, h.gd.trans k.gd, ⟨h.ac.kd.trans k.ac.kd, h.ac.nn.trans k.ac.nn, h.ac.pi.trans k.ac.pi, h.ac.si.trans k.ac.si, h.ac.zo.trans k.ac.zo, h.ac.be.trans k.ac.be, h.ac.ln.trans k.ac.ln, h.ac.es.trans k.ac.es⟩, h.un.trans k.un, h.le.trans hl⟩
set_option maxHeartbeats 1000000 in
theorem markEffect_any (t : Ef) (k0 : Int) (w : World) {B : Nat} (hn : t.ac.ln ≤ 1048577) (hk0 : 0 ≤ k0) (hk1 : k0 ≤ 140737488351232) (h : OwnF w B t) :
    Calls Try.prog 22 #[(.agg #[.int .i64 t.id, .int .i64 t.si, .int .i64 t.sr, .int .i64 t.cl, .int .i64 t.pt.kd, .int .i64 t.pt.wh, .int .i64 t.pt.sr, .int .i64 t.pt.tr, .int .i64 t.pt.pi, .int .i64 t.pt.le, .int .i64 t.pt.zo, .int .i64 t.gd.kd, .int .i64 t.gd.nn, .int .i64 t.ac.kd, .int .i64 t.ac.nn, .int .i64 t.ac.pi, .int .i64 t.ac.si, .int .i64 t.ac.zo, .bool t.ac.be, .slice t.ac.la t.ac.ln t.ac.lcap, .int .i64 t.un, .int .i64 t.le]), .int .i64 k0] w fun e w' => e = .returned (.int .i64 (k0 + 7 * t.ac.ln)) ∧ Only t.ac.lb w w' ∧ OwnE evC 7 w' B t.ac.lb t.ac.la t.ac.ln (fun i => mkE (k0 + 7 * i)) := by
  have HO : Only t.ac.lb w (w.alloc (.cells #[.int .i64 t.id, .int .i64 t.si, .int .i64 t.sr, .int .i64 t.cl, .int .i64 t.pt.kd, .int .i64 t.pt.wh, .int .i64 t.pt.sr, .int .i64 t.pt.tr, .int .i64 t.pt.pi, .int .i64 t.pt.le, .int .i64 t.pt.zo, .int .i64 t.gd.kd, .int .i64 t.gd.nn, .int .i64 t.ac.kd, .int .i64 t.ac.nn, .int .i64 t.ac.pi, .int .i64 t.ac.si, .int .i64 t.ac.zo, .bool t.ac.be, .slice t.ac.la t.ac.ln t.ac.lcap, .int .i64 t.un, .int .i64 t.le] 49)) := (Only.refl _ w).alloc _
  have ho := OwnF.grew h ((Below.refl w.heap.size w).alloc (Nat.le_refl _) (.cells #[.int .i64 t.id, .int .i64 t.si, .int .i64 t.sr, .int .i64 t.cl, .int .i64 t.pt.kd, .int .i64 t.pt.wh, .int .i64 t.pt.sr, .int .i64 t.pt.tr, .int .i64 t.pt.pi, .int .i64 t.pt.le, .int .i64 t.pt.zo, .int .i64 t.gd.kd, .int .i64 t.gd.nn, .int .i64 t.ac.kd, .int .i64 t.ac.nn, .int .i64 t.ac.pi, .int .i64 t.ac.si, .int .i64 t.ac.zo, .bool t.ac.be, .slice t.ac.la t.ac.ln t.ac.lcap, .int .i64 t.un, .int .i64 t.le] 49))
  have bx := boxR_new w 49 #[.int .i64 t.id, .int .i64 t.si, .int .i64 t.sr, .int .i64 t.cl, .int .i64 t.pt.kd, .int .i64 t.pt.wh, .int .i64 t.pt.sr, .int .i64 t.pt.tr, .int .i64 t.pt.pi, .int .i64 t.pt.le, .int .i64 t.pt.zo, .int .i64 t.gd.kd, .int .i64 t.gd.nn, .int .i64 t.ac.kd, .int .i64 t.ac.nn, .int .i64 t.ac.pi, .int .i64 t.ac.si, .int .i64 t.ac.zo, .bool t.ac.be, .slice t.ac.la t.ac.ln t.ac.lcap, .int .i64 t.un, .int .i64 t.le]
  generalize hW : w.alloc (.cells #[.int .i64 t.id, .int .i64 t.si, .int .i64 t.sr, .int .i64 t.cl, .int .i64 t.pt.kd, .int .i64 t.pt.wh, .int .i64 t.pt.sr, .int .i64 t.pt.tr, .int .i64 t.pt.pi, .int .i64 t.pt.le, .int .i64 t.pt.zo, .int .i64 t.gd.kd, .int .i64 t.gd.nn, .int .i64 t.ac.kd, .int .i64 t.ac.nn, .int .i64 t.ac.pi, .int .i64 t.ac.si, .int .i64 t.ac.zo, .bool t.ac.be, .slice t.ac.la t.ac.ln t.ac.lcap, .int .i64 t.un, .int .i64 t.le] 49) = W at HO ho bx
  obtain ⟨k13, k14, k15, k16, k17, k18, k19⟩ := bx.acts
  go_enter Try.func22, Try.ntmps22
  go_wp2_with fail
  clear hW bx k13 k14 k15 k16 k17 k18 k19
  refine (markAct_any t.ac _ _ hn hk0 hk1 ho).mono ?_
  rintro e w1 ⟨rfl, ho1, ho2⟩
  go_wp2
  go_ret
  exact ⟨rfl, HO.trans ho1, ho2⟩
end Go.Proofs.Ytodfdfncdoliiau
