/-
  Chapter 10: the specification's SameEffect (smEf). Written by tools/ef.gen.py. Own work.
-/
import Derived.Test.YtodfdfncdoliiatEfC
import Derived.Test.YtodfdfncdoliiatAcC
import Derived.Deep.DeepCutAuto
import Derived.Deep.CutBlock
namespace Go.Proofs.Ytodfdfncdoliiat
open Go.ChangeShapes Go.WideShapes Go.ChangeAt Go.RowKit
set_option maxRecDepth 100000
set_option linter.unusedVariables false
set_option linter.unusedSimpArgs false

/-- whether all of the first n things are the same -/
def smL (n : Nat) (f g : Nat → Ev) : Bool := (List.range n).all (fun i => smE (f i) (g i))
theorem smL_no {n k : Nat} {f g : Nat → Ev} (hk : k < n) (h : smE (f k) (g k) = false) : smL n f g = false := by unfold smL; rw [List.all_eq_false]; exact ⟨k, List.mem_range.2 hk, by simp [h]⟩
theorem smL_yes {n : Nat} {f g : Nat → Ev} (h : ∀ k, k < n → smE (f k) (g k) = true) : smL n f g = true := by unfold smL; rw [List.all_eq_true]; exact fun k hk => h k (List.mem_range.1 hk)
def smH (a b : Ef) : Bool := decide (a.id = b.id) && decide (a.si = b.si) && decide (a.sr = b.sr) && decide (a.cl = b.cl) && smPt a.pt b.pt && smGd a.gd b.gd && decide (a.un = b.un) && decide (a.le = b.le)
def smK (x y : Ac) : Bool := decide (x.kd = y.kd) && decide (x.nn = y.nn) && decide (x.pi = y.pi) && decide (x.si = y.si) && decide (x.zo = y.zo) && decide (x.be = y.be) && decide (x.ln = y.ln)
/-- whether they are the same -/
def smEf (a b : Ef) : Bool := smH a b && smK a.ac b.ac && smL a.ac.ln a.ac.es b.ac.es
set_option maxHeartbeats 4000000 in
theorem sef_h (a b : Ef) (w : World) (h : smH a b = false) : Calls Try.prog 45 #[(.agg #[.int .i64 a.id, .int .i64 a.si, .int .i64 a.sr, .int .i64 a.cl, .int .i64 a.pt.kd, .int .i64 a.pt.wh, .int .i64 a.pt.sr, .int .i64 a.pt.tr, .int .i64 a.pt.pi, .int .i64 a.pt.le, .int .i64 a.pt.zo, .int .i64 a.gd.kd, .int .i64 a.gd.nn, .int .i64 a.ac.kd, .int .i64 a.ac.nn, .int .i64 a.ac.pi, .int .i64 a.ac.si, .int .i64 a.ac.zo, .bool a.ac.be, .slice a.ac.la a.ac.ln a.ac.lcap, .int .i64 a.un, .int .i64 a.le]), (.agg #[.int .i64 b.id, .int .i64 b.si, .int .i64 b.sr, .int .i64 b.cl, .int .i64 b.pt.kd, .int .i64 b.pt.wh, .int .i64 b.pt.sr, .int .i64 b.pt.tr, .int .i64 b.pt.pi, .int .i64 b.pt.le, .int .i64 b.pt.zo, .int .i64 b.gd.kd, .int .i64 b.gd.nn, .int .i64 b.ac.kd, .int .i64 b.ac.nn, .int .i64 b.ac.pi, .int .i64 b.ac.si, .int .i64 b.ac.zo, .bool b.ac.be, .slice b.ac.la b.ac.ln b.ac.lcap, .int .i64 b.un, .int .i64 b.le])] w fun e w' => e = .returned (.bool (smEf a b)) ∧ Below w.heap.size w w' := by
  have HA : Hid (smEf a b = false) := by show smEf a b = false; unfold smEf; rw [h]; rfl
  have HH : Hid (smH a b = false) := h
  clear h
  have HB := ((Below.refl _ w).alloc (Nat.le_refl _) (.cells #[.int .i64 a.id, .int .i64 a.si, .int .i64 a.sr, .int .i64 a.cl, .int .i64 a.pt.kd, .int .i64 a.pt.wh, .int .i64 a.pt.sr, .int .i64 a.pt.tr, .int .i64 a.pt.pi, .int .i64 a.pt.le, .int .i64 a.pt.zo, .int .i64 a.gd.kd, .int .i64 a.gd.nn, .int .i64 a.ac.kd, .int .i64 a.ac.nn, .int .i64 a.ac.pi, .int .i64 a.ac.si, .int .i64 a.ac.zo, .bool a.ac.be, .slice a.ac.la a.ac.ln a.ac.lcap, .int .i64 a.un, .int .i64 a.le] 41)).alloc (by simp) (.cells #[.int .i64 b.id, .int .i64 b.si, .int .i64 b.sr, .int .i64 b.cl, .int .i64 b.pt.kd, .int .i64 b.pt.wh, .int .i64 b.pt.sr, .int .i64 b.pt.tr, .int .i64 b.pt.pi, .int .i64 b.pt.le, .int .i64 b.pt.zo, .int .i64 b.gd.kd, .int .i64 b.gd.nn, .int .i64 b.ac.kd, .int .i64 b.ac.nn, .int .i64 b.ac.pi, .int .i64 b.ac.si, .int .i64 b.ac.zo, .bool b.ac.be, .slice b.ac.la b.ac.ln b.ac.lcap, .int .i64 b.un, .int .i64 b.le] 41)
  have b1 := (boxR_new w 41 #[.int .i64 a.id, .int .i64 a.si, .int .i64 a.sr, .int .i64 a.cl, .int .i64 a.pt.kd, .int .i64 a.pt.wh, .int .i64 a.pt.sr, .int .i64 a.pt.tr, .int .i64 a.pt.pi, .int .i64 a.pt.le, .int .i64 a.pt.zo, .int .i64 a.gd.kd, .int .i64 a.gd.nn, .int .i64 a.ac.kd, .int .i64 a.ac.nn, .int .i64 a.ac.pi, .int .i64 a.ac.si, .int .i64 a.ac.zo, .bool a.ac.be, .slice a.ac.la a.ac.ln a.ac.lcap, .int .i64 a.un, .int .i64 a.le]).alloc (.cells #[.int .i64 b.id, .int .i64 b.si, .int .i64 b.sr, .int .i64 b.cl, .int .i64 b.pt.kd, .int .i64 b.pt.wh, .int .i64 b.pt.sr, .int .i64 b.pt.tr, .int .i64 b.pt.pi, .int .i64 b.pt.le, .int .i64 b.pt.zo, .int .i64 b.gd.kd, .int .i64 b.gd.nn, .int .i64 b.ac.kd, .int .i64 b.ac.nn, .int .i64 b.ac.pi, .int .i64 b.ac.si, .int .i64 b.ac.zo, .bool b.ac.be, .slice b.ac.la b.ac.ln b.ac.lcap, .int .i64 b.un, .int .i64 b.le] 41)
  have b2 : BoxR ((w.alloc (.cells #[.int .i64 a.id, .int .i64 a.si, .int .i64 a.sr, .int .i64 a.cl, .int .i64 a.pt.kd, .int .i64 a.pt.wh, .int .i64 a.pt.sr, .int .i64 a.pt.tr, .int .i64 a.pt.pi, .int .i64 a.pt.le, .int .i64 a.pt.zo, .int .i64 a.gd.kd, .int .i64 a.gd.nn, .int .i64 a.ac.kd, .int .i64 a.ac.nn, .int .i64 a.ac.pi, .int .i64 a.ac.si, .int .i64 a.ac.zo, .bool a.ac.be, .slice a.ac.la a.ac.ln a.ac.lcap, .int .i64 a.un, .int .i64 a.le] 41)).alloc (.cells #[.int .i64 b.id, .int .i64 b.si, .int .i64 b.sr, .int .i64 b.cl, .int .i64 b.pt.kd, .int .i64 b.pt.wh, .int .i64 b.pt.sr, .int .i64 b.pt.tr, .int .i64 b.pt.pi, .int .i64 b.pt.le, .int .i64 b.pt.zo, .int .i64 b.gd.kd, .int .i64 b.gd.nn, .int .i64 b.ac.kd, .int .i64 b.ac.nn, .int .i64 b.ac.pi, .int .i64 b.ac.si, .int .i64 b.ac.zo, .bool b.ac.be, .slice b.ac.la b.ac.ln b.ac.lcap, .int .i64 b.un, .int .i64 b.le] 41)) (w.heap.size + 1) 41 #[.int .i64 b.id, .int .i64 b.si, .int .i64 b.sr, .int .i64 b.cl, .int .i64 b.pt.kd, .int .i64 b.pt.wh, .int .i64 b.pt.sr, .int .i64 b.pt.tr, .int .i64 b.pt.pi, .int .i64 b.pt.le, .int .i64 b.pt.zo, .int .i64 b.gd.kd, .int .i64 b.gd.nn, .int .i64 b.ac.kd, .int .i64 b.ac.nn, .int .i64 b.ac.pi, .int .i64 b.ac.si, .int .i64 b.ac.zo, .bool b.ac.be, .slice b.ac.la b.ac.ln b.ac.lcap, .int .i64 b.un, .int .i64 b.le] := heap_alloc2_new _ _ _
  generalize hW : (w.alloc (.cells #[.int .i64 a.id, .int .i64 a.si, .int .i64 a.sr, .int .i64 a.cl, .int .i64 a.pt.kd, .int .i64 a.pt.wh, .int .i64 a.pt.sr, .int .i64 a.pt.tr, .int .i64 a.pt.pi, .int .i64 a.pt.le, .int .i64 a.pt.zo, .int .i64 a.gd.kd, .int .i64 a.gd.nn, .int .i64 a.ac.kd, .int .i64 a.ac.nn, .int .i64 a.ac.pi, .int .i64 a.ac.si, .int .i64 a.ac.zo, .bool a.ac.be, .slice a.ac.la a.ac.ln a.ac.lcap, .int .i64 a.un, .int .i64 a.le] 41)).alloc (.cells #[.int .i64 b.id, .int .i64 b.si, .int .i64 b.sr, .int .i64 b.cl, .int .i64 b.pt.kd, .int .i64 b.pt.wh, .int .i64 b.pt.sr, .int .i64 b.pt.tr, .int .i64 b.pt.pi, .int .i64 b.pt.le, .int .i64 b.pt.zo, .int .i64 b.gd.kd, .int .i64 b.gd.nn, .int .i64 b.ac.kd, .int .i64 b.ac.nn, .int .i64 b.ac.pi, .int .i64 b.ac.si, .int .i64 b.ac.zo, .bool b.ac.be, .slice b.ac.la b.ac.ln b.ac.lcap, .int .i64 b.un, .int .i64 b.le] 41) = W at HB b1 b2
  obtain ⟨c0, c1, c2, c3, c4, c5, c6, c7, c8, c9, c10, c11, c12, c13, c14, c15, c16, c17, c18, c19, c20, c21⟩ := b1.cells22
  obtain ⟨d0, d1, d2, d3, d4, d5, d6, d7, d8, d9, d10, d11, d12, d13, d14, d15, d16, d17, d18, d19, d20, d21⟩ := b2.cells22
  have EP : ∀ v : World, (Op.equalIn 10000 35 (.agg #[.int .i64 a.pt.kd, .int .i64 a.pt.wh, .int .i64 a.pt.sr, .int .i64 a.pt.tr, .int .i64 a.pt.pi, .int .i64 a.pt.le, .int .i64 a.pt.zo]) (.agg #[.int .i64 b.pt.kd, .int .i64 b.pt.wh, .int .i64 b.pt.sr, .int .i64 b.pt.tr, .int .i64 b.pt.pi, .int .i64 b.pt.le, .int .i64 b.pt.zo])).run Try.prog v = .ok (smPt a.pt b.pt) v := fun v => run_eq_pat a.pt b.pt v
  have EG : ∀ v : World, (Op.equalIn 10000 36 (.agg #[.int .i64 a.gd.kd, .int .i64 a.gd.nn]) (.agg #[.int .i64 b.gd.kd, .int .i64 b.gd.nn])).run Try.prog v = .ok (smGd a.gd b.gd) v := fun v => run_eq_guard a.gd b.gd v
  go_enter Try.func45, Try.ntmps45
  go_upto_region 3 with fail
  all_goals first | (go_ret; exact ⟨ret_bool' HA.out.symm, HB⟩) | (exfalso; have hh := HH.out; unfold smH at hh; clear c0 c1 c2 c3 c4 c5 c6 c7 c8 c9 c10 c11 c12 c13 c14 c15 c16 c17 c18 c19 c20 c21 d0 d1 d2 d3 d4 d5 d6 d7 d8 d9 d10 d11 d12 d13 d14 d15 d16 d17 d18 d19 d20 d21 EP EG b1 b2; simp_all; done)
set_option maxHeartbeats 4000000 in
theorem sef_k (a b : Ef) (w : World) (h : smH a b = true) (hk : smK a.ac b.ac = false) : Calls Try.prog 45 #[(.agg #[.int .i64 a.id, .int .i64 a.si, .int .i64 a.sr, .int .i64 a.cl, .int .i64 a.pt.kd, .int .i64 a.pt.wh, .int .i64 a.pt.sr, .int .i64 a.pt.tr, .int .i64 a.pt.pi, .int .i64 a.pt.le, .int .i64 a.pt.zo, .int .i64 a.gd.kd, .int .i64 a.gd.nn, .int .i64 a.ac.kd, .int .i64 a.ac.nn, .int .i64 a.ac.pi, .int .i64 a.ac.si, .int .i64 a.ac.zo, .bool a.ac.be, .slice a.ac.la a.ac.ln a.ac.lcap, .int .i64 a.un, .int .i64 a.le]), (.agg #[.int .i64 b.id, .int .i64 b.si, .int .i64 b.sr, .int .i64 b.cl, .int .i64 b.pt.kd, .int .i64 b.pt.wh, .int .i64 b.pt.sr, .int .i64 b.pt.tr, .int .i64 b.pt.pi, .int .i64 b.pt.le, .int .i64 b.pt.zo, .int .i64 b.gd.kd, .int .i64 b.gd.nn, .int .i64 b.ac.kd, .int .i64 b.ac.nn, .int .i64 b.ac.pi, .int .i64 b.ac.si, .int .i64 b.ac.zo, .bool b.ac.be, .slice b.ac.la b.ac.ln b.ac.lcap, .int .i64 b.un, .int .i64 b.le])] w fun e w' => e = .returned (.bool (smEf a b)) ∧ Below w.heap.size w w' := by
  have HA : Hid (smEf a b = false) := by show smEf a b = false; unfold smEf; rw [hk]; simp
  have HK : Hid (smK a.ac b.ac = false) := hk
  clear hk
  have HF : Hid ((a.id != b.id) = false ∧ (a.si != b.si) = false ∧ (a.sr != b.sr) = false ∧ (a.cl != b.cl) = false ∧ smPt a.pt b.pt = true ∧ smGd a.gd b.gd = true ∧ (a.un != b.un) = false ∧ (a.le != b.le) = false) := by
    unfold smH at h
    simp only [Bool.and_eq_true, decide_eq_true_eq] at h
    obtain ⟨⟨⟨⟨⟨⟨⟨h1, h2⟩, h3⟩, h4⟩, h5⟩, h6⟩, h7⟩, h8⟩ := h
    exact ⟨by rw [h1]; simp, by rw [h2]; simp, by rw [h3]; simp, by rw [h4]; simp, h5, h6, by rw [h7]; simp, by rw [h8]; simp⟩
  clear h
  have HB := ((Below.refl _ w).alloc (Nat.le_refl _) (.cells #[.int .i64 a.id, .int .i64 a.si, .int .i64 a.sr, .int .i64 a.cl, .int .i64 a.pt.kd, .int .i64 a.pt.wh, .int .i64 a.pt.sr, .int .i64 a.pt.tr, .int .i64 a.pt.pi, .int .i64 a.pt.le, .int .i64 a.pt.zo, .int .i64 a.gd.kd, .int .i64 a.gd.nn, .int .i64 a.ac.kd, .int .i64 a.ac.nn, .int .i64 a.ac.pi, .int .i64 a.ac.si, .int .i64 a.ac.zo, .bool a.ac.be, .slice a.ac.la a.ac.ln a.ac.lcap, .int .i64 a.un, .int .i64 a.le] 41)).alloc (by simp) (.cells #[.int .i64 b.id, .int .i64 b.si, .int .i64 b.sr, .int .i64 b.cl, .int .i64 b.pt.kd, .int .i64 b.pt.wh, .int .i64 b.pt.sr, .int .i64 b.pt.tr, .int .i64 b.pt.pi, .int .i64 b.pt.le, .int .i64 b.pt.zo, .int .i64 b.gd.kd, .int .i64 b.gd.nn, .int .i64 b.ac.kd, .int .i64 b.ac.nn, .int .i64 b.ac.pi, .int .i64 b.ac.si, .int .i64 b.ac.zo, .bool b.ac.be, .slice b.ac.la b.ac.ln b.ac.lcap, .int .i64 b.un, .int .i64 b.le] 41)
  have b1 := (boxR_new w 41 #[.int .i64 a.id, .int .i64 a.si, .int .i64 a.sr, .int .i64 a.cl, .int .i64 a.pt.kd, .int .i64 a.pt.wh, .int .i64 a.pt.sr, .int .i64 a.pt.tr, .int .i64 a.pt.pi, .int .i64 a.pt.le, .int .i64 a.pt.zo, .int .i64 a.gd.kd, .int .i64 a.gd.nn, .int .i64 a.ac.kd, .int .i64 a.ac.nn, .int .i64 a.ac.pi, .int .i64 a.ac.si, .int .i64 a.ac.zo, .bool a.ac.be, .slice a.ac.la a.ac.ln a.ac.lcap, .int .i64 a.un, .int .i64 a.le]).alloc (.cells #[.int .i64 b.id, .int .i64 b.si, .int .i64 b.sr, .int .i64 b.cl, .int .i64 b.pt.kd, .int .i64 b.pt.wh, .int .i64 b.pt.sr, .int .i64 b.pt.tr, .int .i64 b.pt.pi, .int .i64 b.pt.le, .int .i64 b.pt.zo, .int .i64 b.gd.kd, .int .i64 b.gd.nn, .int .i64 b.ac.kd, .int .i64 b.ac.nn, .int .i64 b.ac.pi, .int .i64 b.ac.si, .int .i64 b.ac.zo, .bool b.ac.be, .slice b.ac.la b.ac.ln b.ac.lcap, .int .i64 b.un, .int .i64 b.le] 41)
  have b2 : BoxR ((w.alloc (.cells #[.int .i64 a.id, .int .i64 a.si, .int .i64 a.sr, .int .i64 a.cl, .int .i64 a.pt.kd, .int .i64 a.pt.wh, .int .i64 a.pt.sr, .int .i64 a.pt.tr, .int .i64 a.pt.pi, .int .i64 a.pt.le, .int .i64 a.pt.zo, .int .i64 a.gd.kd, .int .i64 a.gd.nn, .int .i64 a.ac.kd, .int .i64 a.ac.nn, .int .i64 a.ac.pi, .int .i64 a.ac.si, .int .i64 a.ac.zo, .bool a.ac.be, .slice a.ac.la a.ac.ln a.ac.lcap, .int .i64 a.un, .int .i64 a.le] 41)).alloc (.cells #[.int .i64 b.id, .int .i64 b.si, .int .i64 b.sr, .int .i64 b.cl, .int .i64 b.pt.kd, .int .i64 b.pt.wh, .int .i64 b.pt.sr, .int .i64 b.pt.tr, .int .i64 b.pt.pi, .int .i64 b.pt.le, .int .i64 b.pt.zo, .int .i64 b.gd.kd, .int .i64 b.gd.nn, .int .i64 b.ac.kd, .int .i64 b.ac.nn, .int .i64 b.ac.pi, .int .i64 b.ac.si, .int .i64 b.ac.zo, .bool b.ac.be, .slice b.ac.la b.ac.ln b.ac.lcap, .int .i64 b.un, .int .i64 b.le] 41)) (w.heap.size + 1) 41 #[.int .i64 b.id, .int .i64 b.si, .int .i64 b.sr, .int .i64 b.cl, .int .i64 b.pt.kd, .int .i64 b.pt.wh, .int .i64 b.pt.sr, .int .i64 b.pt.tr, .int .i64 b.pt.pi, .int .i64 b.pt.le, .int .i64 b.pt.zo, .int .i64 b.gd.kd, .int .i64 b.gd.nn, .int .i64 b.ac.kd, .int .i64 b.ac.nn, .int .i64 b.ac.pi, .int .i64 b.ac.si, .int .i64 b.ac.zo, .bool b.ac.be, .slice b.ac.la b.ac.ln b.ac.lcap, .int .i64 b.un, .int .i64 b.le] := heap_alloc2_new _ _ _
  generalize hW : (w.alloc (.cells #[.int .i64 a.id, .int .i64 a.si, .int .i64 a.sr, .int .i64 a.cl, .int .i64 a.pt.kd, .int .i64 a.pt.wh, .int .i64 a.pt.sr, .int .i64 a.pt.tr, .int .i64 a.pt.pi, .int .i64 a.pt.le, .int .i64 a.pt.zo, .int .i64 a.gd.kd, .int .i64 a.gd.nn, .int .i64 a.ac.kd, .int .i64 a.ac.nn, .int .i64 a.ac.pi, .int .i64 a.ac.si, .int .i64 a.ac.zo, .bool a.ac.be, .slice a.ac.la a.ac.ln a.ac.lcap, .int .i64 a.un, .int .i64 a.le] 41)).alloc (.cells #[.int .i64 b.id, .int .i64 b.si, .int .i64 b.sr, .int .i64 b.cl, .int .i64 b.pt.kd, .int .i64 b.pt.wh, .int .i64 b.pt.sr, .int .i64 b.pt.tr, .int .i64 b.pt.pi, .int .i64 b.pt.le, .int .i64 b.pt.zo, .int .i64 b.gd.kd, .int .i64 b.gd.nn, .int .i64 b.ac.kd, .int .i64 b.ac.nn, .int .i64 b.ac.pi, .int .i64 b.ac.si, .int .i64 b.ac.zo, .bool b.ac.be, .slice b.ac.la b.ac.ln b.ac.lcap, .int .i64 b.un, .int .i64 b.le] 41) = W at HB b1 b2
  obtain ⟨c0, c1, c2, c3, c4, c5, c6, c7, c8, c9, c10, c11, c12, c13, c14, c15, c16, c17, c18, c19, c20, c21⟩ := b1.cells22
  obtain ⟨d0, d1, d2, d3, d4, d5, d6, d7, d8, d9, d10, d11, d12, d13, d14, d15, d16, d17, d18, d19, d20, d21⟩ := b2.cells22
  have EP : ∀ v : World, (Op.equalIn 10000 35 (.agg #[.int .i64 a.pt.kd, .int .i64 a.pt.wh, .int .i64 a.pt.sr, .int .i64 a.pt.tr, .int .i64 a.pt.pi, .int .i64 a.pt.le, .int .i64 a.pt.zo]) (.agg #[.int .i64 b.pt.kd, .int .i64 b.pt.wh, .int .i64 b.pt.sr, .int .i64 b.pt.tr, .int .i64 b.pt.pi, .int .i64 b.pt.le, .int .i64 b.pt.zo])).run Try.prog v = .ok (smPt a.pt b.pt) v := fun v => run_eq_pat a.pt b.pt v
  have EG : ∀ v : World, (Op.equalIn 10000 36 (.agg #[.int .i64 a.gd.kd, .int .i64 a.gd.nn]) (.agg #[.int .i64 b.gd.kd, .int .i64 b.gd.nn])).run Try.prog v = .ok (smGd a.gd b.gd) v := fun v => run_eq_guard a.gd b.gd v
  obtain ⟨n0, n1, n2, n3, n4, n5, n6, n7⟩ := HF.out
  rw [n4] at EP
  rw [n5] at EG
  clear HF n4 n5
  go_enter Try.func45, Try.ntmps45
  go_upto_region 3 with fail
  clear n0 n1 n2 n3 n6 n7 EP EG hW
  go_upto_region 4 with fail
  clear c0 c1 c2 c3 c4 c5 c6 c7 c8 c9 c10 c11 c12 c13 c14 c15 c16 c17 c18 c19 c20 c21 d0 d1 d2 d3 d4 d5 d6 d7 d8 d9 d10 d11 d12 d13 d14 d15 d16 d17 d18 d19 d20 d21 b1
  have y1 := boxR_new W 39 #[.int .i64 a.ac.kd, .int .i64 a.ac.nn, .int .i64 a.ac.pi, .int .i64 a.ac.si, .int .i64 a.ac.zo, .bool a.ac.be, .slice a.ac.la a.ac.ln a.ac.lcap]
  have b3 := b2.alloc (.cells #[.int .i64 a.ac.kd, .int .i64 a.ac.nn, .int .i64 a.ac.pi, .int .i64 a.ac.si, .int .i64 a.ac.zo, .bool a.ac.be, .slice a.ac.la a.ac.ln a.ac.lcap] 39)
  have HB1 := below_app HB ((Below.refl _ W).alloc (Nat.le_refl _) (.cells #[.int .i64 a.ac.kd, .int .i64 a.ac.nn, .int .i64 a.ac.pi, .int .i64 a.ac.si, .int .i64 a.ac.zo, .bool a.ac.be, .slice a.ac.la a.ac.ln a.ac.lcap] 39)) HB.size
  generalize hX : W.alloc (.cells #[.int .i64 a.ac.kd, .int .i64 a.ac.nn, .int .i64 a.ac.pi, .int .i64 a.ac.si, .int .i64 a.ac.zo, .bool a.ac.be, .slice a.ac.la a.ac.ln a.ac.lcap] 39) = X at y1 b3 HB1
  obtain ⟨e0, e1, e2, e3, e4, e5, e6⟩ := b3.acts
  go_upto_region 5 with fail
  clear e0 e1 e2 e3 e4 e5 e6 b2 b3 hX
  have y3 := y1.alloc (.cells #[.int .i64 b.ac.kd, .int .i64 b.ac.nn, .int .i64 b.ac.pi, .int .i64 b.ac.si, .int .i64 b.ac.zo, .bool b.ac.be, .slice b.ac.la b.ac.ln b.ac.lcap] 39)
  have y2 := boxR_new X 39 #[.int .i64 b.ac.kd, .int .i64 b.ac.nn, .int .i64 b.ac.pi, .int .i64 b.ac.si, .int .i64 b.ac.zo, .bool b.ac.be, .slice b.ac.la b.ac.ln b.ac.lcap]
  have HB2 := below_app HB1 ((Below.refl _ X).alloc (Nat.le_refl _) (.cells #[.int .i64 b.ac.kd, .int .i64 b.ac.nn, .int .i64 b.ac.pi, .int .i64 b.ac.si, .int .i64 b.ac.zo, .bool b.ac.be, .slice b.ac.la b.ac.ln b.ac.lcap] 39)) HB1.size
  clear y1 HB HB1
  generalize hV : X.alloc (.cells #[.int .i64 b.ac.kd, .int .i64 b.ac.nn, .int .i64 b.ac.pi, .int .i64 b.ac.si, .int .i64 b.ac.zo, .bool b.ac.be, .slice b.ac.la b.ac.ln b.ac.lcap] 39) = V at y3 y2 HB2
  have y1 := y3
  clear y3
  obtain ⟨g, hg⟩ : ∃ g, W.heap.size = g := ⟨_, rfl⟩
  obtain ⟨g2, hg2⟩ : ∃ g, X.heap.size = g := ⟨_, rfl⟩
  rw [hg] at y1 ⊢
  rw [hg2] at y2 ⊢
  clear hg hg2 hV
  as_aux_lemma =>
    have c0 := y1.cell 0
    have d0 := y2.cell 0
    have c1 := y1.cell 1
    have d1 := y2.cell 1
    have c2 := y1.cell 2
    have d2 := y2.cell 2
    have c3 := y1.cell 3
    have d3 := y2.cell 3
    have c4 := y1.cell 4
    have d4 := y2.cell 4
    have c5 := y1.cell 5
    have d5 := y2.cell 5
    have c6 := y1.cell 6
    have d6 := y2.cell 6
    simp at c0 d0 c1 d1 c2 d2 c3 d3 c4 d4 c5 d5 c6 d6
    go_upto_region 7 with fail
    all_goals first | (go_ret; exact ⟨ret_bool' HA.out.symm, HB2⟩) | (exfalso; have hh := HK.out; unfold smK at hh; clear c0 c1 c2 c3 c4 c5 c6 d0 d1 d2 d3 d4 d5 d6 y1 y2; first | (simp_all; done) | (simp_all; omega))
set_option maxHeartbeats 4000000 in
theorem sef_t (a b : Ef) (w : World) (ha : a.okW w) (hb : b.okW w) (hn : a.ac.ln ≤ 1048577) (h : smH a b = true) (hk : smK a.ac b.ac = true) : Calls Try.prog 45 #[(.agg #[.int .i64 a.id, .int .i64 a.si, .int .i64 a.sr, .int .i64 a.cl, .int .i64 a.pt.kd, .int .i64 a.pt.wh, .int .i64 a.pt.sr, .int .i64 a.pt.tr, .int .i64 a.pt.pi, .int .i64 a.pt.le, .int .i64 a.pt.zo, .int .i64 a.gd.kd, .int .i64 a.gd.nn, .int .i64 a.ac.kd, .int .i64 a.ac.nn, .int .i64 a.ac.pi, .int .i64 a.ac.si, .int .i64 a.ac.zo, .bool a.ac.be, .slice a.ac.la a.ac.ln a.ac.lcap, .int .i64 a.un, .int .i64 a.le]), (.agg #[.int .i64 b.id, .int .i64 b.si, .int .i64 b.sr, .int .i64 b.cl, .int .i64 b.pt.kd, .int .i64 b.pt.wh, .int .i64 b.pt.sr, .int .i64 b.pt.tr, .int .i64 b.pt.pi, .int .i64 b.pt.le, .int .i64 b.pt.zo, .int .i64 b.gd.kd, .int .i64 b.gd.nn, .int .i64 b.ac.kd, .int .i64 b.ac.nn, .int .i64 b.ac.pi, .int .i64 b.ac.si, .int .i64 b.ac.zo, .bool b.ac.be, .slice b.ac.la b.ac.ln b.ac.lcap, .int .i64 b.un, .int .i64 b.le])] w fun e w' => e = .returned (.bool (smEf a b)) ∧ Below w.heap.size w w' := by
  have HA : Hid (smEf a b = smL a.ac.ln a.ac.es b.ac.es) := by show smEf a b = _; unfold smEf; rw [h, hk]; simp
  have R1 : Hid (∀ u : World, Below w.heap.size w u → RdE evC 7 u a.ac.lb a.ac.la a.ac.ln a.ac.es) := fun u hu => ha.1.2.2.1.grew evC_ne hu
  have HLN : Hid (b.ac.ln = a.ac.ln) := by unfold smK at hk; simp at hk; exact hk.2.symm
  have R2 : Hid (∀ u : World, Below w.heap.size w u → RdE evC 7 u b.ac.lb b.ac.la a.ac.ln b.ac.es) := fun u hu => by have := hb.1.2.2.1.grew evC_ne hu; rw [HLN.out] at this; exact this
  have HK : Hid ((a.ac.kd != b.ac.kd) = false ∧ (a.ac.nn != b.ac.nn) = false ∧ (a.ac.pi != b.ac.pi) = false ∧ (a.ac.si != b.ac.si) = false ∧ (a.ac.zo != b.ac.zo) = false ∧ b.ac.be = a.ac.be) := by
    unfold smK at hk
    simp only [Bool.and_eq_true, decide_eq_true_eq] at hk
    obtain ⟨⟨⟨⟨⟨⟨h1, h2⟩, h3⟩, h4⟩, h5⟩, h6⟩, h7⟩ := hk
    exact ⟨by rw [h1]; simp, by rw [h2]; simp, by rw [h3]; simp, by rw [h4]; simp, by rw [h5]; simp, h6.symm⟩
  clear hk ha hb
  have HF : Hid ((a.id != b.id) = false ∧ (a.si != b.si) = false ∧ (a.sr != b.sr) = false ∧ (a.cl != b.cl) = false ∧ smPt a.pt b.pt = true ∧ smGd a.gd b.gd = true ∧ (a.un != b.un) = false ∧ (a.le != b.le) = false) := by
    unfold smH at h
    simp only [Bool.and_eq_true, decide_eq_true_eq] at h
    obtain ⟨⟨⟨⟨⟨⟨⟨h1, h2⟩, h3⟩, h4⟩, h5⟩, h6⟩, h7⟩, h8⟩ := h
    exact ⟨by rw [h1]; simp, by rw [h2]; simp, by rw [h3]; simp, by rw [h4]; simp, h5, h6, by rw [h7]; simp, by rw [h8]; simp⟩
  clear h
  have HB := ((Below.refl _ w).alloc (Nat.le_refl _) (.cells #[.int .i64 a.id, .int .i64 a.si, .int .i64 a.sr, .int .i64 a.cl, .int .i64 a.pt.kd, .int .i64 a.pt.wh, .int .i64 a.pt.sr, .int .i64 a.pt.tr, .int .i64 a.pt.pi, .int .i64 a.pt.le, .int .i64 a.pt.zo, .int .i64 a.gd.kd, .int .i64 a.gd.nn, .int .i64 a.ac.kd, .int .i64 a.ac.nn, .int .i64 a.ac.pi, .int .i64 a.ac.si, .int .i64 a.ac.zo, .bool a.ac.be, .slice a.ac.la a.ac.ln a.ac.lcap, .int .i64 a.un, .int .i64 a.le] 41)).alloc (by simp) (.cells #[.int .i64 b.id, .int .i64 b.si, .int .i64 b.sr, .int .i64 b.cl, .int .i64 b.pt.kd, .int .i64 b.pt.wh, .int .i64 b.pt.sr, .int .i64 b.pt.tr, .int .i64 b.pt.pi, .int .i64 b.pt.le, .int .i64 b.pt.zo, .int .i64 b.gd.kd, .int .i64 b.gd.nn, .int .i64 b.ac.kd, .int .i64 b.ac.nn, .int .i64 b.ac.pi, .int .i64 b.ac.si, .int .i64 b.ac.zo, .bool b.ac.be, .slice b.ac.la b.ac.ln b.ac.lcap, .int .i64 b.un, .int .i64 b.le] 41)
  have b1 := (boxR_new w 41 #[.int .i64 a.id, .int .i64 a.si, .int .i64 a.sr, .int .i64 a.cl, .int .i64 a.pt.kd, .int .i64 a.pt.wh, .int .i64 a.pt.sr, .int .i64 a.pt.tr, .int .i64 a.pt.pi, .int .i64 a.pt.le, .int .i64 a.pt.zo, .int .i64 a.gd.kd, .int .i64 a.gd.nn, .int .i64 a.ac.kd, .int .i64 a.ac.nn, .int .i64 a.ac.pi, .int .i64 a.ac.si, .int .i64 a.ac.zo, .bool a.ac.be, .slice a.ac.la a.ac.ln a.ac.lcap, .int .i64 a.un, .int .i64 a.le]).alloc (.cells #[.int .i64 b.id, .int .i64 b.si, .int .i64 b.sr, .int .i64 b.cl, .int .i64 b.pt.kd, .int .i64 b.pt.wh, .int .i64 b.pt.sr, .int .i64 b.pt.tr, .int .i64 b.pt.pi, .int .i64 b.pt.le, .int .i64 b.pt.zo, .int .i64 b.gd.kd, .int .i64 b.gd.nn, .int .i64 b.ac.kd, .int .i64 b.ac.nn, .int .i64 b.ac.pi, .int .i64 b.ac.si, .int .i64 b.ac.zo, .bool b.ac.be, .slice b.ac.la b.ac.ln b.ac.lcap, .int .i64 b.un, .int .i64 b.le] 41)
  have b2 : BoxR ((w.alloc (.cells #[.int .i64 a.id, .int .i64 a.si, .int .i64 a.sr, .int .i64 a.cl, .int .i64 a.pt.kd, .int .i64 a.pt.wh, .int .i64 a.pt.sr, .int .i64 a.pt.tr, .int .i64 a.pt.pi, .int .i64 a.pt.le, .int .i64 a.pt.zo, .int .i64 a.gd.kd, .int .i64 a.gd.nn, .int .i64 a.ac.kd, .int .i64 a.ac.nn, .int .i64 a.ac.pi, .int .i64 a.ac.si, .int .i64 a.ac.zo, .bool a.ac.be, .slice a.ac.la a.ac.ln a.ac.lcap, .int .i64 a.un, .int .i64 a.le] 41)).alloc (.cells #[.int .i64 b.id, .int .i64 b.si, .int .i64 b.sr, .int .i64 b.cl, .int .i64 b.pt.kd, .int .i64 b.pt.wh, .int .i64 b.pt.sr, .int .i64 b.pt.tr, .int .i64 b.pt.pi, .int .i64 b.pt.le, .int .i64 b.pt.zo, .int .i64 b.gd.kd, .int .i64 b.gd.nn, .int .i64 b.ac.kd, .int .i64 b.ac.nn, .int .i64 b.ac.pi, .int .i64 b.ac.si, .int .i64 b.ac.zo, .bool b.ac.be, .slice b.ac.la b.ac.ln b.ac.lcap, .int .i64 b.un, .int .i64 b.le] 41)) (w.heap.size + 1) 41 #[.int .i64 b.id, .int .i64 b.si, .int .i64 b.sr, .int .i64 b.cl, .int .i64 b.pt.kd, .int .i64 b.pt.wh, .int .i64 b.pt.sr, .int .i64 b.pt.tr, .int .i64 b.pt.pi, .int .i64 b.pt.le, .int .i64 b.pt.zo, .int .i64 b.gd.kd, .int .i64 b.gd.nn, .int .i64 b.ac.kd, .int .i64 b.ac.nn, .int .i64 b.ac.pi, .int .i64 b.ac.si, .int .i64 b.ac.zo, .bool b.ac.be, .slice b.ac.la b.ac.ln b.ac.lcap, .int .i64 b.un, .int .i64 b.le] := heap_alloc2_new _ _ _
  generalize hW : (w.alloc (.cells #[.int .i64 a.id, .int .i64 a.si, .int .i64 a.sr, .int .i64 a.cl, .int .i64 a.pt.kd, .int .i64 a.pt.wh, .int .i64 a.pt.sr, .int .i64 a.pt.tr, .int .i64 a.pt.pi, .int .i64 a.pt.le, .int .i64 a.pt.zo, .int .i64 a.gd.kd, .int .i64 a.gd.nn, .int .i64 a.ac.kd, .int .i64 a.ac.nn, .int .i64 a.ac.pi, .int .i64 a.ac.si, .int .i64 a.ac.zo, .bool a.ac.be, .slice a.ac.la a.ac.ln a.ac.lcap, .int .i64 a.un, .int .i64 a.le] 41)).alloc (.cells #[.int .i64 b.id, .int .i64 b.si, .int .i64 b.sr, .int .i64 b.cl, .int .i64 b.pt.kd, .int .i64 b.pt.wh, .int .i64 b.pt.sr, .int .i64 b.pt.tr, .int .i64 b.pt.pi, .int .i64 b.pt.le, .int .i64 b.pt.zo, .int .i64 b.gd.kd, .int .i64 b.gd.nn, .int .i64 b.ac.kd, .int .i64 b.ac.nn, .int .i64 b.ac.pi, .int .i64 b.ac.si, .int .i64 b.ac.zo, .bool b.ac.be, .slice b.ac.la b.ac.ln b.ac.lcap, .int .i64 b.un, .int .i64 b.le] 41) = W at HB b1 b2
  obtain ⟨c0, c1, c2, c3, c4, c5, c6, c7, c8, c9, c10, c11, c12, c13, c14, c15, c16, c17, c18, c19, c20, c21⟩ := b1.cells22
  obtain ⟨d0, d1, d2, d3, d4, d5, d6, d7, d8, d9, d10, d11, d12, d13, d14, d15, d16, d17, d18, d19, d20, d21⟩ := b2.cells22
  have EP : ∀ v : World, (Op.equalIn 10000 35 (.agg #[.int .i64 a.pt.kd, .int .i64 a.pt.wh, .int .i64 a.pt.sr, .int .i64 a.pt.tr, .int .i64 a.pt.pi, .int .i64 a.pt.le, .int .i64 a.pt.zo]) (.agg #[.int .i64 b.pt.kd, .int .i64 b.pt.wh, .int .i64 b.pt.sr, .int .i64 b.pt.tr, .int .i64 b.pt.pi, .int .i64 b.pt.le, .int .i64 b.pt.zo])).run Try.prog v = .ok (smPt a.pt b.pt) v := fun v => run_eq_pat a.pt b.pt v
  have EG : ∀ v : World, (Op.equalIn 10000 36 (.agg #[.int .i64 a.gd.kd, .int .i64 a.gd.nn]) (.agg #[.int .i64 b.gd.kd, .int .i64 b.gd.nn])).run Try.prog v = .ok (smGd a.gd b.gd) v := fun v => run_eq_guard a.gd b.gd v
  obtain ⟨n0, n1, n2, n3, n4, n5, n6, n7⟩ := HF.out
  rw [n4] at EP
  rw [n5] at EG
  clear HF n4 n5
  go_enter Try.func45, Try.ntmps45
  go_upto_region 3 with fail
  clear n0 n1 n2 n3 n6 n7 EP EG hW
  go_upto_region 4 with fail
  clear c0 c1 c2 c3 c4 c5 c6 c7 c8 c9 c10 c11 c12 c13 c14 c15 c16 c17 c18 c19 c20 c21 d0 d1 d2 d3 d4 d5 d6 d7 d8 d9 d10 d11 d12 d13 d14 d15 d16 d17 d18 d19 d20 d21 b1
  have y1 := boxR_new W 39 #[.int .i64 a.ac.kd, .int .i64 a.ac.nn, .int .i64 a.ac.pi, .int .i64 a.ac.si, .int .i64 a.ac.zo, .bool a.ac.be, .slice a.ac.la a.ac.ln a.ac.lcap]
  have b3 := b2.alloc (.cells #[.int .i64 a.ac.kd, .int .i64 a.ac.nn, .int .i64 a.ac.pi, .int .i64 a.ac.si, .int .i64 a.ac.zo, .bool a.ac.be, .slice a.ac.la a.ac.ln a.ac.lcap] 39)
  have HB1 := below_app HB ((Below.refl _ W).alloc (Nat.le_refl _) (.cells #[.int .i64 a.ac.kd, .int .i64 a.ac.nn, .int .i64 a.ac.pi, .int .i64 a.ac.si, .int .i64 a.ac.zo, .bool a.ac.be, .slice a.ac.la a.ac.ln a.ac.lcap] 39)) HB.size
  generalize hX : W.alloc (.cells #[.int .i64 a.ac.kd, .int .i64 a.ac.nn, .int .i64 a.ac.pi, .int .i64 a.ac.si, .int .i64 a.ac.zo, .bool a.ac.be, .slice a.ac.la a.ac.ln a.ac.lcap] 39) = X at y1 b3 HB1
  obtain ⟨e0, e1, e2, e3, e4, e5, e6⟩ := b3.acts
  go_upto_region 5 with fail
  clear e0 e1 e2 e3 e4 e5 e6 b2 b3 hX
  have y3 := y1.alloc (.cells #[.int .i64 b.ac.kd, .int .i64 b.ac.nn, .int .i64 b.ac.pi, .int .i64 b.ac.si, .int .i64 b.ac.zo, .bool b.ac.be, .slice b.ac.la b.ac.ln b.ac.lcap] 39)
  have y2 := boxR_new X 39 #[.int .i64 b.ac.kd, .int .i64 b.ac.nn, .int .i64 b.ac.pi, .int .i64 b.ac.si, .int .i64 b.ac.zo, .bool b.ac.be, .slice b.ac.la b.ac.ln b.ac.lcap]
  have HB2 := below_app HB1 ((Below.refl _ X).alloc (Nat.le_refl _) (.cells #[.int .i64 b.ac.kd, .int .i64 b.ac.nn, .int .i64 b.ac.pi, .int .i64 b.ac.si, .int .i64 b.ac.zo, .bool b.ac.be, .slice b.ac.la b.ac.ln b.ac.lcap] 39)) HB1.size
  clear y1 HB HB1
  generalize hV : X.alloc (.cells #[.int .i64 b.ac.kd, .int .i64 b.ac.nn, .int .i64 b.ac.pi, .int .i64 b.ac.si, .int .i64 b.ac.zo, .bool b.ac.be, .slice b.ac.la b.ac.ln b.ac.lcap] 39) = V at y3 y2 HB2
  have y1 := y3
  clear y3
  obtain ⟨g, hg⟩ : ∃ g, W.heap.size = g := ⟨_, rfl⟩
  obtain ⟨g2, hg2⟩ : ∃ g, X.heap.size = g := ⟨_, rfl⟩
  rw [hg] at y1 ⊢
  rw [hg2] at y2 ⊢
  clear hg hg2 hV
  as_aux_lemma =>
    have c0 := y1.cell 0
    have d0 := y2.cell 0
    have c1 := y1.cell 1
    have d1 := y2.cell 1
    have c2 := y1.cell 2
    have d2 := y2.cell 2
    have c3 := y1.cell 3
    have d3 := y2.cell 3
    have c4 := y1.cell 4
    have d4 := y2.cell 4
    have c5 := y1.cell 5
    have d5 := y2.cell 5
    have c6 := y1.cell 6
    have d6 := y2.cell 6
    simp at c0 d0 c1 d1 c2 d2 c3 d3 c4 d4 c5 d5 c6 d6
    rw [HLN.out] at d6
    obtain ⟨m0, m1, m2, m3, m4, m5⟩ := HK.out
    rw [m5] at d5
    go_wp2
    clear m0 m1 m2 m3 m4 m5 c0 c1 c2 c3 c4 c5 d0 d1 d2 d3 d4 d5 HK
    have HLM := HLN
    clear c6 d6
    have hsz := HB2.size
    go_loopw [7] (fun i wr => ∃ k : Nat, k ≤ a.ac.ln ∧ i = .int .i64 k ∧ Hid (∀ j, j < k → smE (a.ac.es j) (b.ac.es j) = true) ∧ Below V.heap.size V wr) (fun i _ => a.ac.ln - (intOf i).toNat)
    case atStart => exact ⟨0, Nat.zero_le _, rfl, fun j hj => by omega, Below.refl _ _⟩
    case round =>
      obtain ⟨k, hk, rfl, hall, hb⟩ := hrel
      have hB := below_app HB2 hb hsz
      have z1 := y1.grew hb
      have z2 := y2.grew hb
      have c6 := z1.cell 6
      have d6 := z2.cell 6
      simp at c6 d6
      rw [HLM.out] at d6
      by_cases hlt : k < a.ac.ln
      · rcases R1.out _ hB with g1 | ⟨o1, hp1, g1⟩
        · omega
        rcases R2.out _ hB with g2_ | ⟨o2, hp2, g2_⟩
        · omega
        rw [hp1] at c6
        rw [hp2] at d6
        obtain ⟨k0, k1, k2, k3, k4, k5, k6⟩ : AtEv wr a.ac.lb (o1 + k * 7) (a.ac.es k) := AtEv_of (g1 k hlt)
        obtain ⟨j0, j1, j2, j3, j4, j5, j6⟩ : AtEv wr b.ac.lb (o2 + k * 7) (b.ac.es k) := AtEv_of (g2_ k hlt)
        clear hp1 hp2 g1 g2_ z1 z2
        have e1 : (0 : Int) ≤ (k : Int) := by omega
        have e2 : (k : Int) < (a.ac.ln : Int) := by omega
        cases hs : smE (a.ac.es k) (b.ac.es k)
        case false =>
          have HR : Hid (smEf a b = false) := by show _ = _; rw [HA.out, smL_no hlt hs]
          have EQ : ∀ v : World, (Op.equalIn 10000 43 (.agg #[.int .i64 (a.ac.es k).kd, .int .i64 (a.ac.es k).sr, .int .i64 (a.ac.es k).pi, .int .i64 (a.ac.es k).si, .int .i64 (a.ac.es k).nn, .int .i64 (a.ac.es k).zo, .bool (a.ac.es k).be]) (.agg #[.int .i64 (b.ac.es k).kd, .int .i64 (b.ac.es k).sr, .int .i64 (b.ac.es k).pi, .int .i64 (b.ac.es k).si, .int .i64 (b.ac.es k).nn, .int .i64 (b.ac.es k).zo, .bool (b.ac.es k).be])).run Try.prog v = .ok false v := fun v => by have := run_eq_ev (a.ac.es k) (b.ac.es k) v; rw [hs] at this; exact this
          clear hs
          go_wp2
          go_quiet (fail)
          go_wp2
          go_ret
          exact ⟨ret_bool' HR.out.symm, below_app HB2 (below_drewN hb _) hsz⟩
        case true =>
          have HN : Hid (∀ j, j < k + 1 → smE (a.ac.es j) (b.ac.es j) = true) := fun j hj => by
            by_cases ej : j = k
            · rw [ej]; exact hs
            · exact hall.out j (by omega)
          have EQ : ∀ v : World, (Op.equalIn 10000 43 (.agg #[.int .i64 (a.ac.es k).kd, .int .i64 (a.ac.es k).sr, .int .i64 (a.ac.es k).pi, .int .i64 (a.ac.es k).si, .int .i64 (a.ac.es k).nn, .int .i64 (a.ac.es k).zo, .bool (a.ac.es k).be]) (.agg #[.int .i64 (b.ac.es k).kd, .int .i64 (b.ac.es k).sr, .int .i64 (b.ac.es k).pi, .int .i64 (b.ac.es k).si, .int .i64 (b.ac.es k).nn, .int .i64 (b.ac.es k).zo, .bool (b.ac.es k).be])).run Try.prog v = .ok true v := fun v => by have := run_eq_ev (a.ac.es k) (b.ac.es k) v; rw [hs] at this; exact this
          clear hs
          go_wp2
          go_quiet (fail)
          go_wp2
          go_roundw
          case rel => first | exact ⟨k + 1, by omega, by go_num, HN, below_drewN hb _⟩ | ((repeat apply Exists.intro); exact ⟨⟨k + 1, by omega, by go_num, HN, below_drewN hb _⟩, rfl⟩)
          case measure => simp [intOf]; omega
      · have HL : Hid (smEf a b = true) := by show _ = _; rw [HA.out]; exact smL_yes (fun j hj => hall.out j (by omega))
        obtain rfl : k = a.ac.ln := by omega
        clear hall hk hlt
        go_wp2
        go_ret
        exact ⟨ret_bool' HL.out.symm, hB⟩
theorem specSameEffect_any (a b : Ef) (w : World) (ha : a.okW w) (hb : b.okW w) (hn : a.ac.ln ≤ 1048577) : Calls Try.prog 45 #[(.agg #[.int .i64 a.id, .int .i64 a.si, .int .i64 a.sr, .int .i64 a.cl, .int .i64 a.pt.kd, .int .i64 a.pt.wh, .int .i64 a.pt.sr, .int .i64 a.pt.tr, .int .i64 a.pt.pi, .int .i64 a.pt.le, .int .i64 a.pt.zo, .int .i64 a.gd.kd, .int .i64 a.gd.nn, .int .i64 a.ac.kd, .int .i64 a.ac.nn, .int .i64 a.ac.pi, .int .i64 a.ac.si, .int .i64 a.ac.zo, .bool a.ac.be, .slice a.ac.la a.ac.ln a.ac.lcap, .int .i64 a.un, .int .i64 a.le]), (.agg #[.int .i64 b.id, .int .i64 b.si, .int .i64 b.sr, .int .i64 b.cl, .int .i64 b.pt.kd, .int .i64 b.pt.wh, .int .i64 b.pt.sr, .int .i64 b.pt.tr, .int .i64 b.pt.pi, .int .i64 b.pt.le, .int .i64 b.pt.zo, .int .i64 b.gd.kd, .int .i64 b.gd.nn, .int .i64 b.ac.kd, .int .i64 b.ac.nn, .int .i64 b.ac.pi, .int .i64 b.ac.si, .int .i64 b.ac.zo, .bool b.ac.be, .slice b.ac.la b.ac.ln b.ac.lcap, .int .i64 b.un, .int .i64 b.le])] w fun e w' => e = .returned (.bool (smEf a b)) ∧ Below w.heap.size w w' := by
  cases h : smH a b with
  | false => exact sef_h a b w h
  | true =>
    cases hk : smK a.ac b.ac with
    | false => exact sef_k a b w h hk
    | true => exact sef_t a b w ha hb hn h hk
end Go.Proofs.Ytodfdfncdoliiat
