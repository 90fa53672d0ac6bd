/-
  What is proved: at every effect and every int, the law FnExactSpent answers true: the program's and the specification's answer alike, the answer lies in new memory, and the arguments read afterwards as before; no condition.
-/
import Derived.Test.YtodfdfncdoliiatRows
import Derived.Test.YtodfdfncdoliiatRegCut
import Derived.Test.YtodfdfncdoliiatCur
import Derived.Test.YtodfdfncdoliiatPiece
import Derived.Test.YtodfdfncdoliiatRow
import Derived.Test.YtodfdfncdoliiatPiece2
import Derived.Test.YtodfdfncdoliiatState1
import Derived.Test.YtodfdfncdoliiatRowLaw
import Derived.Test.YtodfdfncdoliiatState2
import Derived.Test.YtodfdfncdoliiatState3
import Derived.Test.YtodfdfncdoliiatSeg
import Derived.Test.YtodfdfncdoliiatRegTail
import Derived.Test.YtodfdfncdoliiatRegBelow
import Derived.Test.YtodfdfncdoliiatNum
import Derived.Test.YtodfdfncdoliiatPiece3
import Derived.Test.YtodfdfncdoliiatState4
import Derived.Test.YtodfdfncdoliiatState5
import Derived.Test.YtodfdfncdoliiatStMark
import Derived.Test.YtodfdfncdoliiatGPieceOk2
import Derived.Test.YtodfdfncdoliiatStHeld
import Derived.Test.YtodfdfncdoliiatStEq
import Derived.Test.YtodfdfncdoliiatStSame
import Derived.Test.YtodfdfncdoliiatStLaw
import Derived.Test.YtodfdfncdoliiatEvA
import Derived.Test.YtodfdfncdoliiatEvN
import Derived.Test.YtodfdfncdoliiatAcR
import Derived.Test.YtodfdfncdoliiatAcA
import Derived.Test.YtodfdfncdoliiatPaA
import Derived.Test.YtodfdfncdoliiatGuA
import Derived.Test.YtodfdfncdoliiatEfA
import Derived.Test.YtodfdfncdoliiatEfB
import Derived.Test.YtodfdfncdoliiatBytes
import Derived.Test.YtodfdfncdoliiatStNew
import Derived.Test.YtodfdfncdoliiatSpA
import Derived.Test.YtodfdfncdoliiatEfC
import Derived.Test.YtodfdfncdoliiatSpB
import Derived.Test.YtodfdfncdoliiatFrE
import Derived.Test.YtodfdfncdoliiatSpC
import Derived.Test.YtodfdfncdoliiatEvW
import Derived.Test.YtodfdfncdoliiatEvB1
import Derived.Test.YtodfdfncdoliiatEvB2
import Derived.Test.YtodfdfncdoliiatEvB
import Derived.Test.YtodfdfncdoliiatAcB
import Derived.Test.YtodfdfncdoliiatAcD
import Derived.Test.YtodfdfncdoliiatPaB
import Derived.Test.YtodfdfncdoliiatGuB
import Derived.Test.YtodfdfncdoliiatEfD
import Derived.Test.YtodfdfncdoliiatState8
import Derived.Test.YtodfdfncdoliiatStAt
import Derived.Test.YtodfdfncdoliiatAcC
import Derived.Test.YtodfdfncdoliiatEfE
import Derived.Test.YtodfdfncdoliiatAcL
import Derived.Test.YtodfdfncdoliiatEfL
import Derived.Test.YtodfdfncdoliiatSpD
import Derived.Test.YtodfdfncdoliiatSpE
import Derived.WalkKit
import Derived.Deep.RegionHeld
import Derived.Deep.RegionHeldLaw
import Derived.Deep.MidRow
import Derived.ProofKit
import Derived.OpenShut
import Derived.ShutString
import Derived.ChangeOld
import Derived.Below
namespace Go.Proofs.Ytodfdfncdoliiat.fnExactSpent
open Go.ChangeShapes Go.WideShapes Go.ChangeAt Go.RowKit
set_option linter.unusedVariables false

theorem own : ownKnob Try.prog.godebug = none := by kernel_rfl
theorem laidOut : laidOutB Try.prog = true := by kernel_rfl

def IsRow (k : IntKind) (w : World) (a : Option Addr) (len cap : Nat) (zs : List Int) : Prop :=
  (a = none ∧ len = 0 ∧ cap = 0 ∧ zs = []) ∨
  ∃ x, a = some x ∧ len ≤ cap ∧ cap ≤ maxLen ∧ zs.length = cap ∧ (∀ i, i < zs.length → w.cell? (x.add i) = some (.int k (zs.getD i 0))) ∧ ∀ n ∈ zs, (Lit.int k n).wf = true

set_option maxHeartbeats 2000000 in
theorem BoxR.range {w : World} {g t : Nat} {cs : Array Value} (h : BoxR w g t cs) : w.rangeAt g 0 cs.toList := fun j v hv => by
  have hc := cell_of_row w g (0 + j) cs t (0, 0) h
  rw [hc]
  simpa using hv
theorem wpList_val {P : Program} {w : World} {ops : Array Oper} {rest : List Oper} {o : Oper} {a : Act} {Q : Exit → Act → World → Prop} (hgd : o.guard = none) (v : Value) (h : (execOp a.eval o).run P w = .ok (.value v) w) (k : wpList P ops Q rest (a.put o.dst v) w) : wpList P ops Q (o :: rest) a w :=
  wpList_plain hgd fun K hK => by
    unfold Oper.wp
    rw [h]
    exact hK _ _ k
set_option linter.unusedSimpArgs false in
set_option maxRecDepth 100000 in
set_option maxHeartbeats 4000000 in
theorem walk (p0 : Ef) (a1 : Int) (w : World) (w0 : p0.ok w) (w1 : (Lit.int .i64 a1).wf = true) :
    Calls Try.prog 4 #[.agg #[.int .i64 p0.id, .int .i64 p0.si, .int .i64 p0.sr, .int .i64 p0.cl, .int .i64 p0.pt.kd, .int .i64 p0.pt.wh, .int .i64 p0.pt.sr, .int .i64 p0.pt.tr, .int .i64 p0.pt.pi, .int .i64 p0.pt.le, .int .i64 p0.pt.zo, .int .i64 p0.gd.kd, .int .i64 p0.gd.nn, .int .i64 p0.ac.kd, .int .i64 p0.ac.nn, .int .i64 p0.ac.pi, .int .i64 p0.ac.si, .int .i64 p0.ac.zo, .bool p0.ac.be, .slice p0.ac.la p0.ac.ln p0.ac.lcap, .int .i64 p0.un, .int .i64 p0.le], .int .i64 a1] w fun e w' => e = .returned (.bool true) ∧ Below w.heap.size w w' := by
  have m_ : Try.prog.follows Departure.mixedOrders = true := by kernel_rfl
  have hBw := (Below.refl _ w).alloc (Nat.le_refl _) (.cells #[.int .i64 p0.id, .int .i64 p0.si, .int .i64 p0.sr, .int .i64 p0.cl, .int .i64 p0.pt.kd, .int .i64 p0.pt.wh, .int .i64 p0.pt.sr, .int .i64 p0.pt.tr, .int .i64 p0.pt.pi, .int .i64 p0.pt.le, .int .i64 p0.pt.zo, .int .i64 p0.gd.kd, .int .i64 p0.gd.nn, .int .i64 p0.ac.kd, .int .i64 p0.ac.nn, .int .i64 p0.ac.pi, .int .i64 p0.ac.si, .int .i64 p0.ac.zo, .bool p0.ac.be, .slice p0.ac.la p0.ac.ln p0.ac.lcap, .int .i64 p0.un, .int .i64 p0.le] 30)
  have b_c0 := boxR_new w 30 #[.int .i64 p0.id, .int .i64 p0.si, .int .i64 p0.sr, .int .i64 p0.cl, .int .i64 p0.pt.kd, .int .i64 p0.pt.wh, .int .i64 p0.pt.sr, .int .i64 p0.pt.tr, .int .i64 p0.pt.pi, .int .i64 p0.pt.le, .int .i64 p0.pt.zo, .int .i64 p0.gd.kd, .int .i64 p0.gd.nn, .int .i64 p0.ac.kd, .int .i64 p0.ac.nn, .int .i64 p0.ac.pi, .int .i64 p0.ac.si, .int .i64 p0.ac.zo, .bool p0.ac.be, .slice p0.ac.la p0.ac.ln p0.ac.lcap, .int .i64 p0.un, .int .i64 p0.le]
  generalize hW : w.alloc (.cells #[.int .i64 p0.id, .int .i64 p0.si, .int .i64 p0.sr, .int .i64 p0.cl, .int .i64 p0.pt.kd, .int .i64 p0.pt.wh, .int .i64 p0.pt.sr, .int .i64 p0.pt.tr, .int .i64 p0.pt.pi, .int .i64 p0.pt.le, .int .i64 p0.pt.zo, .int .i64 p0.gd.kd, .int .i64 p0.gd.nn, .int .i64 p0.ac.kd, .int .i64 p0.ac.nn, .int .i64 p0.ac.pi, .int .i64 p0.ac.si, .int .i64 p0.ac.zo, .bool p0.ac.be, .slice p0.ac.la p0.ac.ln p0.ac.lcap, .int .i64 p0.un, .int .i64 p0.le] 30) = W at hBw b_c0
  have hsz : w.heap.size ≤ W.heap.size := hBw.size
  have k_c0 := ef_grew w0 hBw
  have hB := Below.refl W.heap.size W
  have hmx : p0.ac.ln ≤ 9223372036854775807 := by have := k_c0.1.1; have := k_c0.1.2.1; unfold maxLen at *; omega
  by_cases z : (1048576 : Int) - (p0.ac.ln : Int) < 0
  · have Z : Hid (szN p0.ac.ln 1048576 = -1) := by show szN p0.ac.ln 1048576 = -1; unfold szN; rw [if_pos z]
    go_enter Try.func4, Try.ntmps4
    go_wp2_with (first | (refine wpList_load_row rfl 30 _ rfl (w.heap.size) (by rfl) _ _ _ _ b_c0 Try.underlying30 rfl (by kernel_rfl) ?_))
    refine (szEffect_any p0 1048576 _ hmx (by omega)).mono ?_
    rintro e y1_ ⟨rfl, hb⟩
    try clear hW
    as_aux_lemma =>
      replace b_c0 := b_c0.grew hb
      replace hB := below_app hB hb hB.size
      clear hb
      rw [Z.out]
      go_wp2
      go_ret
      exact ⟨rfl, below_app hBw hB hsz⟩
  have n_c0 : p0.ac.ln ≤ 1048576 := by omega
  have Y : Hid (szN p0.ac.ln 1048576 = 1048576 - (p0.ac.ln : Int)) := by show szN p0.ac.ln 1048576 = _; unfold szN; rw [if_neg z]
  have y0 : 0 ≤ 1048576 - (p0.ac.ln : Int) := by omega
  clear z
  go_enter Try.func4, Try.ntmps4
  go_wp2_with (first | (refine wpList_load_row rfl 30 _ rfl (w.heap.size) (by rfl) _ _ _ _ b_c0 Try.underlying30 rfl (by kernel_rfl) ?_))
  refine (szEffect_any p0 1048576 _ hmx (by omega)).mono ?_
  rintro e y1_ ⟨rfl, hb⟩
  try clear hW
  as_aux_lemma =>
    replace b_c0 := b_c0.grew hb
    replace hB := below_app hB hb hB.size
    clear hb
    rw [Y.out]
    clear hmx
    have nsp : (spE p0 a1).ac.ln ≤ 1048577 := by show p0.ac.ln ≤ _; omega
    go_wp2_with (first | (refine wpList_load_row rfl 30 _ rfl (w.heap.size) (by rfl) _ _ _ _ b_c0 Try.underlying30 rfl (by kernel_rfl) ?_))
    refine (toEffect_ans p0 _ (ef_grew k_c0 hB) n_c0).mono ?_
    rintro e y2_ ⟨t_y, rfl, hb, o_y, e_y⟩
    as_aux_lemma =>
      have d_c0_y : w.heap.size ≠ t_y.ac.lb := by have h1 := b_c0.lt; have h2 := o_y.2.2.1; omega
      have f_y : W.heap.size ≤ t_y.ac.lb := by have := o_y.2.2.1; have := hB.size; omega
      replace b_c0 := b_c0.grew hb
      replace hB := below_app hB hb hB.size
      clear hb
      go_wp2_with fail
      refine (specSpent_al a1 o_y e_y k_c0 n_c0).mono ?_
      rintro e y3_ ⟨t_w, rfl, hb, o_w, e_w⟩
      as_aux_lemma =>
        have a_y_w : t_y.ac.lb ≠ t_w.ac.lb := by have h1 := o_y.2.2.2.1; have h2 := o_w.2.2.1; omega
        have a_w_y := a_y_w.symm
        have d_c0_w : w.heap.size ≠ t_w.ac.lb := by have h1 := b_c0.lt; have h2 := o_w.2.2.1; omega
        have f_w : W.heap.size ≤ t_w.ac.lb := by have := o_w.2.2.1; have := hB.size; omega
        replace o_y := o_y.grew hb
        replace b_c0 := b_c0.grew hb
        replace hB := below_app hB hb hB.size
        clear hb
        clear o_y
        have d_w_w : y3_.heap.size ≠ t_w.ac.lb := by have h1 := o_w.2.2.2.1; omega
        have zx := boxR_new y3_ 41 #[.int .i64 0, .int .i64 0, .int .i64 0, .int .i64 0, .int .i64 0, .int .i64 0, .int .i64 0, .int .i64 0, .int .i64 0, .int .i64 0, .int .i64 0, .int .i64 0, .int .i64 0, .int .i64 0, .int .i64 0, .int .i64 0, .int .i64 0, .int .i64 0, .bool false, .slice none 0 0, .int .i64 0, .int .i64 0]
        have hb := below_setRow ((Below.refl _ y3_).alloc (Nat.le_refl _) (.cells #[.int .i64 0, .int .i64 0, .int .i64 0, .int .i64 0, .int .i64 0, .int .i64 0, .int .i64 0, .int .i64 0, .int .i64 0, .int .i64 0, .int .i64 0, .int .i64 0, .int .i64 0, .int .i64 0, .int .i64 0, .int .i64 0, .int .i64 0, .int .i64 0, .bool false, .slice none 0 0, .int .i64 0, .int .i64 0] 41)) (Nat.le_refl _) #[.int .i64 t_w.id, .int .i64 t_w.si, .int .i64 t_w.sr, .int .i64 t_w.cl, .int .i64 t_w.pt.kd, .int .i64 t_w.pt.wh, .int .i64 t_w.pt.sr, .int .i64 t_w.pt.tr, .int .i64 t_w.pt.pi, .int .i64 t_w.pt.le, .int .i64 t_w.pt.zo, .int .i64 t_w.gd.kd, .int .i64 t_w.gd.nn, .int .i64 t_w.ac.kd, .int .i64 t_w.ac.nn, .int .i64 t_w.ac.pi, .int .i64 t_w.ac.si, .int .i64 t_w.ac.zo, .bool t_w.ac.be, .slice t_w.ac.la t_w.ac.ln t_w.ac.lcap, .int .i64 t_w.un, .int .i64 t_w.le]
        have b_w : BoxR ((y3_.alloc (.cells #[.int .i64 0, .int .i64 0, .int .i64 0, .int .i64 0, .int .i64 0, .int .i64 0, .int .i64 0, .int .i64 0, .int .i64 0, .int .i64 0, .int .i64 0, .int .i64 0, .int .i64 0, .int .i64 0, .int .i64 0, .int .i64 0, .int .i64 0, .int .i64 0, .bool false, .slice none 0 0, .int .i64 0, .int .i64 0] 41)).setRow y3_.heap.size #[.int .i64 t_w.id, .int .i64 t_w.si, .int .i64 t_w.sr, .int .i64 t_w.cl, .int .i64 t_w.pt.kd, .int .i64 t_w.pt.wh, .int .i64 t_w.pt.sr, .int .i64 t_w.pt.tr, .int .i64 t_w.pt.pi, .int .i64 t_w.pt.le, .int .i64 t_w.pt.zo, .int .i64 t_w.gd.kd, .int .i64 t_w.gd.nn, .int .i64 t_w.ac.kd, .int .i64 t_w.ac.nn, .int .i64 t_w.ac.pi, .int .i64 t_w.ac.si, .int .i64 t_w.ac.zo, .bool t_w.ac.be, .slice t_w.ac.la t_w.ac.ln t_w.ac.lcap, .int .i64 t_w.un, .int .i64 t_w.le]) y3_.heap.size 41 #[.int .i64 t_w.id, .int .i64 t_w.si, .int .i64 t_w.sr, .int .i64 t_w.cl, .int .i64 t_w.pt.kd, .int .i64 t_w.pt.wh, .int .i64 t_w.pt.sr, .int .i64 t_w.pt.tr, .int .i64 t_w.pt.pi, .int .i64 t_w.pt.le, .int .i64 t_w.pt.zo, .int .i64 t_w.gd.kd, .int .i64 t_w.gd.nn, .int .i64 t_w.ac.kd, .int .i64 t_w.ac.nn, .int .i64 t_w.ac.pi, .int .i64 t_w.ac.si, .int .i64 t_w.ac.zo, .bool t_w.ac.be, .slice t_w.ac.la t_w.ac.ln t_w.ac.lcap, .int .i64 t_w.un, .int .i64 t_w.le] := setRow_heap _ _ _ _ _ _ zx
        generalize hVx : (y3_.alloc (.cells #[.int .i64 0, .int .i64 0, .int .i64 0, .int .i64 0, .int .i64 0, .int .i64 0, .int .i64 0, .int .i64 0, .int .i64 0, .int .i64 0, .int .i64 0, .int .i64 0, .int .i64 0, .int .i64 0, .int .i64 0, .int .i64 0, .int .i64 0, .int .i64 0, .bool false, .slice none 0 0, .int .i64 0, .int .i64 0] 41)).setRow y3_.heap.size #[.int .i64 t_w.id, .int .i64 t_w.si, .int .i64 t_w.sr, .int .i64 t_w.cl, .int .i64 t_w.pt.kd, .int .i64 t_w.pt.wh, .int .i64 t_w.pt.sr, .int .i64 t_w.pt.tr, .int .i64 t_w.pt.pi, .int .i64 t_w.pt.le, .int .i64 t_w.pt.zo, .int .i64 t_w.gd.kd, .int .i64 t_w.gd.nn, .int .i64 t_w.ac.kd, .int .i64 t_w.ac.nn, .int .i64 t_w.ac.pi, .int .i64 t_w.ac.si, .int .i64 t_w.ac.zo, .bool t_w.ac.be, .slice t_w.ac.la t_w.ac.ln t_w.ac.lcap, .int .i64 t_w.un, .int .i64 t_w.le] = y4_ at hb b_w
        replace o_w := o_w.grew hb
        replace b_c0 := b_c0.grew hb
        replace hB := below_app hB hb hB.size
        clear hb
        go_wp2_with (first | (refine wpList_store_row rfl 41 (.tmp 6) _ rfl (y3_.heap.size) #[.int .i64 t_w.id, .int .i64 t_w.si, .int .i64 t_w.sr, .int .i64 t_w.cl, .int .i64 t_w.pt.kd, .int .i64 t_w.pt.wh, .int .i64 t_w.pt.sr, .int .i64 t_w.pt.tr, .int .i64 t_w.pt.pi, .int .i64 t_w.pt.le, .int .i64 t_w.pt.zo, .int .i64 t_w.gd.kd, .int .i64 t_w.gd.nn, .int .i64 t_w.ac.kd, .int .i64 t_w.ac.nn, .int .i64 t_w.ac.pi, .int .i64 t_w.ac.si, .int .i64 t_w.ac.zo, .bool t_w.ac.be, .slice t_w.ac.la t_w.ac.ln t_w.ac.lcap, .int .i64 t_w.un, .int .i64 t_w.le] (by rfl) (by rfl) _ _ zx (by kernel_rfl) (by rfl) (by simp [Value.oneCell']) ?_; rw [hVx]) | (refine wpList_load_row rfl 30 _ rfl (w.heap.size) (by rfl) _ _ _ _ b_c0 Try.underlying30 rfl (by kernel_rfl) ?_))
        refine (toEffect_ans p0 _ (ef_grew k_c0 hB) n_c0).mono ?_
        rintro e y5_ ⟨t_x, rfl, hb, o_x, e_x⟩
        clear zx hVx
        as_aux_lemma =>
          have a_w_x : t_w.ac.lb ≠ t_x.ac.lb := by have h1 := o_w.2.2.2.1; have h2 := o_x.2.2.1; omega
          have a_x_w := a_w_x.symm
          have d_c0_x : w.heap.size ≠ t_x.ac.lb := by have h1 := b_c0.lt; have h2 := o_x.2.2.1; omega
          have d_w_x : y3_.heap.size ≠ t_x.ac.lb := by have h1 := b_w.lt; have h2 := o_x.2.2.1; omega
          have f_x : W.heap.size ≤ t_x.ac.lb := by have := o_x.2.2.1; have := hB.size; omega
          replace o_w := o_w.grew hb
          replace b_c0 := b_c0.grew hb
          replace b_w := b_w.grew hb
          replace hB := below_app hB hb hB.size
          clear hb
          have d_x_w : y5_.heap.size ≠ t_w.ac.lb := by have h1 := o_w.2.2.2.1; omega
          have d_x_x : y5_.heap.size ≠ t_x.ac.lb := by have h1 := o_x.2.2.2.1; omega
          have zx := boxR_new y5_ 41 #[.int .i64 0, .int .i64 0, .int .i64 0, .int .i64 0, .int .i64 0, .int .i64 0, .int .i64 0, .int .i64 0, .int .i64 0, .int .i64 0, .int .i64 0, .int .i64 0, .int .i64 0, .int .i64 0, .int .i64 0, .int .i64 0, .int .i64 0, .int .i64 0, .bool false, .slice none 0 0, .int .i64 0, .int .i64 0]
          have hb := below_setRow ((Below.refl _ y5_).alloc (Nat.le_refl _) (.cells #[.int .i64 0, .int .i64 0, .int .i64 0, .int .i64 0, .int .i64 0, .int .i64 0, .int .i64 0, .int .i64 0, .int .i64 0, .int .i64 0, .int .i64 0, .int .i64 0, .int .i64 0, .int .i64 0, .int .i64 0, .int .i64 0, .int .i64 0, .int .i64 0, .bool false, .slice none 0 0, .int .i64 0, .int .i64 0] 41)) (Nat.le_refl _) #[.int .i64 t_x.id, .int .i64 t_x.si, .int .i64 t_x.sr, .int .i64 t_x.cl, .int .i64 t_x.pt.kd, .int .i64 t_x.pt.wh, .int .i64 t_x.pt.sr, .int .i64 t_x.pt.tr, .int .i64 t_x.pt.pi, .int .i64 t_x.pt.le, .int .i64 t_x.pt.zo, .int .i64 t_x.gd.kd, .int .i64 t_x.gd.nn, .int .i64 t_x.ac.kd, .int .i64 t_x.ac.nn, .int .i64 t_x.ac.pi, .int .i64 t_x.ac.si, .int .i64 t_x.ac.zo, .bool t_x.ac.be, .slice t_x.ac.la t_x.ac.ln t_x.ac.lcap, .int .i64 t_x.un, .int .i64 t_x.le]
          have b_x : BoxR ((y5_.alloc (.cells #[.int .i64 0, .int .i64 0, .int .i64 0, .int .i64 0, .int .i64 0, .int .i64 0, .int .i64 0, .int .i64 0, .int .i64 0, .int .i64 0, .int .i64 0, .int .i64 0, .int .i64 0, .int .i64 0, .int .i64 0, .int .i64 0, .int .i64 0, .int .i64 0, .bool false, .slice none 0 0, .int .i64 0, .int .i64 0] 41)).setRow y5_.heap.size #[.int .i64 t_x.id, .int .i64 t_x.si, .int .i64 t_x.sr, .int .i64 t_x.cl, .int .i64 t_x.pt.kd, .int .i64 t_x.pt.wh, .int .i64 t_x.pt.sr, .int .i64 t_x.pt.tr, .int .i64 t_x.pt.pi, .int .i64 t_x.pt.le, .int .i64 t_x.pt.zo, .int .i64 t_x.gd.kd, .int .i64 t_x.gd.nn, .int .i64 t_x.ac.kd, .int .i64 t_x.ac.nn, .int .i64 t_x.ac.pi, .int .i64 t_x.ac.si, .int .i64 t_x.ac.zo, .bool t_x.ac.be, .slice t_x.ac.la t_x.ac.ln t_x.ac.lcap, .int .i64 t_x.un, .int .i64 t_x.le]) y5_.heap.size 41 #[.int .i64 t_x.id, .int .i64 t_x.si, .int .i64 t_x.sr, .int .i64 t_x.cl, .int .i64 t_x.pt.kd, .int .i64 t_x.pt.wh, .int .i64 t_x.pt.sr, .int .i64 t_x.pt.tr, .int .i64 t_x.pt.pi, .int .i64 t_x.pt.le, .int .i64 t_x.pt.zo, .int .i64 t_x.gd.kd, .int .i64 t_x.gd.nn, .int .i64 t_x.ac.kd, .int .i64 t_x.ac.nn, .int .i64 t_x.ac.pi, .int .i64 t_x.ac.si, .int .i64 t_x.ac.zo, .bool t_x.ac.be, .slice t_x.ac.la t_x.ac.ln t_x.ac.lcap, .int .i64 t_x.un, .int .i64 t_x.le] := setRow_heap _ _ _ _ _ _ zx
          generalize hVx : (y5_.alloc (.cells #[.int .i64 0, .int .i64 0, .int .i64 0, .int .i64 0, .int .i64 0, .int .i64 0, .int .i64 0, .int .i64 0, .int .i64 0, .int .i64 0, .int .i64 0, .int .i64 0, .int .i64 0, .int .i64 0, .int .i64 0, .int .i64 0, .int .i64 0, .int .i64 0, .bool false, .slice none 0 0, .int .i64 0, .int .i64 0] 41)).setRow y5_.heap.size #[.int .i64 t_x.id, .int .i64 t_x.si, .int .i64 t_x.sr, .int .i64 t_x.cl, .int .i64 t_x.pt.kd, .int .i64 t_x.pt.wh, .int .i64 t_x.pt.sr, .int .i64 t_x.pt.tr, .int .i64 t_x.pt.pi, .int .i64 t_x.pt.le, .int .i64 t_x.pt.zo, .int .i64 t_x.gd.kd, .int .i64 t_x.gd.nn, .int .i64 t_x.ac.kd, .int .i64 t_x.ac.nn, .int .i64 t_x.ac.pi, .int .i64 t_x.ac.si, .int .i64 t_x.ac.zo, .bool t_x.ac.be, .slice t_x.ac.la t_x.ac.ln t_x.ac.lcap, .int .i64 t_x.un, .int .i64 t_x.le] = y6_ at hb b_x
          replace o_w := o_w.grew hb
          replace o_x := o_x.grew hb
          replace b_c0 := b_c0.grew hb
          replace b_w := b_w.grew hb
          replace hB := below_app hB hb hB.size
          clear hb
          go_wp2_with (first | (refine wpList_store_row rfl 41 (.tmp 7) _ rfl (y5_.heap.size) #[.int .i64 t_x.id, .int .i64 t_x.si, .int .i64 t_x.sr, .int .i64 t_x.cl, .int .i64 t_x.pt.kd, .int .i64 t_x.pt.wh, .int .i64 t_x.pt.sr, .int .i64 t_x.pt.tr, .int .i64 t_x.pt.pi, .int .i64 t_x.pt.le, .int .i64 t_x.pt.zo, .int .i64 t_x.gd.kd, .int .i64 t_x.gd.nn, .int .i64 t_x.ac.kd, .int .i64 t_x.ac.nn, .int .i64 t_x.ac.pi, .int .i64 t_x.ac.si, .int .i64 t_x.ac.zo, .bool t_x.ac.be, .slice t_x.ac.la t_x.ac.ln t_x.ac.lcap, .int .i64 t_x.un, .int .i64 t_x.le] (by rfl) (by rfl) _ _ zx (by kernel_rfl) (by rfl) (by simp [Value.oneCell']) ?_; rw [hVx]) | (refine wpList_load_row rfl 41 _ rfl (y5_.heap.size) (by rfl) _ _ _ _ b_x Try.underlying41 rfl (by kernel_rfl) ?_))
          refine (implSpent_al a1 o_x e_x k_c0 n_c0).mono ?_
          rintro e y7_ ⟨t_g, rfl, hb, o_g, e_g⟩
          clear zx hVx
          as_aux_lemma =>
            have a_w_g : t_w.ac.lb ≠ t_g.ac.lb := by have h1 := o_w.2.2.2.1; have h2 := o_g.2.2.1; omega
            have a_g_w := a_w_g.symm
            have a_x_g : t_x.ac.lb ≠ t_g.ac.lb := by have h1 := o_x.2.2.2.1; have h2 := o_g.2.2.1; omega
            have a_g_x := a_x_g.symm
            have d_c0_g : w.heap.size ≠ t_g.ac.lb := by have h1 := b_c0.lt; have h2 := o_g.2.2.1; omega
            have d_w_g : y3_.heap.size ≠ t_g.ac.lb := by have h1 := b_w.lt; have h2 := o_g.2.2.1; omega
            have d_x_g : y5_.heap.size ≠ t_g.ac.lb := by have h1 := b_x.lt; have h2 := o_g.2.2.1; omega
            have f_g : W.heap.size ≤ t_g.ac.lb := by have := o_g.2.2.1; have := hB.size; omega
            replace o_w := o_w.grew hb
            replace o_x := o_x.grew hb
            replace b_c0 := b_c0.grew hb
            replace b_w := b_w.grew hb
            replace b_x := b_x.grew hb
            replace hB := below_app hB hb hB.size
            clear hb
            have d_g_w : y7_.heap.size ≠ t_w.ac.lb := by have h1 := o_w.2.2.2.1; omega
            have d_g_x : y7_.heap.size ≠ t_x.ac.lb := by have h1 := o_x.2.2.2.1; omega
            have d_g_g : y7_.heap.size ≠ t_g.ac.lb := by have h1 := o_g.2.2.2.1; omega
            have zx := boxR_new y7_ 41 #[.int .i64 0, .int .i64 0, .int .i64 0, .int .i64 0, .int .i64 0, .int .i64 0, .int .i64 0, .int .i64 0, .int .i64 0, .int .i64 0, .int .i64 0, .int .i64 0, .int .i64 0, .int .i64 0, .int .i64 0, .int .i64 0, .int .i64 0, .int .i64 0, .bool false, .slice none 0 0, .int .i64 0, .int .i64 0]
            have hb := below_setRow ((Below.refl _ y7_).alloc (Nat.le_refl _) (.cells #[.int .i64 0, .int .i64 0, .int .i64 0, .int .i64 0, .int .i64 0, .int .i64 0, .int .i64 0, .int .i64 0, .int .i64 0, .int .i64 0, .int .i64 0, .int .i64 0, .int .i64 0, .int .i64 0, .int .i64 0, .int .i64 0, .int .i64 0, .int .i64 0, .bool false, .slice none 0 0, .int .i64 0, .int .i64 0] 41)) (Nat.le_refl _) #[.int .i64 t_g.id, .int .i64 t_g.si, .int .i64 t_g.sr, .int .i64 t_g.cl, .int .i64 t_g.pt.kd, .int .i64 t_g.pt.wh, .int .i64 t_g.pt.sr, .int .i64 t_g.pt.tr, .int .i64 t_g.pt.pi, .int .i64 t_g.pt.le, .int .i64 t_g.pt.zo, .int .i64 t_g.gd.kd, .int .i64 t_g.gd.nn, .int .i64 t_g.ac.kd, .int .i64 t_g.ac.nn, .int .i64 t_g.ac.pi, .int .i64 t_g.ac.si, .int .i64 t_g.ac.zo, .bool t_g.ac.be, .slice t_g.ac.la t_g.ac.ln t_g.ac.lcap, .int .i64 t_g.un, .int .i64 t_g.le]
            have b_g : BoxR ((y7_.alloc (.cells #[.int .i64 0, .int .i64 0, .int .i64 0, .int .i64 0, .int .i64 0, .int .i64 0, .int .i64 0, .int .i64 0, .int .i64 0, .int .i64 0, .int .i64 0, .int .i64 0, .int .i64 0, .int .i64 0, .int .i64 0, .int .i64 0, .int .i64 0, .int .i64 0, .bool false, .slice none 0 0, .int .i64 0, .int .i64 0] 41)).setRow y7_.heap.size #[.int .i64 t_g.id, .int .i64 t_g.si, .int .i64 t_g.sr, .int .i64 t_g.cl, .int .i64 t_g.pt.kd, .int .i64 t_g.pt.wh, .int .i64 t_g.pt.sr, .int .i64 t_g.pt.tr, .int .i64 t_g.pt.pi, .int .i64 t_g.pt.le, .int .i64 t_g.pt.zo, .int .i64 t_g.gd.kd, .int .i64 t_g.gd.nn, .int .i64 t_g.ac.kd, .int .i64 t_g.ac.nn, .int .i64 t_g.ac.pi, .int .i64 t_g.ac.si, .int .i64 t_g.ac.zo, .bool t_g.ac.be, .slice t_g.ac.la t_g.ac.ln t_g.ac.lcap, .int .i64 t_g.un, .int .i64 t_g.le]) y7_.heap.size 41 #[.int .i64 t_g.id, .int .i64 t_g.si, .int .i64 t_g.sr, .int .i64 t_g.cl, .int .i64 t_g.pt.kd, .int .i64 t_g.pt.wh, .int .i64 t_g.pt.sr, .int .i64 t_g.pt.tr, .int .i64 t_g.pt.pi, .int .i64 t_g.pt.le, .int .i64 t_g.pt.zo, .int .i64 t_g.gd.kd, .int .i64 t_g.gd.nn, .int .i64 t_g.ac.kd, .int .i64 t_g.ac.nn, .int .i64 t_g.ac.pi, .int .i64 t_g.ac.si, .int .i64 t_g.ac.zo, .bool t_g.ac.be, .slice t_g.ac.la t_g.ac.ln t_g.ac.lcap, .int .i64 t_g.un, .int .i64 t_g.le] := setRow_heap _ _ _ _ _ _ zx
            generalize hVx : (y7_.alloc (.cells #[.int .i64 0, .int .i64 0, .int .i64 0, .int .i64 0, .int .i64 0, .int .i64 0, .int .i64 0, .int .i64 0, .int .i64 0, .int .i64 0, .int .i64 0, .int .i64 0, .int .i64 0, .int .i64 0, .int .i64 0, .int .i64 0, .int .i64 0, .int .i64 0, .bool false, .slice none 0 0, .int .i64 0, .int .i64 0] 41)).setRow y7_.heap.size #[.int .i64 t_g.id, .int .i64 t_g.si, .int .i64 t_g.sr, .int .i64 t_g.cl, .int .i64 t_g.pt.kd, .int .i64 t_g.pt.wh, .int .i64 t_g.pt.sr, .int .i64 t_g.pt.tr, .int .i64 t_g.pt.pi, .int .i64 t_g.pt.le, .int .i64 t_g.pt.zo, .int .i64 t_g.gd.kd, .int .i64 t_g.gd.nn, .int .i64 t_g.ac.kd, .int .i64 t_g.ac.nn, .int .i64 t_g.ac.pi, .int .i64 t_g.ac.si, .int .i64 t_g.ac.zo, .bool t_g.ac.be, .slice t_g.ac.la t_g.ac.ln t_g.ac.lcap, .int .i64 t_g.un, .int .i64 t_g.le] = y8_ at hb b_g
            replace o_w := o_w.grew hb
            replace o_x := o_x.grew hb
            replace o_g := o_g.grew hb
            replace b_c0 := b_c0.grew hb
            replace b_w := b_w.grew hb
            replace b_x := b_x.grew hb
            replace hB := below_app hB hb hB.size
            clear hb
            go_wp2_with (first | (refine wpList_store_row rfl 41 (.tmp 8) _ rfl (y7_.heap.size) #[.int .i64 t_g.id, .int .i64 t_g.si, .int .i64 t_g.sr, .int .i64 t_g.cl, .int .i64 t_g.pt.kd, .int .i64 t_g.pt.wh, .int .i64 t_g.pt.sr, .int .i64 t_g.pt.tr, .int .i64 t_g.pt.pi, .int .i64 t_g.pt.le, .int .i64 t_g.pt.zo, .int .i64 t_g.gd.kd, .int .i64 t_g.gd.nn, .int .i64 t_g.ac.kd, .int .i64 t_g.ac.nn, .int .i64 t_g.ac.pi, .int .i64 t_g.ac.si, .int .i64 t_g.ac.zo, .bool t_g.ac.be, .slice t_g.ac.la t_g.ac.ln t_g.ac.lcap, .int .i64 t_g.un, .int .i64 t_g.le] (by rfl) (by rfl) _ _ zx (by kernel_rfl) (by rfl) (by simp [Value.oneCell']) ?_; rw [hVx]) | (refine wpList_load_row rfl 41 _ rfl (y7_.heap.size) (by rfl) _ _ _ _ b_g Try.underlying41 rfl (by kernel_rfl) ?_) | (refine wpList_load_row rfl 41 _ rfl (y3_.heap.size) (by rfl) _ _ _ _ b_w Try.underlying41 rfl (by kernel_rfl) ?_))
            refine (eqEffect_alike t_g t_w (spE p0 a1) _ o_g o_w e_g e_w nsp).mono ?_
            rintro e y9_ ⟨rfl, hb⟩
            clear zx hVx
            as_aux_lemma =>
              replace o_w := o_w.grew hb
              replace o_x := o_x.grew hb
              replace o_g := o_g.grew hb
              replace b_c0 := b_c0.grew hb
              replace b_w := b_w.grew hb
              replace b_x := b_x.grew hb
              replace b_g := b_g.grew hb
              replace hB := below_app hB hb hB.size
              clear hb
              go_wp2_with fail
              refine wp_cutT (fun t : Ef => [(31, (.agg #[.int .i64 t_x.id, .int .i64 t_x.si, .int .i64 t_x.sr, .int .i64 t_x.cl, .int .i64 t_x.pt.kd, .int .i64 t_x.pt.wh, .int .i64 t_x.pt.sr, .int .i64 t_x.pt.tr, .int .i64 t_x.pt.pi, .int .i64 t_x.pt.le, .int .i64 t_x.pt.zo, .int .i64 t_x.gd.kd, .int .i64 t_x.gd.nn, .int .i64 t_x.ac.kd, .int .i64 t_x.ac.nn, .int .i64 t_x.ac.pi, .int .i64 t_x.ac.si, .int .i64 t_x.ac.zo, .bool t_x.ac.be, .slice t_x.ac.la t_x.ac.ln t_x.ac.lcap, .int .i64 t_x.un, .int .i64 t_x.le])), (32, (.agg #[.int .i64 p0.id, .int .i64 p0.si, .int .i64 p0.sr, .int .i64 p0.cl, .int .i64 p0.pt.kd, .int .i64 p0.pt.wh, .int .i64 p0.pt.sr, .int .i64 p0.pt.tr, .int .i64 p0.pt.pi, .int .i64 p0.pt.le, .int .i64 p0.pt.zo, .int .i64 p0.gd.kd, .int .i64 p0.gd.nn, .int .i64 p0.ac.kd, .int .i64 p0.ac.nn, .int .i64 p0.ac.pi, .int .i64 p0.ac.si, .int .i64 p0.ac.zo, .bool p0.ac.be, .slice p0.ac.la p0.ac.ln p0.ac.lcap, .int .i64 p0.un, .int .i64 p0.le])), (33, (.agg #[.int .i64 t.id, .int .i64 t.si, .int .i64 t.sr, .int .i64 t.cl, .int .i64 t.pt.kd, .int .i64 t.pt.wh, .int .i64 t.pt.sr, .int .i64 t.pt.tr, .int .i64 t.pt.pi, .int .i64 t.pt.le, .int .i64 t.pt.zo, .int .i64 t.gd.kd, .int .i64 t.gd.nn, .int .i64 t.ac.kd, .int .i64 t.ac.nn, .int .i64 t.ac.pi, .int .i64 t.ac.si, .int .i64 t.ac.zo, .bool t.ac.be, .slice t.ac.la t.ac.ln t.ac.lcap, .int .i64 t.un, .int .i64 t.le])), (34, .bool true), (35, .bool false)]) (fun _ u => Below y9_.heap.size y9_ u) ?_ ?_
              · have hq0 : Below y9_.heap.size y9_ y9_.drew := (Below.refl _ y9_).drew
                have bx0 := b_x.grew hq0
                have bc0 := b_c0.grew hq0
                refine wp_region_held_drew (S := fun u : World => BoxR u (y5_.heap.size) 41 #[.int .i64 t_x.id, .int .i64 t_x.si, .int .i64 t_x.sr, .int .i64 t_x.cl, .int .i64 t_x.pt.kd, .int .i64 t_x.pt.wh, .int .i64 t_x.pt.sr, .int .i64 t_x.pt.tr, .int .i64 t_x.pt.pi, .int .i64 t_x.pt.le, .int .i64 t_x.pt.zo, .int .i64 t_x.gd.kd, .int .i64 t_x.gd.nn, .int .i64 t_x.ac.kd, .int .i64 t_x.ac.nn, .int .i64 t_x.ac.pi, .int .i64 t_x.ac.si, .int .i64 t_x.ac.zo, .bool t_x.ac.be, .slice t_x.ac.la t_x.ac.ln t_x.ac.lcap, .int .i64 t_x.un, .int .i64 t_x.le] ∧ BoxR u (w.heap.size) 30 #[.int .i64 p0.id, .int .i64 p0.si, .int .i64 p0.sr, .int .i64 p0.cl, .int .i64 p0.pt.kd, .int .i64 p0.pt.wh, .int .i64 p0.pt.sr, .int .i64 p0.pt.tr, .int .i64 p0.pt.pi, .int .i64 p0.pt.le, .int .i64 p0.pt.zo, .int .i64 p0.gd.kd, .int .i64 p0.gd.nn, .int .i64 p0.ac.kd, .int .i64 p0.ac.nn, .int .i64 p0.ac.pi, .int .i64 p0.ac.si, .int .i64 p0.ac.zo, .bool p0.ac.be, .slice p0.ac.la p0.ac.ln p0.ac.lcap, .int .i64 p0.un, .int .i64 p0.le]) (by kernel_rfl) ⟨bx0, bc0⟩ (fun hHeld => ?_)
                refine wpAnyH_take (i := 0) (v := .agg #[.int .i64 t_x.id, .int .i64 t_x.si, .int .i64 t_x.sr, .int .i64 t_x.cl, .int .i64 t_x.pt.kd, .int .i64 t_x.pt.wh, .int .i64 t_x.pt.sr, .int .i64 t_x.pt.tr, .int .i64 t_x.pt.pi, .int .i64 t_x.pt.le, .int .i64 t_x.pt.zo, .int .i64 t_x.gd.kd, .int .i64 t_x.gd.nn, .int .i64 t_x.ac.kd, .int .i64 t_x.ac.nn, .int .i64 t_x.ac.pi, .int .i64 t_x.ac.si, .int .i64 t_x.ac.zo, .bool t_x.ac.be, .slice t_x.ac.la t_x.ac.ln t_x.ac.lcap, .int .i64 t_x.un, .int .i64 t_x.le]) rfl (by kernel_rfl) (by kernel_rfl) (by kernel_rfl) (fun _ _ _ h => h) (yieldsIf_load_mid (by rfl) 41 (.tmp 7) rfl (y5_.heap.size) 0 (by rfl) (#[.int .i64 t_x.id, .int .i64 t_x.si, .int .i64 t_x.sr, .int .i64 t_x.cl, .int .i64 t_x.pt.kd, .int .i64 t_x.pt.wh, .int .i64 t_x.pt.sr, .int .i64 t_x.pt.tr, .int .i64 t_x.pt.pi, .int .i64 t_x.pt.le, .int .i64 t_x.pt.zo, .int .i64 t_x.gd.kd, .int .i64 t_x.gd.nn, .int .i64 t_x.ac.kd, .int .i64 t_x.ac.nn, .int .i64 t_x.ac.pi, .int .i64 t_x.ac.si, .int .i64 t_x.ac.zo, .bool t_x.ac.be, .slice t_x.ac.la t_x.ac.ln t_x.ac.lcap, .int .i64 t_x.un, .int .i64 t_x.le] : Array Value).toList _ (fun u hu => BoxR.range hu.1) Try.underlying41 rfl (by kernel_rfl)) hHeld ?_
                try simp only [Act.put, List.setIfInBounds_toArray, List.set_cons_zero, List.set_cons_succ]
                refine wpAnyH_take (i := 1) (v := .agg #[.int .i64 p0.id, .int .i64 p0.si, .int .i64 p0.sr, .int .i64 p0.cl, .int .i64 p0.pt.kd, .int .i64 p0.pt.wh, .int .i64 p0.pt.sr, .int .i64 p0.pt.tr, .int .i64 p0.pt.pi, .int .i64 p0.pt.le, .int .i64 p0.pt.zo, .int .i64 p0.gd.kd, .int .i64 p0.gd.nn, .int .i64 p0.ac.kd, .int .i64 p0.ac.nn, .int .i64 p0.ac.pi, .int .i64 p0.ac.si, .int .i64 p0.ac.zo, .bool p0.ac.be, .slice p0.ac.la p0.ac.ln p0.ac.lcap, .int .i64 p0.un, .int .i64 p0.le]) rfl (by kernel_rfl) (by kernel_rfl) (by kernel_rfl) (fun _ _ _ h => h) (yieldsIf_load_mid (by rfl) 30 (.tmp 2) rfl (w.heap.size) 0 (by rfl) (#[.int .i64 p0.id, .int .i64 p0.si, .int .i64 p0.sr, .int .i64 p0.cl, .int .i64 p0.pt.kd, .int .i64 p0.pt.wh, .int .i64 p0.pt.sr, .int .i64 p0.pt.tr, .int .i64 p0.pt.pi, .int .i64 p0.pt.le, .int .i64 p0.pt.zo, .int .i64 p0.gd.kd, .int .i64 p0.gd.nn, .int .i64 p0.ac.kd, .int .i64 p0.ac.nn, .int .i64 p0.ac.pi, .int .i64 p0.ac.si, .int .i64 p0.ac.zo, .bool p0.ac.be, .slice p0.ac.la p0.ac.ln p0.ac.lcap, .int .i64 p0.un, .int .i64 p0.le] : Array Value).toList _ (fun u hu => BoxR.range hu.2) Try.underlying30 rfl (by kernel_rfl)) hHeld ?_
                try simp only [Act.put, List.setIfInBounds_toArray, List.set_cons_zero, List.set_cons_succ]
                refine wpAnyH_ready (rs := [2]) (by kernel_rfl) (by simp) ?_
                refine AllReadyH.cons rfl (fun K' hK => ?_) AllReadyH.nil
                go_simp
                go_at_call 10
                refine (toEffect_ans p0 y9_.drew (ef_grew k_c0 (below_app hB hq0 hB.size)) n_c0).mono ?_
                rintro e v1 ⟨t1, rfl, hb1, ot, et⟩
                have hq1 := below_app hq0 hb1 hq0.size
                refine hK.out _ _ ⟨b_x.grew hq1, b_c0.grew hq1⟩ (fun hHeld => ?_)
                clear hK
                try simp only [Act.put, List.setIfInBounds_toArray, List.set_cons_zero, List.set_cons_succ]
                refine wpAnyH_ready (rs := [3]) (by kernel_rfl) (by simp) ?_
                refine AllReadyH.cons rfl (fun K' hK => ?_) AllReadyH.nil
                go_simp
                go_at_call 13
                refine (eqEffect_alike t_x t1 p0 _ (o_x.grew hq1) ot e_x et (by omega)).mono ?_
                rintro e v2 ⟨rfl, hb2⟩
                have hq2 := below_app hq1 hb2 hq1.size
                refine hK.out _ _ ⟨b_x.grew hq2, b_c0.grew hq2⟩ (fun hHeld => ?_)
                clear hK
                try simp only [Act.put, List.setIfInBounds_toArray, List.set_cons_zero, List.set_cons_succ]
                refine wpAnyH_take (i := 4) (oi := ⟨some 35, .unOp .not 4 (.tmp 34), 4, _, _, none⟩) (v := .bool false) rfl (by kernel_rfl) (by kernel_rfl) (by kernel_rfl) (fun _ _ _ h => h) (Or.inl ⟨by rfl, fun u hSu => by go_simp⟩) hHeld ?_
                try simp only [Act.put, List.setIfInBounds_toArray, List.set_cons_zero, List.set_cons_succ]
                refine wpAnyH_done (by kernel_rfl) ?_ _
                exact ⟨t1, rfl, hq2⟩
              rintro t_ y10_ hb
              simp only [puts, List.foldl, Act.put, List.setIfInBounds_toArray, List.set_cons_zero, List.set_cons_succ]
              replace o_w := o_w.grew hb
              replace o_x := o_x.grew hb
              replace o_g := o_g.grew hb
              replace b_c0 := b_c0.grew hb
              replace b_w := b_w.grew hb
              replace b_x := b_x.grew hb
              replace b_g := b_g.grew hb
              replace hB := below_app hB hb hB.size
              clear hb
              as_aux_lemma =>
                go_wp2_with (first | (refine wpList_load_row rfl 41 _ rfl (y5_.heap.size) (by rfl) _ _ _ _ b_x Try.underlying41 rfl (by kernel_rfl) ?_))
                refine (markEffect_any t_x 1 _ (by rw [e_x.ac.ln]; exact nsp) (by omega) (by omega) o_x).mono ?_
                rintro e y11_ ⟨rfl, ho, om_⟩
                as_aux_lemma =>
                  have y_x : ¬ 1 + 7 * (t_x.ac.ln : Int) < 0 := by omega
                  have z_x : decide (1 + 7 * (t_x.ac.ln : Int) < 0) = false := by simp; omega
                  replace o_w : OwnF y11_ _ t_w := ⟨o_w.1, o_w.2.1, o_w.2.2.onlyE ho a_w_x⟩
                  replace o_g : OwnF y11_ _ t_g := ⟨o_g.1, o_g.2.1, o_g.2.2.onlyE ho a_g_x⟩
                  replace b_c0 := b_c0.onlyR ho d_c0_x
                  replace b_w := b_w.onlyR ho d_w_x
                  replace b_x := b_x.onlyR ho d_x_x
                  replace b_g := b_g.onlyR ho d_g_x
                  replace hB := below_only hB f_x hB.size ho
                  clear ho om_ o_x b_x
                  go_upto_region 14 with fail
                  refine wp_region_lit ?_
                  refine wpList_val rfl (.int .i64 (1 + 7 * (t_x.ac.ln : Int))) (by go_simp) ?_
                  simp only [Act.put, List.setIfInBounds_toArray, List.set_cons_zero, List.set_cons_succ]
                  refine wpList_val rfl (.bool false) (by go_simp; first | done | omega | simp [z_x]) ?_
                  simp only [Act.put, List.setIfInBounds_toArray, List.set_cons_zero, List.set_cons_succ]
                  refine wpList_val rfl (.bool false) (by go_simp) ?_
                  simp only [Act.put, List.setIfInBounds_toArray, List.set_cons_zero, List.set_cons_succ]
                  refine BigFrame.wpList_want (by rfl) (fun _ hK => wp_load_row 41 _ rfl (y7_.heap.size) (by rfl) _ _ _ _ b_g Try.underlying41 rfl (by kernel_rfl) (hK _ _ ?_))
                  simp only [Act.put, List.setIfInBounds_toArray, List.set_cons_zero, List.set_cons_succ]
                  refine BigFrame.wpList_want (by rfl) (fun _ hK => wp_load_row 41 _ rfl (y3_.heap.size) (by rfl) _ _ _ _ b_w Try.underlying41 rfl (by kernel_rfl) (hK _ _ ?_))
                  simp only [Act.put, List.setIfInBounds_toArray, List.set_cons_zero, List.set_cons_succ]
                  go_wp2_with fail
                  refine (eqEffect_alike t_g t_w (spE p0 a1) _ o_g o_w e_g e_w nsp).mono ?_
                  rintro e y12_ ⟨rfl, hb⟩
                  as_aux_lemma =>
                    replace o_w := o_w.grew hb
                    replace o_g := o_g.grew hb
                    replace b_c0 := b_c0.grew hb
                    replace b_w := b_w.grew hb
                    replace b_g := b_g.grew hb
                    replace hB := below_app hB hb hB.size
                    clear hb
                    go_wp2_with (first | (refine wpList_load_row rfl 41 _ rfl (y7_.heap.size) (by rfl) _ _ _ _ b_g Try.underlying41 rfl (by kernel_rfl) ?_))
                    refine (markEffect_any t_g 1 _ (by rw [e_g.ac.ln]; exact nsp) (by omega) (by omega) o_g).mono ?_
                    rintro e y13_ ⟨rfl, ho, om_⟩
                    as_aux_lemma =>
                      have y_g : ¬ 1 + 7 * (t_g.ac.ln : Int) < 0 := by omega
                      have z_g : decide (1 + 7 * (t_g.ac.ln : Int) < 0) = false := by simp; omega
                      replace o_w : OwnF y13_ _ t_w := ⟨o_w.1, o_w.2.1, o_w.2.2.onlyE ho a_w_g⟩
                      replace b_c0 := b_c0.onlyR ho d_c0_g
                      replace b_w := b_w.onlyR ho d_w_g
                      replace b_g := b_g.onlyR ho d_g_g
                      replace hB := below_only hB f_g hB.size ho
                      clear ho o_g
                      have o_g := om_
                      clear om_
                      go_wp2_with (first | (refine wpList_load_row rfl 41 _ rfl (y7_.heap.size) (by rfl) _ _ _ _ b_g Try.underlying41 rfl (by kernel_rfl) ?_))
                      refine (heldEffect_any t_g 1 _ (by rw [e_g.ac.ln]; exact nsp) (by omega) (by omega) o_g.rd).mono ?_
                      rintro e y14_ ⟨rfl, hb⟩
                      as_aux_lemma =>
                        replace o_w := o_w.grew hb
                        replace o_g := o_g.grew hb
                        replace b_c0 := b_c0.grew hb
                        replace b_w := b_w.grew hb
                        replace b_g := b_g.grew hb
                        replace hB := below_app hB hb hB.size
                        clear hb
                        go_wp2_with (first | (refine wpList_load_row rfl 30 _ rfl (w.heap.size) (by rfl) _ _ _ _ b_c0 Try.underlying30 rfl (by kernel_rfl) ?_))
                        refine (toEffect_ans p0 _ (ef_grew k_c0 hB) n_c0).mono ?_
                        rintro e y15_ ⟨t_y, rfl, hb, o_y, e_y⟩
                        as_aux_lemma =>
                          have a_w_y : t_w.ac.lb ≠ t_y.ac.lb := by have h1 := o_w.2.2.2.1; have h2 := o_y.2.2.1; omega
                          have a_y_w := a_w_y.symm
                          have a_g_y : t_g.ac.lb ≠ t_y.ac.lb := by have h1 := o_g.2.1; have h2 := o_y.2.2.1; omega
                          have a_y_g := a_g_y.symm
                          have d_c0_y : w.heap.size ≠ t_y.ac.lb := by have h1 := b_c0.lt; have h2 := o_y.2.2.1; omega
                          have d_w_y : y3_.heap.size ≠ t_y.ac.lb := by have h1 := b_w.lt; have h2 := o_y.2.2.1; omega
                          have d_g_y : y7_.heap.size ≠ t_y.ac.lb := by have h1 := b_g.lt; have h2 := o_y.2.2.1; omega
                          have f_y : W.heap.size ≤ t_y.ac.lb := by have := o_y.2.2.1; have := hB.size; omega
                          replace o_w := o_w.grew hb
                          replace o_g := o_g.grew hb
                          replace b_c0 := b_c0.grew hb
                          replace b_w := b_w.grew hb
                          replace b_g := b_g.grew hb
                          replace hB := below_app hB hb hB.size
                          clear hb
                          go_wp2_with fail
                          refine (implSpent_al a1 o_y e_y k_c0 n_c0).mono ?_
                          rintro e y16_ ⟨t_h, rfl, hb, o_h, e_h⟩
                          as_aux_lemma =>
                            have a_w_h : t_w.ac.lb ≠ t_h.ac.lb := by have h1 := o_w.2.2.2.1; have h2 := o_h.2.2.1; omega
                            have a_h_w := a_w_h.symm
                            have a_g_h : t_g.ac.lb ≠ t_h.ac.lb := by have h1 := o_g.2.1; have h2 := o_h.2.2.1; omega
                            have a_h_g := a_g_h.symm
                            have a_y_h : t_y.ac.lb ≠ t_h.ac.lb := by have h1 := o_y.2.2.2.1; have h2 := o_h.2.2.1; omega
                            have a_h_y := a_y_h.symm
                            have d_c0_h : w.heap.size ≠ t_h.ac.lb := by have h1 := b_c0.lt; have h2 := o_h.2.2.1; omega
                            have d_w_h : y3_.heap.size ≠ t_h.ac.lb := by have h1 := b_w.lt; have h2 := o_h.2.2.1; omega
                            have d_g_h : y7_.heap.size ≠ t_h.ac.lb := by have h1 := b_g.lt; have h2 := o_h.2.2.1; omega
                            have f_h : W.heap.size ≤ t_h.ac.lb := by have := o_h.2.2.1; have := hB.size; omega
                            replace o_w := o_w.grew hb
                            replace o_g := o_g.grew hb
                            replace o_y := o_y.grew hb
                            replace b_c0 := b_c0.grew hb
                            replace b_w := b_w.grew hb
                            replace b_g := b_g.grew hb
                            replace hB := below_app hB hb hB.size
                            clear hb
                            clear o_y
                            have d_h_w : y16_.heap.size ≠ t_w.ac.lb := by have h1 := o_w.2.2.2.1; omega
                            have d_h_g : y16_.heap.size ≠ t_g.ac.lb := by have h1 := o_g.2.1; omega
                            have d_h_h : y16_.heap.size ≠ t_h.ac.lb := by have h1 := o_h.2.2.2.1; omega
                            have zx := boxR_new y16_ 41 #[.int .i64 0, .int .i64 0, .int .i64 0, .int .i64 0, .int .i64 0, .int .i64 0, .int .i64 0, .int .i64 0, .int .i64 0, .int .i64 0, .int .i64 0, .int .i64 0, .int .i64 0, .int .i64 0, .int .i64 0, .int .i64 0, .int .i64 0, .int .i64 0, .bool false, .slice none 0 0, .int .i64 0, .int .i64 0]
                            have hb := below_setRow ((Below.refl _ y16_).alloc (Nat.le_refl _) (.cells #[.int .i64 0, .int .i64 0, .int .i64 0, .int .i64 0, .int .i64 0, .int .i64 0, .int .i64 0, .int .i64 0, .int .i64 0, .int .i64 0, .int .i64 0, .int .i64 0, .int .i64 0, .int .i64 0, .int .i64 0, .int .i64 0, .int .i64 0, .int .i64 0, .bool false, .slice none 0 0, .int .i64 0, .int .i64 0] 41)) (Nat.le_refl _) #[.int .i64 t_h.id, .int .i64 t_h.si, .int .i64 t_h.sr, .int .i64 t_h.cl, .int .i64 t_h.pt.kd, .int .i64 t_h.pt.wh, .int .i64 t_h.pt.sr, .int .i64 t_h.pt.tr, .int .i64 t_h.pt.pi, .int .i64 t_h.pt.le, .int .i64 t_h.pt.zo, .int .i64 t_h.gd.kd, .int .i64 t_h.gd.nn, .int .i64 t_h.ac.kd, .int .i64 t_h.ac.nn, .int .i64 t_h.ac.pi, .int .i64 t_h.ac.si, .int .i64 t_h.ac.zo, .bool t_h.ac.be, .slice t_h.ac.la t_h.ac.ln t_h.ac.lcap, .int .i64 t_h.un, .int .i64 t_h.le]
                            have b_h : BoxR ((y16_.alloc (.cells #[.int .i64 0, .int .i64 0, .int .i64 0, .int .i64 0, .int .i64 0, .int .i64 0, .int .i64 0, .int .i64 0, .int .i64 0, .int .i64 0, .int .i64 0, .int .i64 0, .int .i64 0, .int .i64 0, .int .i64 0, .int .i64 0, .int .i64 0, .int .i64 0, .bool false, .slice none 0 0, .int .i64 0, .int .i64 0] 41)).setRow y16_.heap.size #[.int .i64 t_h.id, .int .i64 t_h.si, .int .i64 t_h.sr, .int .i64 t_h.cl, .int .i64 t_h.pt.kd, .int .i64 t_h.pt.wh, .int .i64 t_h.pt.sr, .int .i64 t_h.pt.tr, .int .i64 t_h.pt.pi, .int .i64 t_h.pt.le, .int .i64 t_h.pt.zo, .int .i64 t_h.gd.kd, .int .i64 t_h.gd.nn, .int .i64 t_h.ac.kd, .int .i64 t_h.ac.nn, .int .i64 t_h.ac.pi, .int .i64 t_h.ac.si, .int .i64 t_h.ac.zo, .bool t_h.ac.be, .slice t_h.ac.la t_h.ac.ln t_h.ac.lcap, .int .i64 t_h.un, .int .i64 t_h.le]) y16_.heap.size 41 #[.int .i64 t_h.id, .int .i64 t_h.si, .int .i64 t_h.sr, .int .i64 t_h.cl, .int .i64 t_h.pt.kd, .int .i64 t_h.pt.wh, .int .i64 t_h.pt.sr, .int .i64 t_h.pt.tr, .int .i64 t_h.pt.pi, .int .i64 t_h.pt.le, .int .i64 t_h.pt.zo, .int .i64 t_h.gd.kd, .int .i64 t_h.gd.nn, .int .i64 t_h.ac.kd, .int .i64 t_h.ac.nn, .int .i64 t_h.ac.pi, .int .i64 t_h.ac.si, .int .i64 t_h.ac.zo, .bool t_h.ac.be, .slice t_h.ac.la t_h.ac.ln t_h.ac.lcap, .int .i64 t_h.un, .int .i64 t_h.le] := setRow_heap _ _ _ _ _ _ zx
                            generalize hVx : (y16_.alloc (.cells #[.int .i64 0, .int .i64 0, .int .i64 0, .int .i64 0, .int .i64 0, .int .i64 0, .int .i64 0, .int .i64 0, .int .i64 0, .int .i64 0, .int .i64 0, .int .i64 0, .int .i64 0, .int .i64 0, .int .i64 0, .int .i64 0, .int .i64 0, .int .i64 0, .bool false, .slice none 0 0, .int .i64 0, .int .i64 0] 41)).setRow y16_.heap.size #[.int .i64 t_h.id, .int .i64 t_h.si, .int .i64 t_h.sr, .int .i64 t_h.cl, .int .i64 t_h.pt.kd, .int .i64 t_h.pt.wh, .int .i64 t_h.pt.sr, .int .i64 t_h.pt.tr, .int .i64 t_h.pt.pi, .int .i64 t_h.pt.le, .int .i64 t_h.pt.zo, .int .i64 t_h.gd.kd, .int .i64 t_h.gd.nn, .int .i64 t_h.ac.kd, .int .i64 t_h.ac.nn, .int .i64 t_h.ac.pi, .int .i64 t_h.ac.si, .int .i64 t_h.ac.zo, .bool t_h.ac.be, .slice t_h.ac.la t_h.ac.ln t_h.ac.lcap, .int .i64 t_h.un, .int .i64 t_h.le] = y17_ at hb b_h
                            replace o_w := o_w.grew hb
                            replace o_g := o_g.grew hb
                            replace o_h := o_h.grew hb
                            replace b_c0 := b_c0.grew hb
                            replace b_w := b_w.grew hb
                            replace b_g := b_g.grew hb
                            replace hB := below_app hB hb hB.size
                            clear hb
                            go_wp2_with (first | (refine wpList_store_row rfl 41 (.tmp 12) _ rfl (y16_.heap.size) #[.int .i64 t_h.id, .int .i64 t_h.si, .int .i64 t_h.sr, .int .i64 t_h.cl, .int .i64 t_h.pt.kd, .int .i64 t_h.pt.wh, .int .i64 t_h.pt.sr, .int .i64 t_h.pt.tr, .int .i64 t_h.pt.pi, .int .i64 t_h.pt.le, .int .i64 t_h.pt.zo, .int .i64 t_h.gd.kd, .int .i64 t_h.gd.nn, .int .i64 t_h.ac.kd, .int .i64 t_h.ac.nn, .int .i64 t_h.ac.pi, .int .i64 t_h.ac.si, .int .i64 t_h.ac.zo, .bool t_h.ac.be, .slice t_h.ac.la t_h.ac.ln t_h.ac.lcap, .int .i64 t_h.un, .int .i64 t_h.le] (by rfl) (by rfl) _ _ zx (by kernel_rfl) (by rfl) (by simp [Value.oneCell']) ?_; rw [hVx]) | (refine wpList_load_row rfl 41 _ rfl (y16_.heap.size) (by rfl) _ _ _ _ b_h Try.underlying41 rfl (by kernel_rfl) ?_) | (refine wpList_load_row rfl 41 _ rfl (y3_.heap.size) (by rfl) _ _ _ _ b_w Try.underlying41 rfl (by kernel_rfl) ?_))
                            refine (eqEffect_alike t_h t_w (spE p0 a1) _ o_h o_w e_h e_w nsp).mono ?_
                            rintro e y18_ ⟨rfl, hb⟩
                            clear zx hVx
                            as_aux_lemma =>
                              replace o_w := o_w.grew hb
                              replace o_g := o_g.grew hb
                              replace o_h := o_h.grew hb
                              replace b_c0 := b_c0.grew hb
                              replace b_w := b_w.grew hb
                              replace b_g := b_g.grew hb
                              replace b_h := b_h.grew hb
                              replace hB := below_app hB hb hB.size
                              clear hb
                              go_wp2_with (first | (refine wpList_load_row rfl 41 _ rfl (y7_.heap.size) (by rfl) _ _ _ _ b_g Try.underlying41 rfl (by kernel_rfl) ?_))
                              refine (heldEffect_any t_g 1 _ (by rw [e_g.ac.ln]; exact nsp) (by omega) (by omega) o_g.rd).mono ?_
                              rintro e y19_ ⟨rfl, hb⟩
                              as_aux_lemma =>
                                replace o_w := o_w.grew hb
                                replace o_g := o_g.grew hb
                                replace o_h := o_h.grew hb
                                replace b_c0 := b_c0.grew hb
                                replace b_w := b_w.grew hb
                                replace b_g := b_g.grew hb
                                replace b_h := b_h.grew hb
                                replace hB := below_app hB hb hB.size
                                clear hb
                                go_wp2
                                go_ret
                                exact ⟨rfl, below_app hBw hB hsz⟩

set_option maxRecDepth 100000 in
theorem lifted (os : Os) (started : os.Started) (H : Type) (enc : TypeId × Value → H) :
    ReturnsInHanded {} Try.checked os 4 .any (Rows.fnExactSpentSpec.pre6 enc Try.prog Try.f4 Rows.fnExactSpentRow.domain false) (Rows.fnExactSpentSpec.post enc Try.prog Try.f4 false true false false) := by
  refine returnsInHanded_of_change (C := Try.checked) own started (by kernel_rfl) Try.func4
    (ChangeSpec.witness6 (enc := enc) (C := Try.checked) false ⟨#[], #[.agg #[.int .i64 0, .int .i64 0, .int .i64 0, .int .i64 0, .int .i64 0, .int .i64 0, .int .i64 0, .int .i64 0, .int .i64 0, .int .i64 0, .int .i64 0, .int .i64 0, .int .i64 0, .int .i64 0, .int .i64 0, .int .i64 0, .int .i64 0, .int .i64 0, .bool false, .slice none 0 0, .int .i64 0, .int .i64 0], .int .i64 0], []⟩ 8 (by kernel_rfl) (by kernel_rfl) (by kernel_rfl) (by kernel_rfl)) ?_
  intro W base args ds gs before hval0 hW hcnd _
  have hval : ∀ (j : Nat) t v, Try.f4.params[j]? = some t → args[j]? = some v → Value.okWide Try.prog W .any base t v := hval0
  have hW' := hW
  obtain ⟨p, q, hA0, hV, rfl, hfz, hnd⟩ := hW
  have hA : DataW.TrodAll enc Try.prog W 0 (fun _ => true) true Try.f4.params.toList args.toList ds p := hA0
  rw [Try.params4] at hA hval
  obtain ⟨v0, vs0, d0, ds0, p0', q0, hargs, rfl, rfl, h0, r0⟩ := trodAll_cons hA
  obtain ⟨v1, vs1, d1, ds1, p1', q1, rfl, rfl, rfl, h1, r1⟩ := trodAll_cons r0
  obtain ⟨rfl, rfl, rfl⟩ := trodAll_nil r1
  obtain rfl : args = #[v0, v1] := by cases args; simp_all
  obtain ⟨rfl, rfl⟩ := trodVars_none hV
  have k0 := h0
  have lt0 : ∀ x ∈ p0', x.block < W.heap.size := by obtain ⟨m, hm⟩ := k0; exact DataW.trod_lt m _ _ _ hm
  obtain ⟨p0, rfl, w0⟩ := open_effect (hval 0 30 v0 rfl rfl) h0
  obtain ⟨a1, rfl, rfl, rfl, w1⟩ := open_int Try.underlying3 (hval 1 3 v1 rfl rfl) h1
  clear hA0 hval0
  refine (walk p0 a1 W w0 w1).mono fun e W' ⟨he, bel⟩ => ?_
  subst he
  exact ⟨_, rfl, _, _, _, [], _, [], hW', trodAll_mk1 (shut_bool Try.underlying4 _), (trodAll_cons_mk (Below.trod laidOut (by kernel_rfl) (of_decide_eq_true (by kernel_rfl)) k0 bel lt0) (trodAll_cons_mk (shut_int Try.underlying3 w1) trodAll_mk0)), rfl, bel.frame _, fun h => by cases h⟩

theorem over : Rows.fnExactSpentRow.holds Try.pinned (OpenSpec.ofChange Rows.fnExactSpentSpec) :=
  OpenClaim.holds_of_wide 4 Try.f4 rfl rfl rfl rfl rfl rfl rfl ⟨rfl, rfl, rfl, rfl, rfl⟩ rfl rfl rfl rfl rfl (by kernel_rfl) Try.func4 (by kernel_rfl)
    (of_decide_eq_true (by kernel_rfl)) (by unfold Func.isWrapper; first | (rw [if_pos (by decide +kernel)]; kernel_rfl) | (rw [if_neg (by decide +kernel)]; exact ⟨rfl, rfl⟩))
    (fun os started H enc _ => lifted os started H enc)

theorem proved : Rows.FnExactSpentSaid := over
#print axioms proved
end Go.Proofs.Ytodfdfncdoliiat.fnExactSpent
