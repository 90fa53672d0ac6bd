/-
  What is proved: at every code (every slice of bytes, of whatever length), the law FnInstalls answers true: of a drawn list and effect the program's Install and Drop are the specification's; what was let in is right, stands in its place, is not let in twice, and when it goes again all is as it was. No condition.
-/
import Derived.Test.YtodfdfncdoliiadGreatRows
import Derived.Test.YtodfdfncdoliiadGreatMaA
import Derived.Test.YtodfdfncdoliiadGreatGCur5
import Derived.Test.YtodfdfncdoliiadGreatGEvA3
import Derived.Test.YtodfdfncdoliiadGreatGState13
import Derived.Test.YtodfdfncdoliiadGreatGSeg5
import Derived.Test.YtodfdfncdoliiadGreatGState52
import Derived.Test.YtodfdfncdoliiadGreatGPieceOk3
import Derived.Test.YtodfdfncdoliiadGreatGAcR2
import Derived.Test.YtodfdfncdoliiadGreatGPaA4
import Derived.Test.YtodfdfncdoliiadGreatGEfC3
import Derived.Test.YtodfdfncdoliiadGreatGTaB7
import Derived.Test.YtodfdfncdoliiadGreatAcD
import Derived.Test.YtodfdfncdoliiadGreatGPaB5
import Derived.Test.YtodfdfncdoliiadGreatGStAt3
import Derived.Test.YtodfdfncdoliiadGreatTaE
import Derived.Test.YtodfdfncdoliiadGreatStNew
import Derived.Test.YtodfdfncdoliiadGreatGSpA5
import Derived.Test.YtodfdfncdoliiadGreatTaG
import Derived.Test.YtodfdfncdoliiadGreatGRegCut3
import Derived.Test.YtodfdfncdoliiadGreatGTaH2
import Derived.Test.YtodfdfncdoliiadGreatGTbS4
import Derived.Test.YtodfdfncdoliiadGreatGTbC5
import Derived.Test.YtodfdfncdoliiadGreatPaI
import Derived.Test.YtodfdfncdoliiadGreatGGuC4
import Derived.Test.YtodfdfncdoliiadGreatGuD
import Derived.Test.YtodfdfncdoliiadGreatGuE
import Derived.Test.YtodfdfncdoliiadGreatGStField2
import Derived.Test.YtodfdfncdoliiadGreatGEvC12
import Derived.Test.YtodfdfncdoliiadGreatGEvC32
import Derived.Test.YtodfdfncdoliiadGreatGAcF5
import Derived.Test.YtodfdfncdoliiadGreatEfQ
import Derived.Test.YtodfdfncdoliiadGreatTbE
import Derived.Test.YtodfdfncdoliiadGreatTaD
import Derived.Test.YtodfdfncdoliiadGreatGTaJ4
import Derived.Test.YtodfdfncdoliiadGreatTbM
import Derived.Test.YtodfdfncdoliiadGreatGTbN2
import Derived.Test.YtodfdfncdoliiadGreatGEfK2
import Derived.Test.YtodfdfncdoliiadGreatEfS
import Derived.Test.YtodfdfncdoliiadGreatGTbG4
import Derived.Test.YtodfdfncdoliiadGreatGBytes36
import Derived.Test.YtodfdfncdoliiadGreatDrawP
import Derived.Test.YtodfdfncdoliiadGreatGDrawT12
import Derived.Test.YtodfdfncdoliiadGreatDrawT3
import Derived.Test.YtodfdfncdoliiadGreatGDrawId2
import Derived.Test.YtodfdfncdoliiadGreatGDrawA12
import Derived.Test.YtodfdfncdoliiadGreatDrawA3
import Derived.Test.YtodfdfncdoliiadGreatGCurLaw4
import Derived.Test.YtodfdfncdoliiadGreatGStPut2
import Derived.Test.YtodfdfncdoliiadGreatGDrawT62
import Derived.Test.YtodfdfncdoliiadGreatDrawPa
import Derived.Test.YtodfdfncdoliiadGreatGDrawEf2
import Derived.Test.YtodfdfncdoliiadGreatGDrawTa2
import Derived.Test.YtodfdfncdoliiadGreatGDrawAd3
import Derived.Test.YtodfdfncdoliiadGreatDrawTe
import Derived.WalkKit
import Derived.Deep.RegionHeld
import Derived.Deep.MidRow
import Derived.ProofKit
import Derived.OpenShut
import Derived.ShutString
import Derived.ChangeOld
import Derived.Below
namespace Go.Proofs.YtodfdfncdoliiadGreat.fnInstalls
open Go.ChangeShapes Go.WideShapes Go.ChangeAt Go.RowKit
open Go.ChangeMaps (open_string shut_string)
set_option linter.unusedVariables false

theorem own : ownKnob Tryz.prog.godebug = none := by kernel_rfl
theorem laidOut : laidOutB Tryz.prog = true := by kernel_rfl

/-- WHAT THE WALK IS TOLD OF A SLICE OF INTEGERS THAT CAME IN: it is nil; or it leads to a row of 'cap' cells, the numbers 'zs' (the first 'len' are its elements, the rest its spare room), each fitting its kind. -/
def IsRow (k : IntKind) (w : World) (a : Option Addr) (len cap : Nat) (zs : List Int) : Prop :=
  (a = none ∧ len = 0 ∧ cap = 0 ∧ zs = []) ∨
  ∃ x, a = some x ∧ len ≤ cap ∧ cap ≤ maxLen ∧ zs.length = cap ∧ (∀ i, i < zs.length → w.cell? (x.add i) = some (.int k (zs.getD i 0))) ∧ ∀ n ∈ zs, (Lit.int k n).wf = true

theorem BoxR.rangeE {w : World} {g t : Nat} {x : Ef} (h : BoxR w g t #[.int .i64 x.id, .int .i64 x.si, .int .i64 x.sr, .int .i64 x.cl, .int .i64 x.pt.kd, .int .i64 x.pt.wh, .int .i64 x.pt.sr, .int .i64 x.pt.tr, .int .i64 x.pt.pi, .int .i64 x.pt.le, .int .i64 x.pt.zo, .int .i64 x.gd.kd, .int .i64 x.gd.nn, .int .i64 x.ac.kd, .int .i64 x.ac.nn, .int .i64 x.ac.pi, .int .i64 x.ac.si, .int .i64 x.ac.zo, .bool x.ac.be, .slice x.ac.la x.ac.ln x.ac.lcap, .int .i64 x.un, .int .i64 x.le]) : w.rangeAt g 0 (efC x) := fun j v hv => by
  have hc := cell_of_row w g (0 + j) _ t (0, 0) h
  rw [hc, Nat.zero_add]
  show (efC x).toArray[j]? = some v
  rw [List.getElem?_toArray]
  exact hv
set_option linter.unusedSimpArgs false in
set_option maxRecDepth 100000 in
set_option maxHeartbeats 40000000 in
theorem walk (a0 : Option Addr) (len0 cap0 : Nat) (z0 : List Int) (w : World) (w0 : IsRow .u8 w a0 len0 cap0 z0) :
    Calls Tryz.prog 5 #[.slice a0 len0 cap0] w fun e w' => e = .returned (.bool true) ∧ Below w.heap.size w w' := by
  have hc : Code w a0 len0 w.heap.size := code_of_row w0
  clear w0
  by_cases hbig : (1048576 : Int) < (len0 : Int)
  · go_enter Tryz.func5, Tryz.ntmps5
    go_wp2_with (go_at_call 6; refine (big_any _ _ _ _).mono ?_; rintro e w' ⟨rfl, rfl⟩)
    go_ret
    exact ⟨rfl, Below.refl _ _⟩
  · go_enter Tryz.func5, Tryz.ntmps5
    try simp only [List.append_eq, List.cons_append, List.nil_append]
    go_wp2_with fail
    refine (big_any _ _ _ _).mono ?_
    rintro e w' ⟨rfl, rfl⟩
    have hB := Below.refl w'.heap.size w'
    go_wp2_with fail
    refine (drawInstall_any _ _ _ _ ((hc.below hB).mono hB.size (Nat.le_refl _))).mono ?_
    rintro e u1 ⟨t, x, tw, tn, tl, xw, xl, rfl, hb⟩
    replace hB := below_app hB hb hB.size
    clear hb
    have xl2 : x.ac.ln ≤ 1048577 := by omega
    have zx := boxR_new u1 32 #[.int .i64 0, .int .i64 0, .int .i64 0, .int .i64 0, .int .i64 0, .int .i64 0, .int .i64 0, .int .i64 0, .int .i64 0, .int .i64 0, .int .i64 0, .int .i64 0, .int .i64 0, .int .i64 0, .int .i64 0, .int .i64 0, .int .i64 0, .int .i64 0, .bool false, .slice none 0 0, .int .i64 0, .int .i64 0]
    have hb := below_setRow ((Below.refl _ u1).alloc (Nat.le_refl _) (.cells #[.int .i64 0, .int .i64 0, .int .i64 0, .int .i64 0, .int .i64 0, .int .i64 0, .int .i64 0, .int .i64 0, .int .i64 0, .int .i64 0, .int .i64 0, .int .i64 0, .int .i64 0, .int .i64 0, .int .i64 0, .int .i64 0, .int .i64 0, .int .i64 0, .bool false, .slice none 0 0, .int .i64 0, .int .i64 0] 32)) (Nat.le_refl _) #[.int .i64 x.id, .int .i64 x.si, .int .i64 x.sr, .int .i64 x.cl, .int .i64 x.pt.kd, .int .i64 x.pt.wh, .int .i64 x.pt.sr, .int .i64 x.pt.tr, .int .i64 x.pt.pi, .int .i64 x.pt.le, .int .i64 x.pt.zo, .int .i64 x.gd.kd, .int .i64 x.gd.nn, .int .i64 x.ac.kd, .int .i64 x.ac.nn, .int .i64 x.ac.pi, .int .i64 x.ac.si, .int .i64 x.ac.zo, .bool x.ac.be, .slice x.ac.la x.ac.ln x.ac.lcap, .int .i64 x.un, .int .i64 x.le]
    have b_x : BoxR ((u1.alloc (.cells #[.int .i64 0, .int .i64 0, .int .i64 0, .int .i64 0, .int .i64 0, .int .i64 0, .int .i64 0, .int .i64 0, .int .i64 0, .int .i64 0, .int .i64 0, .int .i64 0, .int .i64 0, .int .i64 0, .int .i64 0, .int .i64 0, .int .i64 0, .int .i64 0, .bool false, .slice none 0 0, .int .i64 0, .int .i64 0] 32)).setRow u1.heap.size #[.int .i64 x.id, .int .i64 x.si, .int .i64 x.sr, .int .i64 x.cl, .int .i64 x.pt.kd, .int .i64 x.pt.wh, .int .i64 x.pt.sr, .int .i64 x.pt.tr, .int .i64 x.pt.pi, .int .i64 x.pt.le, .int .i64 x.pt.zo, .int .i64 x.gd.kd, .int .i64 x.gd.nn, .int .i64 x.ac.kd, .int .i64 x.ac.nn, .int .i64 x.ac.pi, .int .i64 x.ac.si, .int .i64 x.ac.zo, .bool x.ac.be, .slice x.ac.la x.ac.ln x.ac.lcap, .int .i64 x.un, .int .i64 x.le]) u1.heap.size 32 #[.int .i64 x.id, .int .i64 x.si, .int .i64 x.sr, .int .i64 x.cl, .int .i64 x.pt.kd, .int .i64 x.pt.wh, .int .i64 x.pt.sr, .int .i64 x.pt.tr, .int .i64 x.pt.pi, .int .i64 x.pt.le, .int .i64 x.pt.zo, .int .i64 x.gd.kd, .int .i64 x.gd.nn, .int .i64 x.ac.kd, .int .i64 x.ac.nn, .int .i64 x.ac.pi, .int .i64 x.ac.si, .int .i64 x.ac.zo, .bool x.ac.be, .slice x.ac.la x.ac.ln x.ac.lcap, .int .i64 x.un, .int .i64 x.le] := setRow_heap _ _ _ _ _ _ zx
    generalize hV : (u1.alloc (.cells #[.int .i64 0, .int .i64 0, .int .i64 0, .int .i64 0, .int .i64 0, .int .i64 0, .int .i64 0, .int .i64 0, .int .i64 0, .int .i64 0, .int .i64 0, .int .i64 0, .int .i64 0, .int .i64 0, .int .i64 0, .int .i64 0, .int .i64 0, .int .i64 0, .bool false, .slice none 0 0, .int .i64 0, .int .i64 0] 32)).setRow u1.heap.size #[.int .i64 x.id, .int .i64 x.si, .int .i64 x.sr, .int .i64 x.cl, .int .i64 x.pt.kd, .int .i64 x.pt.wh, .int .i64 x.pt.sr, .int .i64 x.pt.tr, .int .i64 x.pt.pi, .int .i64 x.pt.le, .int .i64 x.pt.zo, .int .i64 x.gd.kd, .int .i64 x.gd.nn, .int .i64 x.ac.kd, .int .i64 x.ac.nn, .int .i64 x.ac.pi, .int .i64 x.ac.si, .int .i64 x.ac.zo, .bool x.ac.be, .slice x.ac.la x.ac.ln x.ac.lcap, .int .i64 x.un, .int .i64 x.le] = u2 at hb b_x
    replace tw := tw.grew hb
    replace xw := efw_grew xw hb
    replace hB := below_app hB hb hB.size
    clear hb
    go_upto_region 4 with (refine wpList_store_row rfl 32 (.tmp 4) _ rfl (u1.heap.size) #[.int .i64 x.id, .int .i64 x.si, .int .i64 x.sr, .int .i64 x.cl, .int .i64 x.pt.kd, .int .i64 x.pt.wh, .int .i64 x.pt.sr, .int .i64 x.pt.tr, .int .i64 x.pt.pi, .int .i64 x.pt.le, .int .i64 x.pt.zo, .int .i64 x.gd.kd, .int .i64 x.gd.nn, .int .i64 x.ac.kd, .int .i64 x.ac.nn, .int .i64 x.ac.pi, .int .i64 x.ac.si, .int .i64 x.ac.zo, .bool x.ac.be, .slice x.ac.la x.ac.ln x.ac.lcap, .int .i64 x.un, .int .i64 x.le] (by rfl) (by rfl) _ _ zx (by kernel_rfl) (by rfl) (by simp [Value.oneCell']) ?_; rw [hV])
    clear zx hV
    generalize u1.heap.size = gx at b_x ⊢
    as_aux_lemma =>
      go_wp2_with (first | (refine wpList_load_row rfl 32 _ rfl (gx) (by rfl) _ _ _ _ b_x Tryz.underlying32 rfl (by kernel_rfl) ?_))
      refine (implInstall_any t x _ tw (by omega) xw xl2).mono ?_
      rintro e u3 ⟨q1, rfl, hb, a1⟩
      replace tw := tw.grew hb
      replace xw := efw_grew xw hb
      replace b_x := b_x.grew hb
      replace hB := below_app hB hb hB.size
      clear hb
      as_aux_lemma =>
        go_wp2_with (first | (refine wpList_load_row rfl 32 _ rfl (gx) (by rfl) _ _ _ _ b_x Tryz.underlying32 rfl (by kernel_rfl) ?_))
        refine (specInstall_any t x _ tw (by omega) xw xl2).mono ?_
        rintro e u4 ⟨q2, rfl, hb, a2⟩
        replace tw := tw.grew hb
        replace xw := efw_grew xw hb
        replace b_x := b_x.grew hb
        replace a1 := a1.grew hb
        replace hB := below_app hB hb hB.size
        clear hb
        as_aux_lemma =>
          go_wp2_with fail
          refine (drawDrop_any _ _ _ _ ((hc.below hB).mono hB.size (Nat.le_refl _))).mono ?_
          rintro e u5 ⟨m, id, mw, mn, ml, id0, id1, rfl, hb⟩
          replace tw := tw.grew hb
          replace xw := efw_grew xw hb
          replace b_x := b_x.grew hb
          replace a1 := a1.grew hb
          replace a2 := a2.grew hb
          replace hB := below_app hB hb hB.size
          clear hb
          go_wp2_with fail
          refine (implDrop_any m id _ mw (by omega)).mono ?_
          rintro e u6 ⟨q3, rfl, hb, a3⟩
          replace tw := tw.grew hb
          replace xw := efw_grew xw hb
          replace b_x := b_x.grew hb
          replace a1 := a1.grew hb
          replace a2 := a2.grew hb
          replace mw := mw.grew hb
          replace hB := below_app hB hb hB.size
          clear hb
          go_wp2_with fail
          refine (specDrop_any m id _ mw (by omega)).mono ?_
          rintro e u7 ⟨q4, rfl, hb, a4⟩
          replace tw := tw.grew hb
          replace xw := efw_grew xw hb
          replace b_x := b_x.grew hb
          replace a1 := a1.grew hb
          replace a2 := a2.grew hb
          replace mw := mw.grew hb
          replace a3 := a3.grew hb
          replace hB := below_app hB hb hB.size
          clear hb
          as_aux_lemma =>
            have E1 : Hid (smTb q1.n q2.n q1.f q2.f = true) := like_ans a1 a2
            have E3 : Hid (smTb q3.n q4.n q3.f q4.f = true) := like_ans a3 a4
            go_wp2_with fail
            refine (implSameTable_any q1 q2 _ (a1.okW (inF_ok tw.2.2.2 ⟨xw, xl2⟩)) (a2.okW (inF_ok tw.2.2.2 ⟨xw, xl2⟩))).mono ?_
            rintro e u8 ⟨rfl, hb⟩
            replace tw := tw.grew hb
            replace xw := efw_grew xw hb
            replace b_x := b_x.grew hb
            replace a1 := a1.grew hb
            replace a2 := a2.grew hb
            replace mw := mw.grew hb
            replace a3 := a3.grew hb
            replace a4 := a4.grew hb
            replace hB := below_app hB hb hB.size
            clear hb
            rw [E1.out]
            go_wp2_with fail
            refine (implSameTable_any q3 q4 _ (a3.okW (drG_ok mw.2.2.2)) (a4.okW (drG_ok mw.2.2.2))).mono ?_
            rintro e u9 ⟨rfl, hb⟩
            replace tw := tw.grew hb
            replace xw := efw_grew xw hb
            replace b_x := b_x.grew hb
            replace a1 := a1.grew hb
            replace a2 := a2.grew hb
            replace mw := mw.grew hb
            replace a3 := a3.grew hb
            replace a4 := a4.grew hb
            replace hB := below_app hB hb hB.size
            clear hb
            rw [E3.out]
            as_aux_lemma =>
              go_wp2_with fail
              refine (implEffectAt_any m id _ mw).mono ?_
              rintro e u10 ⟨rfl, hb⟩
              replace tw := tw.grew hb
              replace xw := efw_grew xw hb
              replace b_x := b_x.grew hb
              replace a1 := a1.grew hb
              replace a2 := a2.grew hb
              replace mw := mw.grew hb
              replace a3 := a3.grew hb
              replace a4 := a4.grew hb
              replace hB := below_app hB hb hB.size
              clear hb
              clear E1 E3 a2 a3 a4 mw
              generalize eaN m.f id m.n = E
              cases hok : inOk t.n t.f x
              case false =>
                have E6 : Hid (smTb q1.n t.n q1.f t.f = true) := by
                  have hN : inN t.n t.f x = t.n := by unfold inN; rw [hok]; simp
                  have hF : inF t.n t.f x = t.f := by unfold inF; rw [hok]; simp
                  show _ = _
                  rw [a1.2.1, hN]
                  exact smTb_like (fun i hi => by have := a1.2.2 i (by omega); rw [hF] at this; exact this) (fun i hi => AlikeF.rfl' _)
                go_wp2_with fail
                refine (implSameTable_any q1 t _ (a1.okW (inF_ok tw.2.2.2 ⟨xw, xl2⟩)) tw).mono ?_
                rintro e u11 ⟨rfl, hb⟩
                replace tw := tw.grew hb
                replace xw := efw_grew xw hb
                replace b_x := b_x.grew hb
                replace a1 := a1.grew hb
                replace hB := below_app hB hb hB.size
                clear hb
                rw [E6.out]
                go_wp2
                go_ret
                exact ⟨rfl, hB⟩
              case true =>
                obtain ⟨K, k1, k2, k3, k4, k5, k6, k7, k8⟩ := in_ans hok a1
                have w1 := a1.okW (inF_ok tw.2.2.2 ⟨xw, xl2⟩)
                have o1 := a1.1
                have n1 : q1.n ≤ 1048576 := by omega
                have n1b : K < q1.n := by omega
                replace k2 : Hid (q1.n = t.n + 1) := k2
                replace k3 : Hid (okTb q1.n q1.f = true) := k3
                replace k4 : Hid (eaN q1.f x.id q1.n = (K : Int)) := k4
                replace k5 : Hid (smEf (q1.f K) x = true) := k5
                replace k6 : Hid (inOk q1.n q1.f x = false) := k6
                replace k7 : Hid (drN q1.f x.id q1.n = t.n) := k7
                clear a1
                have bc := b_x.cell 0
                simp at bc
                go_wp2_with fail
                refine (implDrop_any q1 x.id _ w1 (by omega)).mono ?_
                rintro e u12 ⟨q5, rfl, hb, a5⟩
                clear bc
                replace tw := tw.grew hb
                replace xw := efw_grew xw hb
                replace b_x := b_x.grew hb
                replace w1 := w1.grew hb
                replace o1 := o1.grew hb
                replace hB := below_app hB hb hB.size
                clear hb
                rw [k4.out]
                have E5 : Hid (smTb q5.n t.n q5.f t.f = true) := by show _ = _; rw [a5.2.1, k7.out]; exact smTb_like (fun i hi => (a5.2.2 i (by rw [k7.out]; exact hi)).trans (k8 i hi)) (fun i hi => AlikeF.rfl' _)
                have w5 := a5.okW (drG_ok w1.2.2.2)
                clear a5
                as_aux_lemma =>
                  go_wp2_with (first | (refine wpList_load_row rfl 32 _ rfl (gx) (by rfl) _ _ _ _ b_x Tryz.underlying32 rfl (by kernel_rfl) ?_))
                  refine (implInstall_any q1 x _ w1 n1 xw xl2).mono ?_
                  rintro e u13 ⟨q6, rfl, hb, a6⟩
                  replace tw := tw.grew hb
                  replace xw := efw_grew xw hb
                  replace b_x := b_x.grew hb
                  replace w1 := w1.grew hb
                  replace o1 := o1.grew hb
                  replace w5 := w5.grew hb
                  replace hB := below_app hB hb hB.size
                  clear hb
                  rw [k6.out]
                  clear a6
                  as_aux_lemma =>
                    have h3 := w1.2.2.1
                    obtain ⟨o2, hp, h4⟩ : ∃ o2, q1.p = some ⟨q1.b, o2, none⟩ ∧ ∀ i, i < q1.n → ∀ j v, (efC (q1.f i))[j]? = some v → u13.cell? ⟨q1.b, o2 + i * 22 + j, none⟩ = some v := h3.resolve_left (by omega)
                    have ra := RdE.rangeD h4 n1b
                    have yw := (w1.2.2.2 K n1b).1
                    have yl := (w1.2.2.2 K n1b).2
                    have y1 : (0 : Int) ≤ (K : Int) := by omega
                    have y2 : (K : Int) < (q1.n : Int) := by omega
                    have y3 : Hid ((q1.n : Int) = (t.n : Int) + 1) := by have := k2.out; show _ = _; omega
                    have y4 : (t.n : Int) + 1 ≤ 9 := by omega
                    have E9 : Hid (q1.f K = q1.f K) := rfl
                    obtain ⟨y, hy⟩ : ∃ y, Hid (q1.f K = y) := ⟨_, (rfl : q1.f K = q1.f K)⟩
                    rw [hy.out] at ra yw yl
                    have k5' : Hid (smEf y x = true) := by have := k5.out; rw [hy.out] at this; exact this
                    have bc := b_x.cell 0
                    simp at bc
                    have rx := BoxR.rangeE (x := x) b_x
                    clear h3 h4 E9 k5 hy k1 k8
                    replace hp : Hid (q1.p = some ⟨q1.b, o2, none⟩) := hp
                    go_wp2_with fail
                    have hq : Below u13.heap.size u13 u13.drew := (Below.refl _ u13).drew
                    refine wp_region_held_drew (S := fun u : World => Below u13.heap.size u13 u) (by kernel_rfl) hq (fun hHeld => ?_)
                    refine wpAnyH_take (i := 0) (oi := ⟨some 101, _, _, _, _, _⟩) (v := .slice q1.p q1.n q1.cap) rfl (by kernel_rfl) (by kernel_rfl) (by kernel_rfl) (fun _ _ _ h => h) (Or.inl ⟨by kernel_rfl, fun u hSu => by clear hSu; go_simp⟩) hHeld ?_
                    try simp only [Act.put, List.setIfInBounds_toArray, List.set_cons_zero, List.set_cons_succ]
                    refine wpAnyH_ready (rs := [1]) (by kernel_rfl) (by simp) ?_
                    refine AllReadyH.cons rfl (fun K' hK => ?_) AllReadyH.nil
                    go_simp
                    go_at_call 31
                    refine (implTableOk_any q1 _ (w1.grew hq)).mono ?_
                    rintro e v1 ⟨rfl, hb⟩
                    have hq' := below_app hq hb hq.size
                    clear hq hb
                    have hq := hq'
                    clear hq'
                    refine hK.out _ _ hq (fun hHeld => ?_)
                    clear hK
                    try simp only [Act.put, List.setIfInBounds_toArray, List.set_cons_zero, List.set_cons_succ]
                    rw [k3.out]
                    refine wpAnyH_take (i := 2) (oi := ⟨some 103, _, _, _, _, _⟩) (v := .bool true) rfl (by kernel_rfl) (by kernel_rfl) (by kernel_rfl) (fun _ _ _ h => h) (Or.inl ⟨by kernel_rfl, fun u hSu => by clear hSu; go_simp⟩) hHeld ?_
                    try simp only [Act.put, List.setIfInBounds_toArray, List.set_cons_zero, List.set_cons_succ]
                    refine wpAnyH_take (i := 3) (oi := ⟨some 104, _, _, _, _, _⟩) (v := .slice q1.p q1.n q1.cap) rfl (by kernel_rfl) (by kernel_rfl) (by kernel_rfl) (fun _ _ _ h => h) (Or.inl ⟨by kernel_rfl, fun u hSu => by clear hSu; go_simp⟩) hHeld ?_
                    try simp only [Act.put, List.setIfInBounds_toArray, List.set_cons_zero, List.set_cons_succ]
                    refine wpAnyH_take (i := 4) (oi := ⟨some 105, _, _, _, _, _⟩) (v := .int .i64 q1.n) rfl (by kernel_rfl) (by kernel_rfl) (by kernel_rfl) (fun _ _ _ h => h) (Or.inl ⟨by kernel_rfl, fun u hSu => by clear hSu; go_simp⟩) hHeld ?_
                    try simp only [Act.put, List.setIfInBounds_toArray, List.set_cons_zero, List.set_cons_succ]
                    refine wpAnyH_take (i := 5) (oi := ⟨some 106, _, _, _, _, _⟩) (v := .slice t.p t.n t.cap) rfl (by kernel_rfl) (by kernel_rfl) (by kernel_rfl) (fun _ _ _ h => h) (Or.inl ⟨by kernel_rfl, fun u hSu => by clear hSu; go_simp⟩) hHeld ?_
                    try simp only [Act.put, List.setIfInBounds_toArray, List.set_cons_zero, List.set_cons_succ]
                    refine wpAnyH_take (i := 6) (oi := ⟨some 107, _, _, _, _, _⟩) (v := .int .i64 t.n) rfl (by kernel_rfl) (by kernel_rfl) (by kernel_rfl) (fun _ _ _ h => h) (Or.inl ⟨by kernel_rfl, fun u hSu => by clear hSu; go_simp⟩) hHeld ?_
                    try simp only [Act.put, List.setIfInBounds_toArray, List.set_cons_zero, List.set_cons_succ]
                    refine wpAnyH_take (i := 7) (oi := ⟨some 108, _, _, _, _, _⟩) (v := .int .i64 ((t.n : Int) + 1)) rfl (by kernel_rfl) (by kernel_rfl) (by kernel_rfl) (fun _ _ _ h => h) (Or.inl ⟨by kernel_rfl, fun u hSu => by clear hSu; go_simp; first | done | go_num | (rw [IntKind.wrap_i64]; omega) | (congr 1; rw [IntKind.wrap_i64]; omega)⟩) hHeld ?_
                    try simp only [Act.put, List.setIfInBounds_toArray, List.set_cons_zero, List.set_cons_succ]
                    refine wpAnyH_take (i := 8) (oi := ⟨some 109, _, _, _, _, _⟩) (v := .bool true) rfl (by kernel_rfl) (by kernel_rfl) (by kernel_rfl) (fun _ _ _ h => h) (Or.inl ⟨by kernel_rfl, fun u hSu => by clear hSu; go_simp; first | done | (simp [y3.out]; done) | (have := y3.out; simp; omega)⟩) hHeld ?_
                    try simp only [Act.put, List.setIfInBounds_toArray, List.set_cons_zero, List.set_cons_succ]
                    refine wpAnyH_take (i := 9) (oi := ⟨some 110, _, _, _, _, _⟩) (v := .bool true) rfl (by kernel_rfl) (by kernel_rfl) (by kernel_rfl) (fun _ _ _ h => h) (Or.inl ⟨by kernel_rfl, fun u hSu => by clear hSu; go_simp⟩) hHeld ?_
                    try simp only [Act.put, List.setIfInBounds_toArray, List.set_cons_zero, List.set_cons_succ]
                    refine wpAnyH_take (i := 10) (oi := ⟨some 111, _, _, _, _, _⟩) (v := .bool true) rfl (by kernel_rfl) (by kernel_rfl) (by kernel_rfl) (fun _ _ _ h => h) (Or.inl ⟨by kernel_rfl, fun u hSu => by clear hSu; go_simp⟩) hHeld ?_
                    try simp only [Act.put, List.setIfInBounds_toArray, List.set_cons_zero, List.set_cons_succ]
                    refine wpAnyH_take (i := 11) (oi := ⟨some 112, _, _, _, _, _⟩) (v := .slice q1.p q1.n q1.cap) rfl (by kernel_rfl) (by kernel_rfl) (by kernel_rfl) (fun _ _ _ h => h) (Or.inl ⟨by kernel_rfl, fun u hSu => by clear hSu; go_simp⟩) hHeld ?_
                    try simp only [Act.put, List.setIfInBounds_toArray, List.set_cons_zero, List.set_cons_succ]
                    refine wpAnyH_take (i := 12) (oi := ⟨some 113, _, _, _, _, _⟩) (v := .slice q1.p q1.n q1.cap) rfl (by kernel_rfl) (by kernel_rfl) (by kernel_rfl) (fun _ _ _ h => h) (Or.inl ⟨by kernel_rfl, fun u hSu => by clear hSu; go_simp⟩) hHeld ?_
                    try simp only [Act.put, List.setIfInBounds_toArray, List.set_cons_zero, List.set_cons_succ]
                    refine wpAnyH_take (i := 13) (oi := ⟨some 114, _, _, _, _, _⟩) (v := .pointer (some ⟨gx, 0, none⟩)) rfl (by kernel_rfl) (by kernel_rfl) (by kernel_rfl) (fun _ _ _ h => h) (Or.inl ⟨by kernel_rfl, fun u hSu => by clear hSu; go_simp⟩) hHeld ?_
                    try simp only [Act.put, List.setIfInBounds_toArray, List.set_cons_zero, List.set_cons_succ]
                    refine wpAnyH_take (i := 14) (oi := ⟨some 115, _, _, _, _, _⟩) (v := .int .i64 x.id) rfl (by kernel_rfl) (by kernel_rfl) (by kernel_rfl) (fun _ _ _ h => h) (Or.inl ⟨by kernel_rfl, fun u hSu => by have hcu := cell_below bc hSu; clear hSu; go_simp⟩) hHeld ?_
                    try simp only [Act.put, List.setIfInBounds_toArray, List.set_cons_zero, List.set_cons_succ]
                    refine wpAnyH_take (i := 18) (oi := ⟨some 119, _, _, _, _, _⟩) (v := .agg #[.int .i64 x.id, .int .i64 x.si, .int .i64 x.sr, .int .i64 x.cl, .int .i64 x.pt.kd, .int .i64 x.pt.wh, .int .i64 x.pt.sr, .int .i64 x.pt.tr, .int .i64 x.pt.pi, .int .i64 x.pt.le, .int .i64 x.pt.zo, .int .i64 x.gd.kd, .int .i64 x.gd.nn, .int .i64 x.ac.kd, .int .i64 x.ac.nn, .int .i64 x.ac.pi, .int .i64 x.ac.si, .int .i64 x.ac.zo, .bool x.ac.be, .slice x.ac.la x.ac.ln x.ac.lcap, .int .i64 x.un, .int .i64 x.le]) rfl (by kernel_rfl) (by kernel_rfl) (by kernel_rfl) (fun _ _ _ h => h) (yieldsIf_load_mid (by kernel_rfl) 32 (.tmp 4) rfl (gx) (0) (by rfl) [.int .i64 x.id, .int .i64 x.si, .int .i64 x.sr, .int .i64 x.cl, .int .i64 x.pt.kd, .int .i64 x.pt.wh, .int .i64 x.pt.sr, .int .i64 x.pt.tr, .int .i64 x.pt.pi, .int .i64 x.pt.le, .int .i64 x.pt.zo, .int .i64 x.gd.kd, .int .i64 x.gd.nn, .int .i64 x.ac.kd, .int .i64 x.ac.nn, .int .i64 x.ac.pi, .int .i64 x.ac.si, .int .i64 x.ac.zo, .bool x.ac.be, .slice x.ac.la x.ac.ln x.ac.lcap, .int .i64 x.un, .int .i64 x.le] _ (fun u hu => rangeAt_below rx hu) Tryz.underlying32 rfl (by kernel_rfl)) hHeld ?_
                    try simp only [Act.put, List.setIfInBounds_toArray, List.set_cons_zero, List.set_cons_succ]
                    refine wpAnyH_ready (rs := [15]) (by kernel_rfl) (by simp) ?_
                    refine AllReadyH.cons rfl (fun K' hK => ?_) AllReadyH.nil
                    go_simp
                    go_at_call 37
                    refine (implEffectAt_any q1 x.id _ (w1.grew hq)).mono ?_
                    rintro e v15 ⟨rfl, hb⟩
                    have hq' := below_app hq hb hq.size
                    clear hq hb
                    have hq := hq'
                    clear hq'
                    refine hK.out _ _ hq (fun hHeld => ?_)
                    clear hK
                    try simp only [Act.put, List.setIfInBounds_toArray, List.set_cons_zero, List.set_cons_succ]
                    rw [k4.out]
                    refine wpAnyH_take (i := 16) (oi := ⟨some 117, _, _, _, _, _⟩) (v := .pointer (some ⟨q1.b, o2 + K * 22, none⟩)) rfl (by kernel_rfl) (by kernel_rfl) (by kernel_rfl) (fun _ _ _ h => h) (Or.inl ⟨by kernel_rfl, fun u hSu => by clear hSu; go_simp; first | done | (rw [hp.out]; go_simp)⟩) hHeld ?_
                    try simp only [Act.put, List.setIfInBounds_toArray, List.set_cons_zero, List.set_cons_succ]
                    refine wpAnyH_take (i := 17) (oi := ⟨some 118, _, _, _, _, _⟩) (v := .agg #[.int .i64 y.id, .int .i64 y.si, .int .i64 y.sr, .int .i64 y.cl, .int .i64 y.pt.kd, .int .i64 y.pt.wh, .int .i64 y.pt.sr, .int .i64 y.pt.tr, .int .i64 y.pt.pi, .int .i64 y.pt.le, .int .i64 y.pt.zo, .int .i64 y.gd.kd, .int .i64 y.gd.nn, .int .i64 y.ac.kd, .int .i64 y.ac.nn, .int .i64 y.ac.pi, .int .i64 y.ac.si, .int .i64 y.ac.zo, .bool y.ac.be, .slice y.ac.la y.ac.ln y.ac.lcap, .int .i64 y.un, .int .i64 y.le]) rfl (by kernel_rfl) (by kernel_rfl) (by kernel_rfl) (fun _ _ _ h => h) (yieldsIf_load_mid (by kernel_rfl) 32 (.tmp 117) rfl (q1.b) (o2 + K * 22) (by rfl) [.int .i64 y.id, .int .i64 y.si, .int .i64 y.sr, .int .i64 y.cl, .int .i64 y.pt.kd, .int .i64 y.pt.wh, .int .i64 y.pt.sr, .int .i64 y.pt.tr, .int .i64 y.pt.pi, .int .i64 y.pt.le, .int .i64 y.pt.zo, .int .i64 y.gd.kd, .int .i64 y.gd.nn, .int .i64 y.ac.kd, .int .i64 y.ac.nn, .int .i64 y.ac.pi, .int .i64 y.ac.si, .int .i64 y.ac.zo, .bool y.ac.be, .slice y.ac.la y.ac.ln y.ac.lcap, .int .i64 y.un, .int .i64 y.le] _ (fun u hu => rangeAt_below ra hu) Tryz.underlying32 rfl (by kernel_rfl)) hHeld ?_
                    try simp only [Act.put, List.setIfInBounds_toArray, List.set_cons_zero, List.set_cons_succ]
                    refine wpAnyH_ready (rs := [19]) (by kernel_rfl) (by simp) ?_
                    refine AllReadyH.cons rfl (fun K' hK => ?_) AllReadyH.nil
                    go_simp
                    go_at_call 16
                    refine (implSameEffect_any y x _ (efw_grew yw hq) (efw_grew xw hq) yl).mono ?_
                    rintro e v19 ⟨rfl, hb⟩
                    have hq' := below_app hq hb hq.size
                    clear hq hb
                    have hq := hq'
                    clear hq'
                    refine hK.out _ _ hq (fun hHeld => ?_)
                    clear hK
                    try simp only [Act.put, List.setIfInBounds_toArray, List.set_cons_zero, List.set_cons_succ]
                    rw [k5'.out]
                    refine wpAnyH_take (i := 20) (oi := ⟨some 121, _, _, _, _, _⟩) (v := .bool true) rfl (by kernel_rfl) (by kernel_rfl) (by kernel_rfl) (fun _ _ _ h => h) (Or.inl ⟨by kernel_rfl, fun u hSu => by clear hSu; go_simp⟩) hHeld ?_
                    try simp only [Act.put, List.setIfInBounds_toArray, List.set_cons_zero, List.set_cons_succ]
                    refine wpAnyH_take (i := 21) (oi := ⟨some 122, _, _, _, _, _⟩) (v := .bool true) rfl (by kernel_rfl) (by kernel_rfl) (by kernel_rfl) (fun _ _ _ h => h) (Or.inl ⟨by kernel_rfl, fun u hSu => by clear hSu; go_simp⟩) hHeld ?_
                    try simp only [Act.put, List.setIfInBounds_toArray, List.set_cons_zero, List.set_cons_succ]
                    refine wpAnyH_take (i := 22) (oi := ⟨some 123, _, _, _, _, _⟩) (v := .bool true) rfl (by kernel_rfl) (by kernel_rfl) (by kernel_rfl) (fun _ _ _ h => h) (Or.inl ⟨by kernel_rfl, fun u hSu => by clear hSu; go_simp; first | done | (simp; omega)⟩) hHeld ?_
                    try simp only [Act.put, List.setIfInBounds_toArray, List.set_cons_zero, List.set_cons_succ]
                    refine wpAnyH_take (i := 23) (oi := ⟨some 124, _, _, _, _, _⟩) (v := .bool true) rfl (by kernel_rfl) (by kernel_rfl) (by kernel_rfl) (fun _ _ _ h => h) (Or.inl ⟨by kernel_rfl, fun u hSu => by clear hSu; go_simp⟩) hHeld ?_
                    try simp only [Act.put, List.setIfInBounds_toArray, List.set_cons_zero, List.set_cons_succ]
                    refine wpAnyH_take (i := 24) (oi := ⟨some 125, _, _, _, _, _⟩) (v := .bool true) rfl (by kernel_rfl) (by kernel_rfl) (by kernel_rfl) (fun _ _ _ h => h) (Or.inl ⟨by kernel_rfl, fun u hSu => by clear hSu; go_simp⟩) hHeld ?_
                    try simp only [Act.put, List.setIfInBounds_toArray, List.set_cons_zero, List.set_cons_succ]
                    refine wpAnyH_take (i := 25) (oi := ⟨some 126, _, _, _, _, _⟩) (v := .slice q5.p q5.n q5.cap) rfl (by kernel_rfl) (by kernel_rfl) (by kernel_rfl) (fun _ _ _ h => h) (Or.inl ⟨by kernel_rfl, fun u hSu => by clear hSu; go_simp⟩) hHeld ?_
                    try simp only [Act.put, List.setIfInBounds_toArray, List.set_cons_zero, List.set_cons_succ]
                    refine wpAnyH_take (i := 26) (oi := ⟨some 127, _, _, _, _, _⟩) (v := .slice t.p t.n t.cap) rfl (by kernel_rfl) (by kernel_rfl) (by kernel_rfl) (fun _ _ _ h => h) (Or.inl ⟨by kernel_rfl, fun u hSu => by clear hSu; go_simp⟩) hHeld ?_
                    try simp only [Act.put, List.setIfInBounds_toArray, List.set_cons_zero, List.set_cons_succ]
                    refine wpAnyH_ready (rs := [27]) (by kernel_rfl) (by simp) ?_
                    refine AllReadyH.cons rfl (fun K' hK => ?_) AllReadyH.nil
                    go_simp
                    go_at_call 33
                    refine (implSameTable_any q5 t _ (w5.grew hq) (tw.grew hq)).mono ?_
                    rintro e v27 ⟨rfl, hb⟩
                    have hq' := below_app hq hb hq.size
                    clear hq hb
                    have hq := hq'
                    clear hq'
                    refine hK.out _ _ hq (fun hHeld => ?_)
                    clear hK
                    try simp only [Act.put, List.setIfInBounds_toArray, List.set_cons_zero, List.set_cons_succ]
                    rw [E5.out]
                    refine wpAnyH_take (i := 28) (oi := ⟨some 129, _, _, _, _, _⟩) (v := .bool true) rfl (by kernel_rfl) (by kernel_rfl) (by kernel_rfl) (fun _ _ _ h => h) (Or.inl ⟨by kernel_rfl, fun u hSu => by clear hSu; go_simp⟩) hHeld ?_
                    try simp only [Act.put, List.setIfInBounds_toArray, List.set_cons_zero, List.set_cons_succ]
                    refine wpAnyH_take (i := 29) (oi := ⟨some 130, _, _, _, _, _⟩) (v := .bool true) rfl (by kernel_rfl) (by kernel_rfl) (by kernel_rfl) (fun _ _ _ h => h) (Or.inl ⟨by kernel_rfl, fun u hSu => by clear hSu; go_simp⟩) hHeld ?_
                    try simp only [Act.put, List.setIfInBounds_toArray, List.set_cons_zero, List.set_cons_succ]
                    refine wpAnyH_take (i := 30) (oi := ⟨some 131, _, _, _, _, _⟩) (v := .bool false) rfl (by kernel_rfl) (by kernel_rfl) (by kernel_rfl) (fun _ _ _ h => h) (Or.inl ⟨by kernel_rfl, fun u hSu => by clear hSu; go_simp⟩) hHeld ?_
                    try simp only [Act.put, List.setIfInBounds_toArray, List.set_cons_zero, List.set_cons_succ]
                    refine wpAnyH_take (i := 31) (oi := ⟨some 132, _, _, _, _, _⟩) (v := .bool true) rfl (by kernel_rfl) (by kernel_rfl) (by kernel_rfl) (fun _ _ _ h => h) (Or.inl ⟨by kernel_rfl, fun u hSu => by clear hSu; go_simp⟩) hHeld ?_
                    try simp only [Act.put, List.setIfInBounds_toArray, List.set_cons_zero, List.set_cons_succ]
                    refine wpAnyH_take (i := 32) (oi := ⟨some 133, _, _, _, _, _⟩) (v := .bool true) rfl (by kernel_rfl) (by kernel_rfl) (by kernel_rfl) (fun _ _ _ h => h) (Or.inl ⟨by kernel_rfl, fun u hSu => by clear hSu; go_simp⟩) hHeld ?_
                    try simp only [Act.put, List.setIfInBounds_toArray, List.set_cons_zero, List.set_cons_succ]
                    refine wpAnyH_take (i := 33) (oi := ⟨some 2, _, _, _, _, _⟩) (v := .bool true) rfl (by kernel_rfl) (by kernel_rfl) (by kernel_rfl) (fun _ _ _ h => h) (Or.inl ⟨by kernel_rfl, fun u hSu => by clear hSu; go_simp⟩) hHeld ?_
                    try simp only [Act.put, List.setIfInBounds_toArray, List.set_cons_zero, List.set_cons_succ]
                    refine wpAnyH_done (by kernel_rfl) ?_ _
                    clear hHeld
                    go_wp2
                    go_ret
                    exact ⟨rfl, below_app hB hq hB.size⟩

set_option maxRecDepth 100000 in
theorem lifted (os : Os) (started : os.Started) (H : Type) (enc : TypeId × Value → H) :
    ReturnsInHanded {} Tryz.checked os 5 .any (Rows.fnInstallsSpec.pre6 enc Tryz.prog Tryz.f5 Rows.fnInstallsRow.domain false) (Rows.fnInstallsSpec.post enc Tryz.prog Tryz.f5 false true false false) := by
  refine returnsInHanded_of_change (C := Tryz.checked) own started (by kernel_rfl) Tryz.func5
    (ChangeSpec.witness6 (enc := enc) (C := Tryz.checked) false ⟨#[], #[.slice none 0 0], []⟩ 8 (by kernel_rfl) (by kernel_rfl) (by kernel_rfl) (by kernel_rfl)) ?_
  intro W base args ds gs before hval0 hW hcnd _
  have hval : ∀ (j : Nat) t v, Tryz.f5.params[j]? = some t → args[j]? = some v → Value.okWide Tryz.prog W .any base t v := hval0
  have hW' := hW
  obtain ⟨p, q, hA0, hV, rfl, hfz, hnd⟩ := hW
  have hA : DataW.TrodAll enc Tryz.prog W 0 (fun _ => true) true Tryz.f5.params.toList args.toList ds p := hA0
  rw [Tryz.params5] at hA hval
  obtain ⟨v0, vs0, d0, ds0, p0, q0, hargs, rfl, rfl, h0, r0⟩ := trodAll_cons hA
  obtain ⟨rfl, rfl, rfl⟩ := trodAll_nil r0
  obtain rfl : args = #[v0] := by cases args; simp_all
  obtain ⟨rfl, rfl⟩ := trodVars_none hV
  obtain ⟨a0, len0, cap0, rfl⟩ := okWide_slice Tryz.underlying22 (hval 0 22 v0 rfl rfl)
  have k0 := h0
  have lt0 : ∀ x ∈ p0, x.block < W.heap.size := by obtain ⟨m, hm⟩ := k0; exact DataW.trod_lt m _ _ _ hm
  obtain ⟨z0, w0⟩ : ∃ zs, IsRow .u8 W a0 len0 cap0 zs := by
    obtain ⟨fuel, hf⟩ := h0
    rcases open_ints Tryz.underlying22 Tryz.underlying5 (by kernel_rfl) hf with ⟨hcs, _⟩ | ⟨x, l, c, zs, hcs, _, hl, hm, hz, _, hcell, hwz⟩
    · simp [Value.cells] at hcs
      obtain ⟨rfl, rfl, rfl⟩ := hcs
      exact ⟨[], .inl ⟨rfl, rfl, rfl, rfl⟩⟩
    · simp [Value.cells] at hcs
      obtain ⟨rfl, rfl, rfl⟩ := hcs
      exact ⟨zs, .inr ⟨_, rfl, hl, hm, by simpa using hz, hcell, hwz⟩⟩
  clear hA0 hval0
  refine (walk a0 len0 cap0 z0 W w0).mono fun e W' ⟨he, bel⟩ => ?_
  subst he
  exact ⟨_, rfl, _, _, _, [], _, [], hW', trodAll_mk1 (shut_bool Tryz.underlying4 _), (trodAll_cons_mk (Below.trod laidOut (by kernel_rfl) (of_decide_eq_true (by kernel_rfl)) k0 bel lt0) trodAll_mk0), rfl, bel.frame _, fun h => by cases h⟩

theorem over : Rows.fnInstallsRow.holds Tryz.pinned (OpenSpec.ofChange Rows.fnInstallsSpec) :=
  OpenClaim.holds_of_wide 5 Tryz.f5 rfl rfl rfl rfl rfl rfl rfl ⟨rfl, rfl, rfl, rfl, rfl⟩ rfl rfl rfl rfl rfl (by kernel_rfl) Tryz.func5 (by kernel_rfl)
    (of_decide_eq_true (by kernel_rfl)) (by unfold Func.isWrapper; first | (rw [if_pos (by decide +kernel)]; kernel_rfl) | (rw [if_neg (by decide +kernel)]; exact ⟨rfl, rfl⟩))
    (fun os started H enc _ => lifted os started H enc)

theorem proved : Rows.FnInstallsSaid := over
#print axioms proved
end Go.Proofs.YtodfdfncdoliiadGreat.fnInstalls
