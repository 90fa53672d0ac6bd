/-
  What is proved: at every code (every slice of bytes, of whatever length), the law FnTables answers true: of drawn lists and effects the program's TableOk, SameTable, Expire and Update are the specification's; what Expire leaves lives, is as right as it was, and is left by Expire again; what Update puts in stands there. No condition.
-/
import Derived.Test.YtodfdfncdoliiadGreatRows
import Derived.Test.YtodfdfncdoliiadGreatMaA
import Derived.Test.YtodfdfncdoliiadGreatGCur5
import Derived.Test.YtodfdfncdoliiadGreatGEvA3
import Derived.Test.YtodfdfncdoliiadGreatGState13
import Derived.Test.YtodfdfncdoliiadGreatGSeg5
import Derived.Test.YtodfdfncdoliiadGreatGState52
import Derived.Test.YtodfdfncdoliiadGreatGPieceOk3
import Derived.Test.YtodfdfncdoliiadGreatGAcR2
import Derived.Test.YtodfdfncdoliiadGreatGPaA4
import Derived.Test.YtodfdfncdoliiadGreatGEfC3
import Derived.Test.YtodfdfncdoliiadGreatGTaB7
import Derived.Test.YtodfdfncdoliiadGreatAcD
import Derived.Test.YtodfdfncdoliiadGreatGPaB5
import Derived.Test.YtodfdfncdoliiadGreatGStAt3
import Derived.Test.YtodfdfncdoliiadGreatTaE
import Derived.Test.YtodfdfncdoliiadGreatStNew
import Derived.Test.YtodfdfncdoliiadGreatGSpA5
import Derived.Test.YtodfdfncdoliiadGreatTaG
import Derived.Test.YtodfdfncdoliiadGreatGRegCut3
import Derived.Test.YtodfdfncdoliiadGreatGTaH2
import Derived.Test.YtodfdfncdoliiadGreatGTbS4
import Derived.Test.YtodfdfncdoliiadGreatGTbC5
import Derived.Test.YtodfdfncdoliiadGreatPaI
import Derived.Test.YtodfdfncdoliiadGreatGGuC4
import Derived.Test.YtodfdfncdoliiadGreatGuD
import Derived.Test.YtodfdfncdoliiadGreatGuE
import Derived.Test.YtodfdfncdoliiadGreatGStField2
import Derived.Test.YtodfdfncdoliiadGreatGEvC12
import Derived.Test.YtodfdfncdoliiadGreatGEvC32
import Derived.Test.YtodfdfncdoliiadGreatGAcF5
import Derived.Test.YtodfdfncdoliiadGreatEfQ
import Derived.Test.YtodfdfncdoliiadGreatTbE
import Derived.Test.YtodfdfncdoliiadGreatTaD
import Derived.Test.YtodfdfncdoliiadGreatGTaJ4
import Derived.Test.YtodfdfncdoliiadGreatTbM
import Derived.Test.YtodfdfncdoliiadGreatGTbN2
import Derived.Test.YtodfdfncdoliiadGreatGEfK2
import Derived.Test.YtodfdfncdoliiadGreatEfS
import Derived.Test.YtodfdfncdoliiadGreatGTbG4
import Derived.Test.YtodfdfncdoliiadGreatGBytes36
import Derived.Test.YtodfdfncdoliiadGreatDrawP
import Derived.Test.YtodfdfncdoliiadGreatGDrawT12
import Derived.Test.YtodfdfncdoliiadGreatDrawT3
import Derived.Test.YtodfdfncdoliiadGreatGDrawId2
import Derived.Test.YtodfdfncdoliiadGreatGDrawA12
import Derived.Test.YtodfdfncdoliiadGreatDrawA3
import Derived.Test.YtodfdfncdoliiadGreatGCurLaw4
import Derived.Test.YtodfdfncdoliiadGreatGStPut2
import Derived.Test.YtodfdfncdoliiadGreatGDrawT62
import Derived.Test.YtodfdfncdoliiadGreatDrawPa
import Derived.Test.YtodfdfncdoliiadGreatGDrawEf2
import Derived.Test.YtodfdfncdoliiadGreatGDrawTa2
import Derived.Test.YtodfdfncdoliiadGreatGDrawAd3
import Derived.Test.YtodfdfncdoliiadGreatDrawTe
import Derived.WalkKit
import Derived.Deep.RegionHeld
import Derived.Deep.MidRow
import Derived.ProofKit
import Derived.OpenShut
import Derived.ShutString
import Derived.ChangeOld
import Derived.Below
namespace Go.Proofs.YtodfdfncdoliiadGreat.fnTables
open Go.ChangeShapes Go.WideShapes Go.ChangeAt Go.RowKit
open Go.ChangeMaps (open_string shut_string)
set_option linter.unusedVariables false

theorem own : ownKnob Tryz.prog.godebug = none := by kernel_rfl
theorem laidOut : laidOutB Tryz.prog = true := by kernel_rfl

/-- WHAT THE WALK IS TOLD OF A SLICE OF INTEGERS THAT CAME IN: it is nil; or it leads to a row of 'cap' cells, the numbers 'zs' (the first 'len' are its elements, the rest its spare room), each fitting its kind. -/
def IsRow (k : IntKind) (w : World) (a : Option Addr) (len cap : Nat) (zs : List Int) : Prop :=
  (a = none ∧ len = 0 ∧ cap = 0 ∧ zs = []) ∨
  ∃ x, a = some x ∧ len ≤ cap ∧ cap ≤ maxLen ∧ zs.length = cap ∧ (∀ i, i < zs.length → w.cell? (x.add i) = some (.int k (zs.getD i 0))) ∧ ∀ n ∈ zs, (Lit.int k n).wf = true

theorem wpList_load_rowT {P : Program} {ops : Array Oper} {rest : List Oper} {o : Oper} {a : Act} {w : World} {Q : Exit → Act → World → Prop} (hw : Region.wanted o (yielded ops a.tmps) = true) (ty : TypeId) (x : Operand) (ho : o.op = .load ty x)
    (g : Nat) (hx : a.eval x = .pointer (some ⟨g, 0, none⟩)) (t : TypeId) (cs : Array Value) (fr : Nat × Nat) (d : TypeDesc) (hg : w.heap[g]? = some (.cells cs t fr))
    (hu : P.underlying ty = some d) (hd : (match d with | .struct _ | .array _ _ => true | _ => false) = true) (hi : (P.info? ty).map (·.size) = some cs.size)
    (h : wpList P ops Q rest (a.put o.dst (.agg cs)) w) : wpList P ops Q (o :: rest) a w :=
  wpList_step fun _ hK => by rw [if_pos hw]; exact wp_load_row ty x ho g hx t cs fr d hg hu hd hi (hK _ _ h)
theorem BoxR.rangeE {w : World} {g t : Nat} {x : Ef} (h : BoxR w g t #[.int .i64 x.id, .int .i64 x.si, .int .i64 x.sr, .int .i64 x.cl, .int .i64 x.pt.kd, .int .i64 x.pt.wh, .int .i64 x.pt.sr, .int .i64 x.pt.tr, .int .i64 x.pt.pi, .int .i64 x.pt.le, .int .i64 x.pt.zo, .int .i64 x.gd.kd, .int .i64 x.gd.nn, .int .i64 x.ac.kd, .int .i64 x.ac.nn, .int .i64 x.ac.pi, .int .i64 x.ac.si, .int .i64 x.ac.zo, .bool x.ac.be, .slice x.ac.la x.ac.ln x.ac.lcap, .int .i64 x.un, .int .i64 x.le]) : w.rangeAt g 0 (efC x) := fun j v hv => by
  have hc := cell_of_row w g (0 + j) _ t (0, 0) h
  rw [hc, Nat.zero_add]
  show (efC x).toArray[j]? = some v
  rw [List.getElem?_toArray]
  exact hv
theorem lvE_like {a b : Ef} {c : Int} (h : AlikeF a b) : lvE a c = lvE b c := by
  unfold lvE
  rw [h.un, h.le]
set_option linter.unusedSimpArgs false in
set_option maxRecDepth 100000 in
set_option maxHeartbeats 40000000 in
theorem walk (a0 : Option Addr) (len0 cap0 : Nat) (z0 : List Int) (w : World) (w0 : IsRow .u8 w a0 len0 cap0 z0) :
    Calls Tryz.prog 4 #[.slice a0 len0 cap0] w fun e w' => e = .returned (.bool true) ∧ Below w.heap.size w w' := by
  have hc : Code w a0 len0 w.heap.size := code_of_row w0
  clear w0
  by_cases hbig : (1048576 : Int) < (len0 : Int)
  · go_enter Tryz.func4, Tryz.ntmps4
    go_wp2_with (go_at_call 6; refine (big_any _ _ _ _).mono ?_; rintro e w' ⟨rfl, rfl⟩)
    go_ret
    exact ⟨rfl, Below.refl _ _⟩
  · go_enter Tryz.func4, Tryz.ntmps4
    try simp only [List.append_eq, List.cons_append, List.nil_append]
    go_wp2_with fail
    refine (big_any _ _ _ _).mono ?_
    rintro e w' ⟨rfl, rfl⟩
    have hB := Below.refl w'.heap.size w'
    go_wp2_with fail
    refine (drawTableOk_any _ _ _ _ ((hc.below hB).mono hB.size (Nat.le_refl _))).mono ?_
    rintro e u1 ⟨t, tw, tn, tl, rfl, hb⟩
    replace hB := below_app hB hb hB.size
    clear hb
    go_wp2_with fail
    refine (drawSameTable_any _ _ _ _ ((hc.below hB).mono hB.size (Nat.le_refl _))).mono ?_
    rintro e u2 ⟨p, q, ⟨pw, pn, pl⟩, ⟨qw, qn, ql⟩, rfl, hb⟩
    replace tw := tw.grew hb
    replace hB := below_app hB hb hB.size
    clear hb
    as_aux_lemma =>
      go_wp2_with fail
      refine (drawExpire_any _ _ _ _ ((hc.below hB).mono hB.size (Nat.le_refl _))).mono ?_
      rintro e u3 ⟨m, c, mw, mn, ml, rfl, hb⟩
      replace tw := tw.grew hb
      replace pw := pw.grew hb
      replace qw := qw.grew hb
      replace hB := below_app hB hb hB.size
      clear hb
      go_wp2_with fail
      refine (implExpire_any m c _ mw (by omega)).mono ?_
      rintro e u4 ⟨⟨xp, xn, xc, xb, xf⟩, rfl, hb, ax⟩
      replace tw := tw.grew hb
      replace pw := pw.grew hb
      replace qw := qw.grew hb
      replace mw := mw.grew hb
      replace hB := below_app hB hb hB.size
      clear hb
      as_aux_lemma =>
        go_wp2_with fail
        refine (drawUpdate_any _ _ _ _ ((hc.below hB).mono hB.size (Nat.le_refl _))).mono ?_
        rintro e u5 ⟨u, v, uw, un, ul, vw, vl, rfl, hb⟩
        replace tw := tw.grew hb
        replace pw := pw.grew hb
        replace qw := qw.grew hb
        replace mw := mw.grew hb
        replace ax := ax.grew hb
        replace hB := below_app hB hb hB.size
        clear hb
        have vl2 : v.ac.ln ≤ 1048577 := by omega
        have zx := boxR_new u5 32 #[.int .i64 0, .int .i64 0, .int .i64 0, .int .i64 0, .int .i64 0, .int .i64 0, .int .i64 0, .int .i64 0, .int .i64 0, .int .i64 0, .int .i64 0, .int .i64 0, .int .i64 0, .int .i64 0, .int .i64 0, .int .i64 0, .int .i64 0, .int .i64 0, .bool false, .slice none 0 0, .int .i64 0, .int .i64 0]
        have hb := below_setRow ((Below.refl _ u5).alloc (Nat.le_refl _) (.cells #[.int .i64 0, .int .i64 0, .int .i64 0, .int .i64 0, .int .i64 0, .int .i64 0, .int .i64 0, .int .i64 0, .int .i64 0, .int .i64 0, .int .i64 0, .int .i64 0, .int .i64 0, .int .i64 0, .int .i64 0, .int .i64 0, .int .i64 0, .int .i64 0, .bool false, .slice none 0 0, .int .i64 0, .int .i64 0] 32)) (Nat.le_refl _) #[.int .i64 v.id, .int .i64 v.si, .int .i64 v.sr, .int .i64 v.cl, .int .i64 v.pt.kd, .int .i64 v.pt.wh, .int .i64 v.pt.sr, .int .i64 v.pt.tr, .int .i64 v.pt.pi, .int .i64 v.pt.le, .int .i64 v.pt.zo, .int .i64 v.gd.kd, .int .i64 v.gd.nn, .int .i64 v.ac.kd, .int .i64 v.ac.nn, .int .i64 v.ac.pi, .int .i64 v.ac.si, .int .i64 v.ac.zo, .bool v.ac.be, .slice v.ac.la v.ac.ln v.ac.lcap, .int .i64 v.un, .int .i64 v.le]
        have b_v : BoxR ((u5.alloc (.cells #[.int .i64 0, .int .i64 0, .int .i64 0, .int .i64 0, .int .i64 0, .int .i64 0, .int .i64 0, .int .i64 0, .int .i64 0, .int .i64 0, .int .i64 0, .int .i64 0, .int .i64 0, .int .i64 0, .int .i64 0, .int .i64 0, .int .i64 0, .int .i64 0, .bool false, .slice none 0 0, .int .i64 0, .int .i64 0] 32)).setRow u5.heap.size #[.int .i64 v.id, .int .i64 v.si, .int .i64 v.sr, .int .i64 v.cl, .int .i64 v.pt.kd, .int .i64 v.pt.wh, .int .i64 v.pt.sr, .int .i64 v.pt.tr, .int .i64 v.pt.pi, .int .i64 v.pt.le, .int .i64 v.pt.zo, .int .i64 v.gd.kd, .int .i64 v.gd.nn, .int .i64 v.ac.kd, .int .i64 v.ac.nn, .int .i64 v.ac.pi, .int .i64 v.ac.si, .int .i64 v.ac.zo, .bool v.ac.be, .slice v.ac.la v.ac.ln v.ac.lcap, .int .i64 v.un, .int .i64 v.le]) u5.heap.size 32 #[.int .i64 v.id, .int .i64 v.si, .int .i64 v.sr, .int .i64 v.cl, .int .i64 v.pt.kd, .int .i64 v.pt.wh, .int .i64 v.pt.sr, .int .i64 v.pt.tr, .int .i64 v.pt.pi, .int .i64 v.pt.le, .int .i64 v.pt.zo, .int .i64 v.gd.kd, .int .i64 v.gd.nn, .int .i64 v.ac.kd, .int .i64 v.ac.nn, .int .i64 v.ac.pi, .int .i64 v.ac.si, .int .i64 v.ac.zo, .bool v.ac.be, .slice v.ac.la v.ac.ln v.ac.lcap, .int .i64 v.un, .int .i64 v.le] := setRow_heap _ _ _ _ _ _ zx
        generalize hV : (u5.alloc (.cells #[.int .i64 0, .int .i64 0, .int .i64 0, .int .i64 0, .int .i64 0, .int .i64 0, .int .i64 0, .int .i64 0, .int .i64 0, .int .i64 0, .int .i64 0, .int .i64 0, .int .i64 0, .int .i64 0, .int .i64 0, .int .i64 0, .int .i64 0, .int .i64 0, .bool false, .slice none 0 0, .int .i64 0, .int .i64 0] 32)).setRow u5.heap.size #[.int .i64 v.id, .int .i64 v.si, .int .i64 v.sr, .int .i64 v.cl, .int .i64 v.pt.kd, .int .i64 v.pt.wh, .int .i64 v.pt.sr, .int .i64 v.pt.tr, .int .i64 v.pt.pi, .int .i64 v.pt.le, .int .i64 v.pt.zo, .int .i64 v.gd.kd, .int .i64 v.gd.nn, .int .i64 v.ac.kd, .int .i64 v.ac.nn, .int .i64 v.ac.pi, .int .i64 v.ac.si, .int .i64 v.ac.zo, .bool v.ac.be, .slice v.ac.la v.ac.ln v.ac.lcap, .int .i64 v.un, .int .i64 v.le] = u6 at hb b_v
        go_upto_region 8 with (refine wpList_store_row rfl 32 (.tmp 10) _ rfl (u5.heap.size) #[.int .i64 v.id, .int .i64 v.si, .int .i64 v.sr, .int .i64 v.cl, .int .i64 v.pt.kd, .int .i64 v.pt.wh, .int .i64 v.pt.sr, .int .i64 v.pt.tr, .int .i64 v.pt.pi, .int .i64 v.pt.le, .int .i64 v.pt.zo, .int .i64 v.gd.kd, .int .i64 v.gd.nn, .int .i64 v.ac.kd, .int .i64 v.ac.nn, .int .i64 v.ac.pi, .int .i64 v.ac.si, .int .i64 v.ac.zo, .bool v.ac.be, .slice v.ac.la v.ac.ln v.ac.lcap, .int .i64 v.un, .int .i64 v.le] (by rfl) (by rfl) _ _ zx (by kernel_rfl) (by rfl) (by simp [Value.oneCell']) ?_; rw [hV])
        clear zx hV
        generalize u5.heap.size = gx at b_v ⊢
        replace tw := tw.grew hb
        replace pw := pw.grew hb
        replace qw := qw.grew hb
        replace mw := mw.grew hb
        replace ax := ax.grew hb
        replace uw := uw.grew hb
        replace vw := efw_grew vw hb
        replace hB := below_app hB hb hB.size
        clear hb
        as_aux_lemma =>
          go_wp2_with (first | (refine wpList_load_row rfl 32 _ rfl (gx) (by rfl) _ _ _ _ b_v Tryz.underlying32 rfl (by kernel_rfl) ?_))
          refine (implUpdate_any u v _ uw (by omega) vw vl2).mono ?_
          rintro e u7 ⟨y, rfl, hb, ay⟩
          replace tw := tw.grew hb
          replace pw := pw.grew hb
          replace qw := qw.grew hb
          replace mw := mw.grew hb
          replace ax := ax.grew hb
          replace uw := uw.grew hb
          replace vw := efw_grew vw hb
          replace b_v := b_v.grew hb
          replace hB := below_app hB hb hB.size
          clear hb
          as_aux_lemma =>
            have xw : (⟨xp, xn, xc, xb, xf⟩ : Tb).okW u7 := ax.okW (fun i hi => mw.2.2.2 _ (exL_lt m.f c m.n _ (by rw [List.getD_eq_getElem?_getD, List.getElem?_eq_getElem hi]; exact List.getElem_mem hi)))
            have yw : y.okW u7 := ay.okW (fun i hi => by unfold upF; split <;> first | exact ⟨vw, vl2⟩ | exact uw.2.2.2 i hi)
            have xn1 : xn ≤ m.n := by have := ax.2.1; have := exL_len m.f c m.n; dsimp only at *; omega
            have yn1 : Hid (y.n = u.n) := ay.2.1
            have xlv : Hid (∀ i, i < xn → lvE (xf i) c = true) := fun i hi => by
              have h1 := ax.2.1
              dsimp only at h1
              have h2 := ax.2.2 i (by omega)
              dsimp only at h2
              rw [lvE_like h2]
              exact exF_live m.f c m.n i (by omega)
            have xok : Hid (okTb m.n m.f = true → okTb xn xf = true) := fun h => by
              have h1 := ax.2.1
              dsimp only at h1
              rw [h1]
              rw [okTb_alike ax.2.2]
              exact ex_ok h
            have ysm : Hid (∀ K : Nat, eaN u.f v.id u.n = (K : Int) → smEf (y.f K) v = true) := fun K h => by
              have hK : K < u.n := by
                rcases eaN_cases u.f v.id u.n with ⟨h1, _⟩ | ⟨k, hk, h1, _, _⟩
                · rw [h1] at h; omega
                · rw [h1] at h; omega
              have h1 := ay.2.2 K hK
              rw [up_at h] at h1
              rw [alike_smEf h1 (AlikeF.rfl' v)]
              exact smEf_self v
            as_aux_lemma =>
              skip
              go_wp2_with fail
              refine (implTableOk_any t _ tw).mono ?_
              rintro e u8 ⟨rfl, hb⟩
              replace tw := tw.grew hb
              replace pw := pw.grew hb
              replace qw := qw.grew hb
              replace mw := mw.grew hb
              replace ax := ax.grew hb
              replace uw := uw.grew hb
              replace vw := efw_grew vw hb
              replace b_v := b_v.grew hb
              replace ay := ay.grew hb
              replace xw := xw.grew hb
              replace yw := yw.grew hb
              replace hB := below_app hB hb hB.size
              clear hb
              go_wp2_with fail
              refine (specTableOk_any t _ tw).mono ?_
              rintro e u9 ⟨rfl, hb⟩
              replace tw := tw.grew hb
              replace pw := pw.grew hb
              replace qw := qw.grew hb
              replace mw := mw.grew hb
              replace ax := ax.grew hb
              replace uw := uw.grew hb
              replace vw := efw_grew vw hb
              replace b_v := b_v.grew hb
              replace ay := ay.grew hb
              replace xw := xw.grew hb
              replace yw := yw.grew hb
              replace hB := below_app hB hb hB.size
              clear hb
              as_aux_lemma =>
                go_wp2_with fail
                refine (implSameTable_any p q _ pw qw).mono ?_
                rintro e u10 ⟨rfl, hb⟩
                replace tw := tw.grew hb
                replace pw := pw.grew hb
                replace qw := qw.grew hb
                replace mw := mw.grew hb
                replace ax := ax.grew hb
                replace uw := uw.grew hb
                replace vw := efw_grew vw hb
                replace b_v := b_v.grew hb
                replace ay := ay.grew hb
                replace xw := xw.grew hb
                replace yw := yw.grew hb
                replace hB := below_app hB hb hB.size
                clear hb
                go_wp2_with fail
                refine (specSameTable_any p q _ pw qw).mono ?_
                rintro e u11 ⟨rfl, hb⟩
                replace tw := tw.grew hb
                replace pw := pw.grew hb
                replace qw := qw.grew hb
                replace mw := mw.grew hb
                replace ax := ax.grew hb
                replace uw := uw.grew hb
                replace vw := efw_grew vw hb
                replace b_v := b_v.grew hb
                replace ay := ay.grew hb
                replace xw := xw.grew hb
                replace yw := yw.grew hb
                replace hB := below_app hB hb hB.size
                clear hb
                clear pw qw
                as_aux_lemma =>
                  go_wp2_with fail
                  refine (specExpire_any m c _ mw (by omega)).mono ?_
                  rintro e u12 ⟨x2, rfl, hb, ax2⟩
                  replace tw := tw.grew hb
                  replace mw := mw.grew hb
                  replace ax := ax.grew hb
                  replace uw := uw.grew hb
                  replace vw := efw_grew vw hb
                  replace b_v := b_v.grew hb
                  replace ay := ay.grew hb
                  replace xw := xw.grew hb
                  replace yw := yw.grew hb
                  replace hB := below_app hB hb hB.size
                  clear hb
                  have E2 : Hid (smTb (⟨xp, xn, xc, xb, xf⟩ : Tb).n x2.n (⟨xp, xn, xc, xb, xf⟩ : Tb).f x2.f = true) := like_ans ax ax2
                  have x2w := ax2.okW (fun i hi => mw.2.2.2 _ (exL_lt m.f c m.n _ (by rw [List.getD_eq_getElem?_getD, List.getElem?_eq_getElem hi]; exact List.getElem_mem hi)))
                  go_wp2_with fail
                  refine (implSameTable_any (⟨xp, xn, xc, xb, xf⟩ : Tb) x2 _ xw x2w).mono ?_
                  rintro e u13 ⟨rfl, hb⟩
                  replace tw := tw.grew hb
                  replace mw := mw.grew hb
                  replace ax := ax.grew hb
                  replace uw := uw.grew hb
                  replace vw := efw_grew vw hb
                  replace b_v := b_v.grew hb
                  replace ay := ay.grew hb
                  replace xw := xw.grew hb
                  replace yw := yw.grew hb
                  replace ax2 := ax2.grew hb
                  replace x2w := x2w.grew hb
                  replace hB := below_app hB hb hB.size
                  clear hb
                  rw [E2.out]
                  clear ax ax2 x2w
                  clear E2
                  as_aux_lemma =>
                    go_wp2_with (first | (refine wpList_load_rowT (by kernel_rfl) 32 _ rfl (gx) (by rfl) _ _ _ _ b_v Tryz.underlying32 rfl (by kernel_rfl) ?_))
                    refine (specUpdate_any u v _ uw (by omega) vw vl2).mono ?_
                    rintro e u14 ⟨y2, rfl, hb, ay2⟩
                    replace tw := tw.grew hb
                    replace mw := mw.grew hb
                    replace uw := uw.grew hb
                    replace vw := efw_grew vw hb
                    replace b_v := b_v.grew hb
                    replace ay := ay.grew hb
                    replace xw := xw.grew hb
                    replace yw := yw.grew hb
                    replace hB := below_app hB hb hB.size
                    clear hb
                    have E3 : Hid (smTb y.n y2.n y.f y2.f = true) := like_ans ay ay2
                    have y2w := ay2.okW (fun i hi => by unfold upF; split <;> first | exact ⟨vw, vl2⟩ | exact uw.2.2.2 i hi)
                    go_wp2_with fail
                    refine (implSameTable_any y y2 _ yw y2w).mono ?_
                    rintro e u15 ⟨rfl, hb⟩
                    replace tw := tw.grew hb
                    replace mw := mw.grew hb
                    replace uw := uw.grew hb
                    replace vw := efw_grew vw hb
                    replace b_v := b_v.grew hb
                    replace ay := ay.grew hb
                    replace xw := xw.grew hb
                    replace yw := yw.grew hb
                    replace ay2 := ay2.grew hb
                    replace y2w := y2w.grew hb
                    replace hB := below_app hB hb hB.size
                    clear hb
                    rw [E3.out]
                    clear ay ay2 y2w
                    clear E3
                    as_aux_lemma =>
                      have E4 : Hid (smTb t.n t.n t.f t.f = true) := smTb_like (fun i hi => AlikeF.rfl' _) (fun i hi => AlikeF.rfl' _)
                      go_wp2_with fail
                      refine (implSameTable_any t t _ tw tw).mono ?_
                      rintro e u16 ⟨rfl, hb⟩
                      replace tw := tw.grew hb
                      replace mw := mw.grew hb
                      replace uw := uw.grew hb
                      replace vw := efw_grew vw hb
                      replace b_v := b_v.grew hb
                      replace xw := xw.grew hb
                      replace yw := yw.grew hb
                      replace hB := below_app hB hb hB.size
                      clear hb
                      rw [E4.out]
                      clear tw
                      clear E4 tn tl
                      as_aux_lemma =>
                        go_wp2
                        go_loopw [12] (fun i wr => ∃ k : Nat, k ≤ xn ∧ i = .int .i64 k ∧ Below u16.heap.size u16 wr) (fun i _ => xn - (intOf i).toNat)
                        case atStart => exact ⟨0, Nat.zero_le _, rfl, Below.refl _ _⟩
                        case round =>
                          obtain ⟨k, hk, rfl, hb⟩ := hrel
                          by_cases hlt : k < xn
                          case pos =>
                            have h3 := (xw.grew hb).2.2.1
                            dsimp only at h3
                            have hlv := xlv.out k hlt
                            have y1 : (0 : Int) ≤ (k : Int) := by omega
                            have y2 : (k : Int) < (xn : Int) := by omega
                            clear xw yw uw vw mw b_v xlv xok ysm
                            rcases h3 with h0 | ⟨o2, rfl, h4⟩
                            · omega
                            have ra := RdE.rangeD h4 hlt
                            clear h4
                            generalize xf k = z at ra hlv
                            have HC2 : Hid (∀ u : World, Calls Tryz.prog 18 #[(.agg #[.int .i64 z.id, .int .i64 z.si, .int .i64 z.sr, .int .i64 z.cl, .int .i64 z.pt.kd, .int .i64 z.pt.wh, .int .i64 z.pt.sr, .int .i64 z.pt.tr, .int .i64 z.pt.pi, .int .i64 z.pt.le, .int .i64 z.pt.zo, .int .i64 z.gd.kd, .int .i64 z.gd.nn, .int .i64 z.ac.kd, .int .i64 z.ac.nn, .int .i64 z.ac.pi, .int .i64 z.ac.si, .int .i64 z.ac.zo, .bool z.ac.be, .slice z.ac.la z.ac.ln z.ac.lcap, .int .i64 z.un, .int .i64 z.le]), .int .i64 c] u fun e w' => e = .returned (.bool true) ∧ Below u.heap.size u w') := fun u => by have := implLives_any z c u; rw [hlv] at this; exact this
                            clear hlv
                            go_wp2_with first | (refine wpList_load_mid rfl 32 _ rfl xb (o2 + k * 22) (by rfl) [.int .i64 z.id, .int .i64 z.si, .int .i64 z.sr, .int .i64 z.cl, .int .i64 z.pt.kd, .int .i64 z.pt.wh, .int .i64 z.pt.sr, .int .i64 z.pt.tr, .int .i64 z.pt.pi, .int .i64 z.pt.le, .int .i64 z.pt.zo, .int .i64 z.gd.kd, .int .i64 z.gd.nn, .int .i64 z.ac.kd, .int .i64 z.ac.nn, .int .i64 z.ac.pi, .int .i64 z.ac.si, .int .i64 z.ac.zo, .bool z.ac.be, .slice z.ac.la z.ac.ln z.ac.lcap, .int .i64 z.un, .int .i64 z.le] _ ra Tryz.underlying32 rfl (by kernel_rfl) ?_) | (go_at_call 18; refine (HC2.out _).mono ?_; rintro e w9 ⟨rfl, hb9⟩)
                            replace hb := below_app hb hb9 hb.size
                            clear hb9 ra HC2
                            go_roundw
                            case rel => first | exact ⟨k + 1, by omega, by go_num, hb⟩ | ((repeat apply Exists.intro); exact ⟨⟨k + 1, by omega, by go_num, hb⟩, rfl⟩)
                            case measure => simp [intOf]; omega
                          case neg =>
                            obtain rfl : k = xn := by omega
                            replace mw := mw.grew hb
                            replace uw := uw.grew hb
                            replace vw := efw_grew vw hb
                            replace b_v := b_v.grew hb
                            replace xw := xw.grew hb
                            replace yw := yw.grew hb
                            replace hB := below_app hB hb hB.size
                            clear hb
                            clear hk hlt
                            as_aux_lemma =>
                              have bc := b_v.cell 0
                              simp at bc
                              go_wp2_with fail
                              refine (implEffectAt_any u v.id _ uw).mono ?_
                              rintro e u17 ⟨rfl, hb⟩
                              clear bc
                              replace mw := mw.grew hb
                              replace uw := uw.grew hb
                              replace vw := efw_grew vw hb
                              replace b_v := b_v.grew hb
                              replace xw := xw.grew hb
                              replace yw := yw.grew hb
                              replace hB := below_app hB hb hB.size
                              clear hb
                              as_aux_lemma =>
                                have hK : (eaN u.f v.id u.n = -1) ∨ ∃ K : Nat, K < u.n ∧ eaN u.f v.id u.n = (K : Int) := by
                                  rcases eaN_cases u.f v.id u.n with ⟨h1, _⟩ | ⟨k, hk, h1, _, _⟩
                                  · exact .inl h1
                                  · exact .inr ⟨k, hk, h1⟩
                                have E7 : Hid (∀ (W : World) (B : Nat) (z : Tb), AnsT W B z (exL xf c k).length (exF (exL xf c k) xf) → smTb z.n k z.f xf = true) := fun W B z a => by
                                  rw [exL_all xlv.out] at a
                                  simp only [List.length_range] at a
                                  rw [a.2.1]
                                  exact smTb_like (fun i hi => by have := a.2.2 i hi; rw [exF_range xf i hi] at this; exact this) (fun i hi => AlikeF.rfl' _)
                                have y4 : (k : Int) ≤ (m.n : Int) := by omega
                                have y5 : Hid ((y.n : Int) = (u.n : Int)) := by have := yn1.out; show _ = _; omega
                                clear xlv
                                obtain ⟨E8, hE8⟩ : ∃ E8, eaN u.f v.id u.n = E8 := ⟨_, rfl⟩
                                rw [hE8] at hK ⊢
                                rcases hK with rfl | ⟨K, hKn, rfl⟩
                                · skip
                                  clear hE8 ysm
                                  cases hM : okTb m.n m.f
                                  case false =>
                                    go_upto_region 17 with fail
                                    have hq : Below u17.heap.size u17 u17.drew := (Below.refl _ u17).drew
                                    refine wp_region_held_drew (S := fun u : World => Below u17.heap.size u17 u) (by kernel_rfl) hq (fun hHeld => ?_)
                                    refine wpAnyH_take (i := 0) (oi := ⟨some 92, _, _, _, _, _⟩) (v := .slice xp k xc) rfl (by kernel_rfl) (by kernel_rfl) (by kernel_rfl) (fun _ _ _ h => h) (Or.inl ⟨by kernel_rfl, fun u hSu => by clear hSu; go_simp⟩) hHeld ?_
                                    try simp only [Act.put, List.setIfInBounds_toArray, List.set_cons_zero, List.set_cons_succ]
                                    refine wpAnyH_take (i := 1) (oi := ⟨some 93, _, _, _, _, _⟩) (v := .int .i64 c) rfl (by kernel_rfl) (by kernel_rfl) (by kernel_rfl) (fun _ _ _ h => h) (Or.inl ⟨by kernel_rfl, fun u hSu => by clear hSu; go_simp⟩) hHeld ?_
                                    try simp only [Act.put, List.setIfInBounds_toArray, List.set_cons_zero, List.set_cons_succ]
                                    refine wpAnyH_take (i := 3) (oi := ⟨some 95, _, _, _, _, _⟩) (v := .slice xp k xc) rfl (by kernel_rfl) (by kernel_rfl) (by kernel_rfl) (fun _ _ _ h => h) (Or.inl ⟨by kernel_rfl, fun u hSu => by clear hSu; go_simp⟩) hHeld ?_
                                    try simp only [Act.put, List.setIfInBounds_toArray, List.set_cons_zero, List.set_cons_succ]
                                    refine wpAnyH_ready (rs := [2]) (by kernel_rfl) (by simp) ?_
                                    refine AllReadyH.cons rfl (fun K' hK' => ?_) AllReadyH.nil
                                    go_simp
                                    go_at_call 28
                                    refine (implExpire_any (⟨xp, k, xc, xb, xf⟩ : Tb) c _ (xw.grew hq) (by dsimp only; omega)).mono ?_
                                    rintro e v2 ⟨z, rfl, hb, az⟩
                                    have hq' := below_app hq hb hq.size
                                    dsimp only at az
                                    have E9 : Hid (smTb z.n k z.f xf = true) := E7.out _ _ z az
                                    have zw : z.okW v2 := az.okW (fun i hi => (xw.grew hq).2.2.2 _ (exL_lt xf c k _ (by rw [List.getD_eq_getElem?_getD, List.getElem?_eq_getElem hi]; exact List.getElem_mem hi)))
                                    clear hq hb az E7
                                    have hq := hq'
                                    clear hq'
                                    refine hK'.out _ _ hq (fun hHeld => ?_)
                                    clear hK'
                                    try simp only [Act.put, List.setIfInBounds_toArray, List.set_cons_zero, List.set_cons_succ]
                                    refine wpAnyH_ready (rs := [4]) (by kernel_rfl) (by simp) ?_
                                    refine AllReadyH.cons rfl (fun K' hK' => ?_) AllReadyH.nil
                                    go_simp
                                    go_at_call 33
                                    refine (implSameTable_any z (⟨xp, k, xc, xb, xf⟩ : Tb) _ zw (xw.grew hq)).mono ?_
                                    rintro e v4 ⟨rfl, hb⟩
                                    have hq' := below_app hq hb hq.size
                                    clear hq hb zw
                                    have hq := hq'
                                    clear hq'
                                    refine hK'.out _ _ hq (fun hHeld => ?_)
                                    clear hK'
                                    try simp only [Act.put, List.setIfInBounds_toArray, List.set_cons_zero, List.set_cons_succ]
                                    rw [show smTb z.n (⟨xp, k, xc, xb, xf⟩ : Tb).n z.f (⟨xp, k, xc, xb, xf⟩ : Tb).f = true from E9.out]
                                    clear E9
                                    refine wpAnyH_take (i := 5) (oi := ⟨some 97, _, _, _, _, _⟩) (v := .bool true) rfl (by kernel_rfl) (by kernel_rfl) (by kernel_rfl) (fun _ _ _ h => h) (Or.inl ⟨by kernel_rfl, fun u hSu => by clear hSu; go_simp⟩) hHeld ?_
                                    try simp only [Act.put, List.setIfInBounds_toArray, List.set_cons_zero, List.set_cons_succ]
                                    refine wpAnyH_take (i := 6) (oi := ⟨some 98, _, _, _, _, _⟩) (v := .slice xp k xc) rfl (by kernel_rfl) (by kernel_rfl) (by kernel_rfl) (fun _ _ _ h => h) (Or.inl ⟨by kernel_rfl, fun u hSu => by clear hSu; go_simp⟩) hHeld ?_
                                    try simp only [Act.put, List.setIfInBounds_toArray, List.set_cons_zero, List.set_cons_succ]
                                    refine wpAnyH_take (i := 7) (oi := ⟨some 99, _, _, _, _, _⟩) (v := .int .i64 k) rfl (by kernel_rfl) (by kernel_rfl) (by kernel_rfl) (fun _ _ _ h => h) (Or.inl ⟨by kernel_rfl, fun u hSu => by clear hSu; go_simp⟩) hHeld ?_
                                    try simp only [Act.put, List.setIfInBounds_toArray, List.set_cons_zero, List.set_cons_succ]
                                    refine wpAnyH_take (i := 8) (oi := ⟨some 100, _, _, _, _, _⟩) (v := .slice m.p m.n m.cap) rfl (by kernel_rfl) (by kernel_rfl) (by kernel_rfl) (fun _ _ _ h => h) (Or.inl ⟨by kernel_rfl, fun u hSu => by clear hSu; go_simp⟩) hHeld ?_
                                    try simp only [Act.put, List.setIfInBounds_toArray, List.set_cons_zero, List.set_cons_succ]
                                    refine wpAnyH_take (i := 9) (oi := ⟨some 101, _, _, _, _, _⟩) (v := .int .i64 m.n) rfl (by kernel_rfl) (by kernel_rfl) (by kernel_rfl) (fun _ _ _ h => h) (Or.inl ⟨by kernel_rfl, fun u hSu => by clear hSu; go_simp⟩) hHeld ?_
                                    try simp only [Act.put, List.setIfInBounds_toArray, List.set_cons_zero, List.set_cons_succ]
                                    refine wpAnyH_take (i := 10) (oi := ⟨some 102, _, _, _, _, _⟩) (v := .bool true) rfl (by kernel_rfl) (by kernel_rfl) (by kernel_rfl) (fun _ _ _ h => h) (Or.inl ⟨by kernel_rfl, fun u hSu => by clear hSu; go_simp; first | done | omega | (simp; omega)⟩) hHeld ?_
                                    try simp only [Act.put, List.setIfInBounds_toArray, List.set_cons_zero, List.set_cons_succ]
                                    refine wpAnyH_take (i := 11) (oi := ⟨some 103, _, _, _, _, _⟩) (v := .bool true) rfl (by kernel_rfl) (by kernel_rfl) (by kernel_rfl) (fun _ _ _ h => h) (Or.inl ⟨by kernel_rfl, fun u hSu => by clear hSu; go_simp⟩) hHeld ?_
                                    try simp only [Act.put, List.setIfInBounds_toArray, List.set_cons_zero, List.set_cons_succ]
                                    refine wpAnyH_take (i := 12) (oi := ⟨some 104, _, _, _, _, _⟩) (v := .bool true) rfl (by kernel_rfl) (by kernel_rfl) (by kernel_rfl) (fun _ _ _ h => h) (Or.inl ⟨by kernel_rfl, fun u hSu => by clear hSu; go_simp⟩) hHeld ?_
                                    try simp only [Act.put, List.setIfInBounds_toArray, List.set_cons_zero, List.set_cons_succ]
                                    refine wpAnyH_take (i := 13) (oi := ⟨some 105, _, _, _, _, _⟩) (v := .slice m.p m.n m.cap) rfl (by kernel_rfl) (by kernel_rfl) (by kernel_rfl) (fun _ _ _ h => h) (Or.inl ⟨by kernel_rfl, fun u hSu => by clear hSu; go_simp⟩) hHeld ?_
                                    try simp only [Act.put, List.setIfInBounds_toArray, List.set_cons_zero, List.set_cons_succ]
                                    refine wpAnyH_ready (rs := [14]) (by kernel_rfl) (by simp) ?_
                                    refine AllReadyH.cons rfl (fun K' hK => ?_) AllReadyH.nil
                                    go_simp
                                    go_at_call 31
                                    refine (implTableOk_any m _ (mw.grew hq)).mono ?_
                                    rintro e v14 ⟨rfl, hb⟩
                                    have hq' := below_app hq hb hq.size
                                    clear hq hb
                                    have hq := hq'
                                    clear hq'
                                    refine hK.out _ _ hq (fun hHeld => ?_)
                                    clear hK
                                    try simp only [Act.put, List.setIfInBounds_toArray, List.set_cons_zero, List.set_cons_succ]
                                    rw [hM]
                                    refine wpAnyH_take (i := 15) (oi := ⟨some 107, _, _, _, _, _⟩) (v := .bool true) rfl (by kernel_rfl) (by kernel_rfl) (by kernel_rfl) (fun _ _ _ h => h) (Or.inl ⟨by kernel_rfl, fun u hSu => by clear hSu; go_simp⟩) hHeld ?_
                                    try simp only [Act.put, List.setIfInBounds_toArray, List.set_cons_zero, List.set_cons_succ]
                                    refine wpAnyH_take (i := 16) (oi := ⟨some 108, _, _, _, _, _⟩) (v := .bool true) rfl (by kernel_rfl) (by kernel_rfl) (by kernel_rfl) (fun _ _ _ h => h) (Or.inl ⟨by kernel_rfl, fun u hSu => by clear hSu; go_simp⟩) hHeld ?_
                                    try simp only [Act.put, List.setIfInBounds_toArray, List.set_cons_zero, List.set_cons_succ]
                                    refine wpAnyH_take (i := 17) (oi := ⟨some 109, _, _, _, _, _⟩) (v := undef) rfl (by kernel_rfl) (by kernel_rfl) (by kernel_rfl) (fun _ _ _ h => h) (Or.inr ⟨by kernel_rfl, rfl⟩) hHeld ?_
                                    try simp only [Act.put, List.setIfInBounds_toArray, List.set_cons_zero, List.set_cons_succ]
                                    refine wpAnyH_take (i := 18) (oi := ⟨some 110, _, _, _, _, _⟩) (v := undef) rfl (by kernel_rfl) (by kernel_rfl) (by kernel_rfl) (fun _ _ _ h => h) (Or.inr ⟨by kernel_rfl, rfl⟩) hHeld ?_
                                    try simp only [Act.put, List.setIfInBounds_toArray, List.set_cons_zero, List.set_cons_succ]
                                    refine wpAnyH_take (i := 19) (oi := ⟨some 111, _, _, _, _, _⟩) (v := .bool true) rfl (by kernel_rfl) (by kernel_rfl) (by kernel_rfl) (fun _ _ _ h => h) (Or.inl ⟨by kernel_rfl, fun u hSu => by clear hSu; go_simp⟩) hHeld ?_
                                    try simp only [Act.put, List.setIfInBounds_toArray, List.set_cons_zero, List.set_cons_succ]
                                    refine wpAnyH_take (i := 20) (oi := ⟨some 112, _, _, _, _, _⟩) (v := .bool true) rfl (by kernel_rfl) (by kernel_rfl) (by kernel_rfl) (fun _ _ _ h => h) (Or.inl ⟨by kernel_rfl, fun u hSu => by clear hSu; go_simp⟩) hHeld ?_
                                    try simp only [Act.put, List.setIfInBounds_toArray, List.set_cons_zero, List.set_cons_succ]
                                    refine wpAnyH_take (i := 21) (oi := ⟨some 113, _, _, _, _, _⟩) (v := .bool true) rfl (by kernel_rfl) (by kernel_rfl) (by kernel_rfl) (fun _ _ _ h => h) (Or.inl ⟨by kernel_rfl, fun u hSu => by clear hSu; go_simp⟩) hHeld ?_
                                    try simp only [Act.put, List.setIfInBounds_toArray, List.set_cons_zero, List.set_cons_succ]
                                    refine wpAnyH_take (i := 22) (oi := ⟨some 114, _, _, _, _, _⟩) (v := .slice y.p y.n y.cap) rfl (by kernel_rfl) (by kernel_rfl) (by kernel_rfl) (fun _ _ _ h => h) (Or.inl ⟨by kernel_rfl, fun u hSu => by clear hSu; go_simp⟩) hHeld ?_
                                    try simp only [Act.put, List.setIfInBounds_toArray, List.set_cons_zero, List.set_cons_succ]
                                    refine wpAnyH_take (i := 23) (oi := ⟨some 115, _, _, _, _, _⟩) (v := .int .i64 y.n) rfl (by kernel_rfl) (by kernel_rfl) (by kernel_rfl) (fun _ _ _ h => h) (Or.inl ⟨by kernel_rfl, fun u hSu => by clear hSu; go_simp⟩) hHeld ?_
                                    try simp only [Act.put, List.setIfInBounds_toArray, List.set_cons_zero, List.set_cons_succ]
                                    refine wpAnyH_take (i := 24) (oi := ⟨some 116, _, _, _, _, _⟩) (v := .slice u.p u.n u.cap) rfl (by kernel_rfl) (by kernel_rfl) (by kernel_rfl) (fun _ _ _ h => h) (Or.inl ⟨by kernel_rfl, fun u hSu => by clear hSu; go_simp⟩) hHeld ?_
                                    try simp only [Act.put, List.setIfInBounds_toArray, List.set_cons_zero, List.set_cons_succ]
                                    refine wpAnyH_take (i := 25) (oi := ⟨some 117, _, _, _, _, _⟩) (v := .int .i64 u.n) rfl (by kernel_rfl) (by kernel_rfl) (by kernel_rfl) (fun _ _ _ h => h) (Or.inl ⟨by kernel_rfl, fun u hSu => by clear hSu; go_simp⟩) hHeld ?_
                                    try simp only [Act.put, List.setIfInBounds_toArray, List.set_cons_zero, List.set_cons_succ]
                                    refine wpAnyH_take (i := 26) (oi := ⟨some 118, _, _, _, _, _⟩) (v := .bool true) rfl (by kernel_rfl) (by kernel_rfl) (by kernel_rfl) (fun _ _ _ h => h) (Or.inl ⟨by kernel_rfl, fun u hSu => by clear hSu; go_simp; first | done | (rw [y5.out]; go_simp; done) | (simp [y5.out]; done) | (have := y5.out; simp; omega)⟩) hHeld ?_
                                    try simp only [Act.put, List.setIfInBounds_toArray, List.set_cons_zero, List.set_cons_succ]
                                    refine wpAnyH_take (i := 27) (oi := ⟨some 119, _, _, _, _, _⟩) (v := .bool true) rfl (by kernel_rfl) (by kernel_rfl) (by kernel_rfl) (fun _ _ _ h => h) (Or.inl ⟨by kernel_rfl, fun u hSu => by clear hSu; go_simp⟩) hHeld ?_
                                    try simp only [Act.put, List.setIfInBounds_toArray, List.set_cons_zero, List.set_cons_succ]
                                    refine wpAnyH_take (i := 28) (oi := ⟨some 120, _, _, _, _, _⟩) (v := .bool true) rfl (by kernel_rfl) (by kernel_rfl) (by kernel_rfl) (fun _ _ _ h => h) (Or.inl ⟨by kernel_rfl, fun u hSu => by clear hSu; go_simp⟩) hHeld ?_
                                    try simp only [Act.put, List.setIfInBounds_toArray, List.set_cons_zero, List.set_cons_succ]
                                    refine wpAnyH_take (i := 29) (oi := ⟨some 121, _, _, _, _, _⟩) (v := .int .i64 (-1)) rfl (by kernel_rfl) (by kernel_rfl) (by kernel_rfl) (fun _ _ _ h => h) (Or.inl ⟨by kernel_rfl, fun u hSu => by clear hSu; go_simp⟩) hHeld ?_
                                    try simp only [Act.put, List.setIfInBounds_toArray, List.set_cons_zero, List.set_cons_succ]
                                    refine wpAnyH_take (i := 30) (oi := ⟨some 122, _, _, _, _, _⟩) (v := .bool true) rfl (by kernel_rfl) (by kernel_rfl) (by kernel_rfl) (fun _ _ _ h => h) (Or.inl ⟨by kernel_rfl, fun u hSu => by clear hSu; go_simp; first | done | omega | (simp; omega)⟩) hHeld ?_
                                    try simp only [Act.put, List.setIfInBounds_toArray, List.set_cons_zero, List.set_cons_succ]
                                    refine wpAnyH_take (i := 31) (oi := ⟨some 123, _, _, _, _, _⟩) (v := .bool true) rfl (by kernel_rfl) (by kernel_rfl) (by kernel_rfl) (fun _ _ _ h => h) (Or.inl ⟨by kernel_rfl, fun u hSu => by clear hSu; go_simp⟩) hHeld ?_
                                    try simp only [Act.put, List.setIfInBounds_toArray, List.set_cons_zero, List.set_cons_succ]
                                    refine wpAnyH_take (i := 32) (oi := ⟨some 124, _, _, _, _, _⟩) (v := undef) rfl (by kernel_rfl) (by kernel_rfl) (by kernel_rfl) (fun _ _ _ h => h) (Or.inr ⟨by kernel_rfl, rfl⟩) hHeld ?_
                                    try simp only [Act.put, List.setIfInBounds_toArray, List.set_cons_zero, List.set_cons_succ]
                                    refine wpAnyH_take (i := 33) (oi := ⟨some 125, _, _, _, _, _⟩) (v := undef) rfl (by kernel_rfl) (by kernel_rfl) (by kernel_rfl) (fun _ _ _ h => h) (Or.inr ⟨by kernel_rfl, rfl⟩) hHeld ?_
                                    try simp only [Act.put, List.setIfInBounds_toArray, List.set_cons_zero, List.set_cons_succ]
                                    refine wpAnyH_take (i := 34) (oi := ⟨some 126, _, _, _, _, _⟩) (v := undef) rfl (by kernel_rfl) (by kernel_rfl) (by kernel_rfl) (fun _ _ _ h => h) (Or.inr ⟨by kernel_rfl, rfl⟩) hHeld ?_
                                    try simp only [Act.put, List.setIfInBounds_toArray, List.set_cons_zero, List.set_cons_succ]
                                    refine wpAnyH_take (i := 35) (oi := ⟨some 127, _, _, _, _, _⟩) (v := undef) rfl (by kernel_rfl) (by kernel_rfl) (by kernel_rfl) (fun _ _ _ h => h) (Or.inr ⟨by kernel_rfl, rfl⟩) hHeld ?_
                                    try simp only [Act.put, List.setIfInBounds_toArray, List.set_cons_zero, List.set_cons_succ]
                                    refine wpAnyH_take (i := 36) (oi := ⟨some 128, _, _, _, _, _⟩) (v := undef) rfl (by kernel_rfl) (by kernel_rfl) (by kernel_rfl) (fun _ _ _ h => h) (Or.inr ⟨by kernel_rfl, rfl⟩) hHeld ?_
                                    try simp only [Act.put, List.setIfInBounds_toArray, List.set_cons_zero, List.set_cons_succ]
                                    refine wpAnyH_take (i := 37) (oi := ⟨some 129, _, _, _, _, _⟩) (v := undef) rfl (by kernel_rfl) (by kernel_rfl) (by kernel_rfl) (fun _ _ _ h => h) (Or.inr ⟨by kernel_rfl, rfl⟩) hHeld ?_
                                    try simp only [Act.put, List.setIfInBounds_toArray, List.set_cons_zero, List.set_cons_succ]
                                    refine wpAnyH_take (i := 38) (oi := ⟨some 130, _, _, _, _, _⟩) (v := .bool true) rfl (by kernel_rfl) (by kernel_rfl) (by kernel_rfl) (fun _ _ _ h => h) (Or.inl ⟨by kernel_rfl, fun u hSu => by clear hSu; go_simp⟩) hHeld ?_
                                    try simp only [Act.put, List.setIfInBounds_toArray, List.set_cons_zero, List.set_cons_succ]
                                    refine wpAnyH_take (i := 39) (oi := ⟨some 131, _, _, _, _, _⟩) (v := .bool true) rfl (by kernel_rfl) (by kernel_rfl) (by kernel_rfl) (fun _ _ _ h => h) (Or.inl ⟨by kernel_rfl, fun u hSu => by clear hSu; go_simp⟩) hHeld ?_
                                    try simp only [Act.put, List.setIfInBounds_toArray, List.set_cons_zero, List.set_cons_succ]
                                    refine wpAnyH_take (i := 40) (oi := ⟨some 2, _, _, _, _, _⟩) (v := .bool true) rfl (by kernel_rfl) (by kernel_rfl) (by kernel_rfl) (fun _ _ _ h => h) (Or.inl ⟨by kernel_rfl, fun u hSu => by clear hSu; go_simp⟩) hHeld ?_
                                    try simp only [Act.put, List.setIfInBounds_toArray, List.set_cons_zero, List.set_cons_succ]
                                    refine wpAnyH_done (by kernel_rfl) ?_ _
                                    clear hHeld
                                    go_wp2
                                    go_ret
                                    exact ⟨rfl, below_app hB hq hB.size⟩
                                  case true =>
                                    go_upto_region 17 with fail
                                    have hq : Below u17.heap.size u17 u17.drew := (Below.refl _ u17).drew
                                    refine wp_region_held_drew (S := fun u : World => Below u17.heap.size u17 u) (by kernel_rfl) hq (fun hHeld => ?_)
                                    refine wpAnyH_take (i := 0) (oi := ⟨some 92, _, _, _, _, _⟩) (v := .slice xp k xc) rfl (by kernel_rfl) (by kernel_rfl) (by kernel_rfl) (fun _ _ _ h => h) (Or.inl ⟨by kernel_rfl, fun u hSu => by clear hSu; go_simp⟩) hHeld ?_
                                    try simp only [Act.put, List.setIfInBounds_toArray, List.set_cons_zero, List.set_cons_succ]
                                    refine wpAnyH_take (i := 1) (oi := ⟨some 93, _, _, _, _, _⟩) (v := .int .i64 c) rfl (by kernel_rfl) (by kernel_rfl) (by kernel_rfl) (fun _ _ _ h => h) (Or.inl ⟨by kernel_rfl, fun u hSu => by clear hSu; go_simp⟩) hHeld ?_
                                    try simp only [Act.put, List.setIfInBounds_toArray, List.set_cons_zero, List.set_cons_succ]
                                    refine wpAnyH_take (i := 3) (oi := ⟨some 95, _, _, _, _, _⟩) (v := .slice xp k xc) rfl (by kernel_rfl) (by kernel_rfl) (by kernel_rfl) (fun _ _ _ h => h) (Or.inl ⟨by kernel_rfl, fun u hSu => by clear hSu; go_simp⟩) hHeld ?_
                                    try simp only [Act.put, List.setIfInBounds_toArray, List.set_cons_zero, List.set_cons_succ]
                                    refine wpAnyH_ready (rs := [2]) (by kernel_rfl) (by simp) ?_
                                    refine AllReadyH.cons rfl (fun K' hK' => ?_) AllReadyH.nil
                                    go_simp
                                    go_at_call 28
                                    refine (implExpire_any (⟨xp, k, xc, xb, xf⟩ : Tb) c _ (xw.grew hq) (by dsimp only; omega)).mono ?_
                                    rintro e v2 ⟨z, rfl, hb, az⟩
                                    have hq' := below_app hq hb hq.size
                                    dsimp only at az
                                    have E9 : Hid (smTb z.n k z.f xf = true) := E7.out _ _ z az
                                    have zw : z.okW v2 := az.okW (fun i hi => (xw.grew hq).2.2.2 _ (exL_lt xf c k _ (by rw [List.getD_eq_getElem?_getD, List.getElem?_eq_getElem hi]; exact List.getElem_mem hi)))
                                    clear hq hb az E7
                                    have hq := hq'
                                    clear hq'
                                    refine hK'.out _ _ hq (fun hHeld => ?_)
                                    clear hK'
                                    try simp only [Act.put, List.setIfInBounds_toArray, List.set_cons_zero, List.set_cons_succ]
                                    refine wpAnyH_ready (rs := [4]) (by kernel_rfl) (by simp) ?_
                                    refine AllReadyH.cons rfl (fun K' hK' => ?_) AllReadyH.nil
                                    go_simp
                                    go_at_call 33
                                    refine (implSameTable_any z (⟨xp, k, xc, xb, xf⟩ : Tb) _ zw (xw.grew hq)).mono ?_
                                    rintro e v4 ⟨rfl, hb⟩
                                    have hq' := below_app hq hb hq.size
                                    clear hq hb zw
                                    have hq := hq'
                                    clear hq'
                                    refine hK'.out _ _ hq (fun hHeld => ?_)
                                    clear hK'
                                    try simp only [Act.put, List.setIfInBounds_toArray, List.set_cons_zero, List.set_cons_succ]
                                    rw [show smTb z.n (⟨xp, k, xc, xb, xf⟩ : Tb).n z.f (⟨xp, k, xc, xb, xf⟩ : Tb).f = true from E9.out]
                                    clear E9
                                    refine wpAnyH_take (i := 5) (oi := ⟨some 97, _, _, _, _, _⟩) (v := .bool true) rfl (by kernel_rfl) (by kernel_rfl) (by kernel_rfl) (fun _ _ _ h => h) (Or.inl ⟨by kernel_rfl, fun u hSu => by clear hSu; go_simp⟩) hHeld ?_
                                    try simp only [Act.put, List.setIfInBounds_toArray, List.set_cons_zero, List.set_cons_succ]
                                    refine wpAnyH_take (i := 6) (oi := ⟨some 98, _, _, _, _, _⟩) (v := .slice xp k xc) rfl (by kernel_rfl) (by kernel_rfl) (by kernel_rfl) (fun _ _ _ h => h) (Or.inl ⟨by kernel_rfl, fun u hSu => by clear hSu; go_simp⟩) hHeld ?_
                                    try simp only [Act.put, List.setIfInBounds_toArray, List.set_cons_zero, List.set_cons_succ]
                                    refine wpAnyH_take (i := 7) (oi := ⟨some 99, _, _, _, _, _⟩) (v := .int .i64 k) rfl (by kernel_rfl) (by kernel_rfl) (by kernel_rfl) (fun _ _ _ h => h) (Or.inl ⟨by kernel_rfl, fun u hSu => by clear hSu; go_simp⟩) hHeld ?_
                                    try simp only [Act.put, List.setIfInBounds_toArray, List.set_cons_zero, List.set_cons_succ]
                                    refine wpAnyH_take (i := 8) (oi := ⟨some 100, _, _, _, _, _⟩) (v := .slice m.p m.n m.cap) rfl (by kernel_rfl) (by kernel_rfl) (by kernel_rfl) (fun _ _ _ h => h) (Or.inl ⟨by kernel_rfl, fun u hSu => by clear hSu; go_simp⟩) hHeld ?_
                                    try simp only [Act.put, List.setIfInBounds_toArray, List.set_cons_zero, List.set_cons_succ]
                                    refine wpAnyH_take (i := 9) (oi := ⟨some 101, _, _, _, _, _⟩) (v := .int .i64 m.n) rfl (by kernel_rfl) (by kernel_rfl) (by kernel_rfl) (fun _ _ _ h => h) (Or.inl ⟨by kernel_rfl, fun u hSu => by clear hSu; go_simp⟩) hHeld ?_
                                    try simp only [Act.put, List.setIfInBounds_toArray, List.set_cons_zero, List.set_cons_succ]
                                    refine wpAnyH_take (i := 10) (oi := ⟨some 102, _, _, _, _, _⟩) (v := .bool true) rfl (by kernel_rfl) (by kernel_rfl) (by kernel_rfl) (fun _ _ _ h => h) (Or.inl ⟨by kernel_rfl, fun u hSu => by clear hSu; go_simp; first | done | omega | (simp; omega)⟩) hHeld ?_
                                    try simp only [Act.put, List.setIfInBounds_toArray, List.set_cons_zero, List.set_cons_succ]
                                    refine wpAnyH_take (i := 11) (oi := ⟨some 103, _, _, _, _, _⟩) (v := .bool true) rfl (by kernel_rfl) (by kernel_rfl) (by kernel_rfl) (fun _ _ _ h => h) (Or.inl ⟨by kernel_rfl, fun u hSu => by clear hSu; go_simp⟩) hHeld ?_
                                    try simp only [Act.put, List.setIfInBounds_toArray, List.set_cons_zero, List.set_cons_succ]
                                    refine wpAnyH_take (i := 12) (oi := ⟨some 104, _, _, _, _, _⟩) (v := .bool true) rfl (by kernel_rfl) (by kernel_rfl) (by kernel_rfl) (fun _ _ _ h => h) (Or.inl ⟨by kernel_rfl, fun u hSu => by clear hSu; go_simp⟩) hHeld ?_
                                    try simp only [Act.put, List.setIfInBounds_toArray, List.set_cons_zero, List.set_cons_succ]
                                    refine wpAnyH_take (i := 13) (oi := ⟨some 105, _, _, _, _, _⟩) (v := .slice m.p m.n m.cap) rfl (by kernel_rfl) (by kernel_rfl) (by kernel_rfl) (fun _ _ _ h => h) (Or.inl ⟨by kernel_rfl, fun u hSu => by clear hSu; go_simp⟩) hHeld ?_
                                    try simp only [Act.put, List.setIfInBounds_toArray, List.set_cons_zero, List.set_cons_succ]
                                    refine wpAnyH_ready (rs := [14]) (by kernel_rfl) (by simp) ?_
                                    refine AllReadyH.cons rfl (fun K' hK => ?_) AllReadyH.nil
                                    go_simp
                                    go_at_call 31
                                    refine (implTableOk_any m _ (mw.grew hq)).mono ?_
                                    rintro e v14 ⟨rfl, hb⟩
                                    have hq' := below_app hq hb hq.size
                                    clear hq hb
                                    have hq := hq'
                                    clear hq'
                                    refine hK.out _ _ hq (fun hHeld => ?_)
                                    clear hK
                                    try simp only [Act.put, List.setIfInBounds_toArray, List.set_cons_zero, List.set_cons_succ]
                                    rw [hM]
                                    refine wpAnyH_take (i := 15) (oi := ⟨some 107, _, _, _, _, _⟩) (v := .bool false) rfl (by kernel_rfl) (by kernel_rfl) (by kernel_rfl) (fun _ _ _ h => h) (Or.inl ⟨by kernel_rfl, fun u hSu => by clear hSu; go_simp⟩) hHeld ?_
                                    try simp only [Act.put, List.setIfInBounds_toArray, List.set_cons_zero, List.set_cons_succ]
                                    refine wpAnyH_take (i := 16) (oi := ⟨some 108, _, _, _, _, _⟩) (v := .bool false) rfl (by kernel_rfl) (by kernel_rfl) (by kernel_rfl) (fun _ _ _ h => h) (Or.inl ⟨by kernel_rfl, fun u hSu => by clear hSu; go_simp⟩) hHeld ?_
                                    try simp only [Act.put, List.setIfInBounds_toArray, List.set_cons_zero, List.set_cons_succ]
                                    refine wpAnyH_take (i := 17) (oi := ⟨some 109, _, _, _, _, _⟩) (v := .slice xp k xc) rfl (by kernel_rfl) (by kernel_rfl) (by kernel_rfl) (fun _ _ _ h => h) (Or.inl ⟨by kernel_rfl, fun u hSu => by clear hSu; go_simp⟩) hHeld ?_
                                    try simp only [Act.put, List.setIfInBounds_toArray, List.set_cons_zero, List.set_cons_succ]
                                    refine wpAnyH_ready (rs := [18]) (by kernel_rfl) (by simp) ?_
                                    refine AllReadyH.cons rfl (fun K' hK => ?_) AllReadyH.nil
                                    go_simp
                                    go_at_call 31
                                    refine (implTableOk_any (⟨xp, k, xc, xb, xf⟩ : Tb) _ (xw.grew hq)).mono ?_
                                    rintro e v18 ⟨rfl, hb⟩
                                    have hq' := below_app hq hb hq.size
                                    clear hq hb
                                    have hq := hq'
                                    clear hq'
                                    refine hK.out _ _ hq (fun hHeld => ?_)
                                    clear hK
                                    try simp only [Act.put, List.setIfInBounds_toArray, List.set_cons_zero, List.set_cons_succ]
                                    rw [show okTb (⟨xp, k, xc, xb, xf⟩ : Tb).n (⟨xp, k, xc, xb, xf⟩ : Tb).f = true from xok.out hM]
                                    refine wpAnyH_take (i := 19) (oi := ⟨some 111, _, _, _, _, _⟩) (v := .bool true) rfl (by kernel_rfl) (by kernel_rfl) (by kernel_rfl) (fun _ _ _ h => h) (Or.inl ⟨by kernel_rfl, fun u hSu => by clear hSu; go_simp⟩) hHeld ?_
                                    try simp only [Act.put, List.setIfInBounds_toArray, List.set_cons_zero, List.set_cons_succ]
                                    refine wpAnyH_take (i := 20) (oi := ⟨some 112, _, _, _, _, _⟩) (v := .bool true) rfl (by kernel_rfl) (by kernel_rfl) (by kernel_rfl) (fun _ _ _ h => h) (Or.inl ⟨by kernel_rfl, fun u hSu => by clear hSu; go_simp⟩) hHeld ?_
                                    try simp only [Act.put, List.setIfInBounds_toArray, List.set_cons_zero, List.set_cons_succ]
                                    refine wpAnyH_take (i := 21) (oi := ⟨some 113, _, _, _, _, _⟩) (v := .bool true) rfl (by kernel_rfl) (by kernel_rfl) (by kernel_rfl) (fun _ _ _ h => h) (Or.inl ⟨by kernel_rfl, fun u hSu => by clear hSu; go_simp⟩) hHeld ?_
                                    try simp only [Act.put, List.setIfInBounds_toArray, List.set_cons_zero, List.set_cons_succ]
                                    refine wpAnyH_take (i := 22) (oi := ⟨some 114, _, _, _, _, _⟩) (v := .slice y.p y.n y.cap) rfl (by kernel_rfl) (by kernel_rfl) (by kernel_rfl) (fun _ _ _ h => h) (Or.inl ⟨by kernel_rfl, fun u hSu => by clear hSu; go_simp⟩) hHeld ?_
                                    try simp only [Act.put, List.setIfInBounds_toArray, List.set_cons_zero, List.set_cons_succ]
                                    refine wpAnyH_take (i := 23) (oi := ⟨some 115, _, _, _, _, _⟩) (v := .int .i64 y.n) rfl (by kernel_rfl) (by kernel_rfl) (by kernel_rfl) (fun _ _ _ h => h) (Or.inl ⟨by kernel_rfl, fun u hSu => by clear hSu; go_simp⟩) hHeld ?_
                                    try simp only [Act.put, List.setIfInBounds_toArray, List.set_cons_zero, List.set_cons_succ]
                                    refine wpAnyH_take (i := 24) (oi := ⟨some 116, _, _, _, _, _⟩) (v := .slice u.p u.n u.cap) rfl (by kernel_rfl) (by kernel_rfl) (by kernel_rfl) (fun _ _ _ h => h) (Or.inl ⟨by kernel_rfl, fun u hSu => by clear hSu; go_simp⟩) hHeld ?_
                                    try simp only [Act.put, List.setIfInBounds_toArray, List.set_cons_zero, List.set_cons_succ]
                                    refine wpAnyH_take (i := 25) (oi := ⟨some 117, _, _, _, _, _⟩) (v := .int .i64 u.n) rfl (by kernel_rfl) (by kernel_rfl) (by kernel_rfl) (fun _ _ _ h => h) (Or.inl ⟨by kernel_rfl, fun u hSu => by clear hSu; go_simp⟩) hHeld ?_
                                    try simp only [Act.put, List.setIfInBounds_toArray, List.set_cons_zero, List.set_cons_succ]
                                    refine wpAnyH_take (i := 26) (oi := ⟨some 118, _, _, _, _, _⟩) (v := .bool true) rfl (by kernel_rfl) (by kernel_rfl) (by kernel_rfl) (fun _ _ _ h => h) (Or.inl ⟨by kernel_rfl, fun u hSu => by clear hSu; go_simp; first | done | (rw [y5.out]; go_simp; done) | (simp [y5.out]; done) | (have := y5.out; simp; omega)⟩) hHeld ?_
                                    try simp only [Act.put, List.setIfInBounds_toArray, List.set_cons_zero, List.set_cons_succ]
                                    refine wpAnyH_take (i := 27) (oi := ⟨some 119, _, _, _, _, _⟩) (v := .bool true) rfl (by kernel_rfl) (by kernel_rfl) (by kernel_rfl) (fun _ _ _ h => h) (Or.inl ⟨by kernel_rfl, fun u hSu => by clear hSu; go_simp⟩) hHeld ?_
                                    try simp only [Act.put, List.setIfInBounds_toArray, List.set_cons_zero, List.set_cons_succ]
                                    refine wpAnyH_take (i := 28) (oi := ⟨some 120, _, _, _, _, _⟩) (v := .bool true) rfl (by kernel_rfl) (by kernel_rfl) (by kernel_rfl) (fun _ _ _ h => h) (Or.inl ⟨by kernel_rfl, fun u hSu => by clear hSu; go_simp⟩) hHeld ?_
                                    try simp only [Act.put, List.setIfInBounds_toArray, List.set_cons_zero, List.set_cons_succ]
                                    refine wpAnyH_take (i := 29) (oi := ⟨some 121, _, _, _, _, _⟩) (v := .int .i64 (-1)) rfl (by kernel_rfl) (by kernel_rfl) (by kernel_rfl) (fun _ _ _ h => h) (Or.inl ⟨by kernel_rfl, fun u hSu => by clear hSu; go_simp⟩) hHeld ?_
                                    try simp only [Act.put, List.setIfInBounds_toArray, List.set_cons_zero, List.set_cons_succ]
                                    refine wpAnyH_take (i := 30) (oi := ⟨some 122, _, _, _, _, _⟩) (v := .bool true) rfl (by kernel_rfl) (by kernel_rfl) (by kernel_rfl) (fun _ _ _ h => h) (Or.inl ⟨by kernel_rfl, fun u hSu => by clear hSu; go_simp; first | done | omega | (simp; omega)⟩) hHeld ?_
                                    try simp only [Act.put, List.setIfInBounds_toArray, List.set_cons_zero, List.set_cons_succ]
                                    refine wpAnyH_take (i := 31) (oi := ⟨some 123, _, _, _, _, _⟩) (v := .bool true) rfl (by kernel_rfl) (by kernel_rfl) (by kernel_rfl) (fun _ _ _ h => h) (Or.inl ⟨by kernel_rfl, fun u hSu => by clear hSu; go_simp⟩) hHeld ?_
                                    try simp only [Act.put, List.setIfInBounds_toArray, List.set_cons_zero, List.set_cons_succ]
                                    refine wpAnyH_take (i := 32) (oi := ⟨some 124, _, _, _, _, _⟩) (v := undef) rfl (by kernel_rfl) (by kernel_rfl) (by kernel_rfl) (fun _ _ _ h => h) (Or.inr ⟨by kernel_rfl, rfl⟩) hHeld ?_
                                    try simp only [Act.put, List.setIfInBounds_toArray, List.set_cons_zero, List.set_cons_succ]
                                    refine wpAnyH_take (i := 33) (oi := ⟨some 125, _, _, _, _, _⟩) (v := undef) rfl (by kernel_rfl) (by kernel_rfl) (by kernel_rfl) (fun _ _ _ h => h) (Or.inr ⟨by kernel_rfl, rfl⟩) hHeld ?_
                                    try simp only [Act.put, List.setIfInBounds_toArray, List.set_cons_zero, List.set_cons_succ]
                                    refine wpAnyH_take (i := 34) (oi := ⟨some 126, _, _, _, _, _⟩) (v := undef) rfl (by kernel_rfl) (by kernel_rfl) (by kernel_rfl) (fun _ _ _ h => h) (Or.inr ⟨by kernel_rfl, rfl⟩) hHeld ?_
                                    try simp only [Act.put, List.setIfInBounds_toArray, List.set_cons_zero, List.set_cons_succ]
                                    refine wpAnyH_take (i := 35) (oi := ⟨some 127, _, _, _, _, _⟩) (v := undef) rfl (by kernel_rfl) (by kernel_rfl) (by kernel_rfl) (fun _ _ _ h => h) (Or.inr ⟨by kernel_rfl, rfl⟩) hHeld ?_
                                    try simp only [Act.put, List.setIfInBounds_toArray, List.set_cons_zero, List.set_cons_succ]
                                    refine wpAnyH_take (i := 36) (oi := ⟨some 128, _, _, _, _, _⟩) (v := undef) rfl (by kernel_rfl) (by kernel_rfl) (by kernel_rfl) (fun _ _ _ h => h) (Or.inr ⟨by kernel_rfl, rfl⟩) hHeld ?_
                                    try simp only [Act.put, List.setIfInBounds_toArray, List.set_cons_zero, List.set_cons_succ]
                                    refine wpAnyH_take (i := 37) (oi := ⟨some 129, _, _, _, _, _⟩) (v := undef) rfl (by kernel_rfl) (by kernel_rfl) (by kernel_rfl) (fun _ _ _ h => h) (Or.inr ⟨by kernel_rfl, rfl⟩) hHeld ?_
                                    try simp only [Act.put, List.setIfInBounds_toArray, List.set_cons_zero, List.set_cons_succ]
                                    refine wpAnyH_take (i := 38) (oi := ⟨some 130, _, _, _, _, _⟩) (v := .bool true) rfl (by kernel_rfl) (by kernel_rfl) (by kernel_rfl) (fun _ _ _ h => h) (Or.inl ⟨by kernel_rfl, fun u hSu => by clear hSu; go_simp⟩) hHeld ?_
                                    try simp only [Act.put, List.setIfInBounds_toArray, List.set_cons_zero, List.set_cons_succ]
                                    refine wpAnyH_take (i := 39) (oi := ⟨some 131, _, _, _, _, _⟩) (v := .bool true) rfl (by kernel_rfl) (by kernel_rfl) (by kernel_rfl) (fun _ _ _ h => h) (Or.inl ⟨by kernel_rfl, fun u hSu => by clear hSu; go_simp⟩) hHeld ?_
                                    try simp only [Act.put, List.setIfInBounds_toArray, List.set_cons_zero, List.set_cons_succ]
                                    refine wpAnyH_take (i := 40) (oi := ⟨some 2, _, _, _, _, _⟩) (v := .bool true) rfl (by kernel_rfl) (by kernel_rfl) (by kernel_rfl) (fun _ _ _ h => h) (Or.inl ⟨by kernel_rfl, fun u hSu => by clear hSu; go_simp⟩) hHeld ?_
                                    try simp only [Act.put, List.setIfInBounds_toArray, List.set_cons_zero, List.set_cons_succ]
                                    refine wpAnyH_done (by kernel_rfl) ?_ _
                                    clear hHeld
                                    go_wp2
                                    go_ret
                                    exact ⟨rfl, below_app hB hq hB.size⟩
                                · skip
                                  have hS9' := ysm.out K hE8
                                  have h3 := yw.2.2.1
                                  have hKy : K < y.n := by have := yn1.out; omega
                                  obtain ⟨o2, hp, h4⟩ : ∃ o2, y.p = some ⟨y.b, o2, none⟩ ∧ ∀ i, i < y.n → ∀ j v, (efC (y.f i))[j]? = some v → u17.cell? ⟨y.b, o2 + i * 22 + j, none⟩ = some v := h3.resolve_left (by omega)
                                  have ra := RdE.rangeD h4 hKy
                                  have zw9 := (yw.2.2.2 K hKy).1
                                  have zl9 := (yw.2.2.2 K hKy).2
                                  have y1 : (0 : Int) ≤ (K : Int) := by omega
                                  have y2 : (K : Int) < (y.n : Int) := by omega
                                  generalize y.f K = z9 at ra zw9 zl9 hS9'
                                  have hS9 : Hid (smEf z9 v = true) := hS9'
                                  replace hp : Hid (y.p = some ⟨y.b, o2, none⟩) := hp
                                  have rx := BoxR.rangeE (x := v) b_v
                                  clear hS9' h3 h4 hKy
                                  clear hE8 ysm
                                  cases hM : okTb m.n m.f
                                  case false =>
                                    go_upto_region 17 with fail
                                    have hq : Below u17.heap.size u17 u17.drew := (Below.refl _ u17).drew
                                    refine wp_region_held_drew (S := fun u : World => Below u17.heap.size u17 u) (by kernel_rfl) hq (fun hHeld => ?_)
                                    refine wpAnyH_take (i := 0) (oi := ⟨some 92, _, _, _, _, _⟩) (v := .slice xp k xc) rfl (by kernel_rfl) (by kernel_rfl) (by kernel_rfl) (fun _ _ _ h => h) (Or.inl ⟨by kernel_rfl, fun u hSu => by clear hSu; go_simp⟩) hHeld ?_
                                    try simp only [Act.put, List.setIfInBounds_toArray, List.set_cons_zero, List.set_cons_succ]
                                    refine wpAnyH_take (i := 1) (oi := ⟨some 93, _, _, _, _, _⟩) (v := .int .i64 c) rfl (by kernel_rfl) (by kernel_rfl) (by kernel_rfl) (fun _ _ _ h => h) (Or.inl ⟨by kernel_rfl, fun u hSu => by clear hSu; go_simp⟩) hHeld ?_
                                    try simp only [Act.put, List.setIfInBounds_toArray, List.set_cons_zero, List.set_cons_succ]
                                    refine wpAnyH_take (i := 3) (oi := ⟨some 95, _, _, _, _, _⟩) (v := .slice xp k xc) rfl (by kernel_rfl) (by kernel_rfl) (by kernel_rfl) (fun _ _ _ h => h) (Or.inl ⟨by kernel_rfl, fun u hSu => by clear hSu; go_simp⟩) hHeld ?_
                                    try simp only [Act.put, List.setIfInBounds_toArray, List.set_cons_zero, List.set_cons_succ]
                                    refine wpAnyH_ready (rs := [2]) (by kernel_rfl) (by simp) ?_
                                    refine AllReadyH.cons rfl (fun K' hK' => ?_) AllReadyH.nil
                                    go_simp
                                    go_at_call 28
                                    refine (implExpire_any (⟨xp, k, xc, xb, xf⟩ : Tb) c _ (xw.grew hq) (by dsimp only; omega)).mono ?_
                                    rintro e v2 ⟨z, rfl, hb, az⟩
                                    have hq' := below_app hq hb hq.size
                                    dsimp only at az
                                    have E9 : Hid (smTb z.n k z.f xf = true) := E7.out _ _ z az
                                    have zw : z.okW v2 := az.okW (fun i hi => (xw.grew hq).2.2.2 _ (exL_lt xf c k _ (by rw [List.getD_eq_getElem?_getD, List.getElem?_eq_getElem hi]; exact List.getElem_mem hi)))
                                    clear hq hb az E7
                                    have hq := hq'
                                    clear hq'
                                    refine hK'.out _ _ hq (fun hHeld => ?_)
                                    clear hK'
                                    try simp only [Act.put, List.setIfInBounds_toArray, List.set_cons_zero, List.set_cons_succ]
                                    refine wpAnyH_ready (rs := [4]) (by kernel_rfl) (by simp) ?_
                                    refine AllReadyH.cons rfl (fun K' hK' => ?_) AllReadyH.nil
                                    go_simp
                                    go_at_call 33
                                    refine (implSameTable_any z (⟨xp, k, xc, xb, xf⟩ : Tb) _ zw (xw.grew hq)).mono ?_
                                    rintro e v4 ⟨rfl, hb⟩
                                    have hq' := below_app hq hb hq.size
                                    clear hq hb zw
                                    have hq := hq'
                                    clear hq'
                                    refine hK'.out _ _ hq (fun hHeld => ?_)
                                    clear hK'
                                    try simp only [Act.put, List.setIfInBounds_toArray, List.set_cons_zero, List.set_cons_succ]
                                    rw [show smTb z.n (⟨xp, k, xc, xb, xf⟩ : Tb).n z.f (⟨xp, k, xc, xb, xf⟩ : Tb).f = true from E9.out]
                                    clear E9
                                    refine wpAnyH_take (i := 5) (oi := ⟨some 97, _, _, _, _, _⟩) (v := .bool true) rfl (by kernel_rfl) (by kernel_rfl) (by kernel_rfl) (fun _ _ _ h => h) (Or.inl ⟨by kernel_rfl, fun u hSu => by clear hSu; go_simp⟩) hHeld ?_
                                    try simp only [Act.put, List.setIfInBounds_toArray, List.set_cons_zero, List.set_cons_succ]
                                    refine wpAnyH_take (i := 6) (oi := ⟨some 98, _, _, _, _, _⟩) (v := .slice xp k xc) rfl (by kernel_rfl) (by kernel_rfl) (by kernel_rfl) (fun _ _ _ h => h) (Or.inl ⟨by kernel_rfl, fun u hSu => by clear hSu; go_simp⟩) hHeld ?_
                                    try simp only [Act.put, List.setIfInBounds_toArray, List.set_cons_zero, List.set_cons_succ]
                                    refine wpAnyH_take (i := 7) (oi := ⟨some 99, _, _, _, _, _⟩) (v := .int .i64 k) rfl (by kernel_rfl) (by kernel_rfl) (by kernel_rfl) (fun _ _ _ h => h) (Or.inl ⟨by kernel_rfl, fun u hSu => by clear hSu; go_simp⟩) hHeld ?_
                                    try simp only [Act.put, List.setIfInBounds_toArray, List.set_cons_zero, List.set_cons_succ]
                                    refine wpAnyH_take (i := 8) (oi := ⟨some 100, _, _, _, _, _⟩) (v := .slice m.p m.n m.cap) rfl (by kernel_rfl) (by kernel_rfl) (by kernel_rfl) (fun _ _ _ h => h) (Or.inl ⟨by kernel_rfl, fun u hSu => by clear hSu; go_simp⟩) hHeld ?_
                                    try simp only [Act.put, List.setIfInBounds_toArray, List.set_cons_zero, List.set_cons_succ]
                                    refine wpAnyH_take (i := 9) (oi := ⟨some 101, _, _, _, _, _⟩) (v := .int .i64 m.n) rfl (by kernel_rfl) (by kernel_rfl) (by kernel_rfl) (fun _ _ _ h => h) (Or.inl ⟨by kernel_rfl, fun u hSu => by clear hSu; go_simp⟩) hHeld ?_
                                    try simp only [Act.put, List.setIfInBounds_toArray, List.set_cons_zero, List.set_cons_succ]
                                    refine wpAnyH_take (i := 10) (oi := ⟨some 102, _, _, _, _, _⟩) (v := .bool true) rfl (by kernel_rfl) (by kernel_rfl) (by kernel_rfl) (fun _ _ _ h => h) (Or.inl ⟨by kernel_rfl, fun u hSu => by clear hSu; go_simp; first | done | omega | (simp; omega)⟩) hHeld ?_
                                    try simp only [Act.put, List.setIfInBounds_toArray, List.set_cons_zero, List.set_cons_succ]
                                    refine wpAnyH_take (i := 11) (oi := ⟨some 103, _, _, _, _, _⟩) (v := .bool true) rfl (by kernel_rfl) (by kernel_rfl) (by kernel_rfl) (fun _ _ _ h => h) (Or.inl ⟨by kernel_rfl, fun u hSu => by clear hSu; go_simp⟩) hHeld ?_
                                    try simp only [Act.put, List.setIfInBounds_toArray, List.set_cons_zero, List.set_cons_succ]
                                    refine wpAnyH_take (i := 12) (oi := ⟨some 104, _, _, _, _, _⟩) (v := .bool true) rfl (by kernel_rfl) (by kernel_rfl) (by kernel_rfl) (fun _ _ _ h => h) (Or.inl ⟨by kernel_rfl, fun u hSu => by clear hSu; go_simp⟩) hHeld ?_
                                    try simp only [Act.put, List.setIfInBounds_toArray, List.set_cons_zero, List.set_cons_succ]
                                    refine wpAnyH_take (i := 13) (oi := ⟨some 105, _, _, _, _, _⟩) (v := .slice m.p m.n m.cap) rfl (by kernel_rfl) (by kernel_rfl) (by kernel_rfl) (fun _ _ _ h => h) (Or.inl ⟨by kernel_rfl, fun u hSu => by clear hSu; go_simp⟩) hHeld ?_
                                    try simp only [Act.put, List.setIfInBounds_toArray, List.set_cons_zero, List.set_cons_succ]
                                    refine wpAnyH_ready (rs := [14]) (by kernel_rfl) (by simp) ?_
                                    refine AllReadyH.cons rfl (fun K' hK => ?_) AllReadyH.nil
                                    go_simp
                                    go_at_call 31
                                    refine (implTableOk_any m _ (mw.grew hq)).mono ?_
                                    rintro e v14 ⟨rfl, hb⟩
                                    have hq' := below_app hq hb hq.size
                                    clear hq hb
                                    have hq := hq'
                                    clear hq'
                                    refine hK.out _ _ hq (fun hHeld => ?_)
                                    clear hK
                                    try simp only [Act.put, List.setIfInBounds_toArray, List.set_cons_zero, List.set_cons_succ]
                                    rw [hM]
                                    refine wpAnyH_take (i := 15) (oi := ⟨some 107, _, _, _, _, _⟩) (v := .bool true) rfl (by kernel_rfl) (by kernel_rfl) (by kernel_rfl) (fun _ _ _ h => h) (Or.inl ⟨by kernel_rfl, fun u hSu => by clear hSu; go_simp⟩) hHeld ?_
                                    try simp only [Act.put, List.setIfInBounds_toArray, List.set_cons_zero, List.set_cons_succ]
                                    refine wpAnyH_take (i := 16) (oi := ⟨some 108, _, _, _, _, _⟩) (v := .bool true) rfl (by kernel_rfl) (by kernel_rfl) (by kernel_rfl) (fun _ _ _ h => h) (Or.inl ⟨by kernel_rfl, fun u hSu => by clear hSu; go_simp⟩) hHeld ?_
                                    try simp only [Act.put, List.setIfInBounds_toArray, List.set_cons_zero, List.set_cons_succ]
                                    refine wpAnyH_take (i := 17) (oi := ⟨some 109, _, _, _, _, _⟩) (v := undef) rfl (by kernel_rfl) (by kernel_rfl) (by kernel_rfl) (fun _ _ _ h => h) (Or.inr ⟨by kernel_rfl, rfl⟩) hHeld ?_
                                    try simp only [Act.put, List.setIfInBounds_toArray, List.set_cons_zero, List.set_cons_succ]
                                    refine wpAnyH_take (i := 18) (oi := ⟨some 110, _, _, _, _, _⟩) (v := undef) rfl (by kernel_rfl) (by kernel_rfl) (by kernel_rfl) (fun _ _ _ h => h) (Or.inr ⟨by kernel_rfl, rfl⟩) hHeld ?_
                                    try simp only [Act.put, List.setIfInBounds_toArray, List.set_cons_zero, List.set_cons_succ]
                                    refine wpAnyH_take (i := 19) (oi := ⟨some 111, _, _, _, _, _⟩) (v := .bool true) rfl (by kernel_rfl) (by kernel_rfl) (by kernel_rfl) (fun _ _ _ h => h) (Or.inl ⟨by kernel_rfl, fun u hSu => by clear hSu; go_simp⟩) hHeld ?_
                                    try simp only [Act.put, List.setIfInBounds_toArray, List.set_cons_zero, List.set_cons_succ]
                                    refine wpAnyH_take (i := 20) (oi := ⟨some 112, _, _, _, _, _⟩) (v := .bool true) rfl (by kernel_rfl) (by kernel_rfl) (by kernel_rfl) (fun _ _ _ h => h) (Or.inl ⟨by kernel_rfl, fun u hSu => by clear hSu; go_simp⟩) hHeld ?_
                                    try simp only [Act.put, List.setIfInBounds_toArray, List.set_cons_zero, List.set_cons_succ]
                                    refine wpAnyH_take (i := 21) (oi := ⟨some 113, _, _, _, _, _⟩) (v := .bool true) rfl (by kernel_rfl) (by kernel_rfl) (by kernel_rfl) (fun _ _ _ h => h) (Or.inl ⟨by kernel_rfl, fun u hSu => by clear hSu; go_simp⟩) hHeld ?_
                                    try simp only [Act.put, List.setIfInBounds_toArray, List.set_cons_zero, List.set_cons_succ]
                                    refine wpAnyH_take (i := 22) (oi := ⟨some 114, _, _, _, _, _⟩) (v := .slice y.p y.n y.cap) rfl (by kernel_rfl) (by kernel_rfl) (by kernel_rfl) (fun _ _ _ h => h) (Or.inl ⟨by kernel_rfl, fun u hSu => by clear hSu; go_simp⟩) hHeld ?_
                                    try simp only [Act.put, List.setIfInBounds_toArray, List.set_cons_zero, List.set_cons_succ]
                                    refine wpAnyH_take (i := 23) (oi := ⟨some 115, _, _, _, _, _⟩) (v := .int .i64 y.n) rfl (by kernel_rfl) (by kernel_rfl) (by kernel_rfl) (fun _ _ _ h => h) (Or.inl ⟨by kernel_rfl, fun u hSu => by clear hSu; go_simp⟩) hHeld ?_
                                    try simp only [Act.put, List.setIfInBounds_toArray, List.set_cons_zero, List.set_cons_succ]
                                    refine wpAnyH_take (i := 24) (oi := ⟨some 116, _, _, _, _, _⟩) (v := .slice u.p u.n u.cap) rfl (by kernel_rfl) (by kernel_rfl) (by kernel_rfl) (fun _ _ _ h => h) (Or.inl ⟨by kernel_rfl, fun u hSu => by clear hSu; go_simp⟩) hHeld ?_
                                    try simp only [Act.put, List.setIfInBounds_toArray, List.set_cons_zero, List.set_cons_succ]
                                    refine wpAnyH_take (i := 25) (oi := ⟨some 117, _, _, _, _, _⟩) (v := .int .i64 u.n) rfl (by kernel_rfl) (by kernel_rfl) (by kernel_rfl) (fun _ _ _ h => h) (Or.inl ⟨by kernel_rfl, fun u hSu => by clear hSu; go_simp⟩) hHeld ?_
                                    try simp only [Act.put, List.setIfInBounds_toArray, List.set_cons_zero, List.set_cons_succ]
                                    refine wpAnyH_take (i := 26) (oi := ⟨some 118, _, _, _, _, _⟩) (v := .bool true) rfl (by kernel_rfl) (by kernel_rfl) (by kernel_rfl) (fun _ _ _ h => h) (Or.inl ⟨by kernel_rfl, fun u hSu => by clear hSu; go_simp; first | done | (rw [y5.out]; go_simp; done) | (simp [y5.out]; done) | (have := y5.out; simp; omega)⟩) hHeld ?_
                                    try simp only [Act.put, List.setIfInBounds_toArray, List.set_cons_zero, List.set_cons_succ]
                                    refine wpAnyH_take (i := 27) (oi := ⟨some 119, _, _, _, _, _⟩) (v := .bool true) rfl (by kernel_rfl) (by kernel_rfl) (by kernel_rfl) (fun _ _ _ h => h) (Or.inl ⟨by kernel_rfl, fun u hSu => by clear hSu; go_simp⟩) hHeld ?_
                                    try simp only [Act.put, List.setIfInBounds_toArray, List.set_cons_zero, List.set_cons_succ]
                                    refine wpAnyH_take (i := 28) (oi := ⟨some 120, _, _, _, _, _⟩) (v := .bool true) rfl (by kernel_rfl) (by kernel_rfl) (by kernel_rfl) (fun _ _ _ h => h) (Or.inl ⟨by kernel_rfl, fun u hSu => by clear hSu; go_simp⟩) hHeld ?_
                                    try simp only [Act.put, List.setIfInBounds_toArray, List.set_cons_zero, List.set_cons_succ]
                                    refine wpAnyH_take (i := 29) (oi := ⟨some 121, _, _, _, _, _⟩) (v := .int .i64 K) rfl (by kernel_rfl) (by kernel_rfl) (by kernel_rfl) (fun _ _ _ h => h) (Or.inl ⟨by kernel_rfl, fun u hSu => by clear hSu; go_simp⟩) hHeld ?_
                                    try simp only [Act.put, List.setIfInBounds_toArray, List.set_cons_zero, List.set_cons_succ]
                                    refine wpAnyH_take (i := 30) (oi := ⟨some 122, _, _, _, _, _⟩) (v := .bool false) rfl (by kernel_rfl) (by kernel_rfl) (by kernel_rfl) (fun _ _ _ h => h) (Or.inl ⟨by kernel_rfl, fun u hSu => by clear hSu; go_simp; first | done | omega | (simp; omega)⟩) hHeld ?_
                                    try simp only [Act.put, List.setIfInBounds_toArray, List.set_cons_zero, List.set_cons_succ]
                                    refine wpAnyH_take (i := 31) (oi := ⟨some 123, _, _, _, _, _⟩) (v := .bool false) rfl (by kernel_rfl) (by kernel_rfl) (by kernel_rfl) (fun _ _ _ h => h) (Or.inl ⟨by kernel_rfl, fun u hSu => by clear hSu; go_simp⟩) hHeld ?_
                                    try simp only [Act.put, List.setIfInBounds_toArray, List.set_cons_zero, List.set_cons_succ]
                                    refine wpAnyH_take (i := 32) (oi := ⟨some 124, _, _, _, _, _⟩) (v := .slice y.p y.n y.cap) rfl (by kernel_rfl) (by kernel_rfl) (by kernel_rfl) (fun _ _ _ h => h) (Or.inl ⟨by kernel_rfl, fun u hSu => by clear hSu; go_simp⟩) hHeld ?_
                                    try simp only [Act.put, List.setIfInBounds_toArray, List.set_cons_zero, List.set_cons_succ]
                                    refine wpAnyH_take (i := 33) (oi := ⟨some 125, _, _, _, _, _⟩) (v := .int .i64 K) rfl (by kernel_rfl) (by kernel_rfl) (by kernel_rfl) (fun _ _ _ h => h) (Or.inl ⟨by kernel_rfl, fun u hSu => by clear hSu; go_simp⟩) hHeld ?_
                                    try simp only [Act.put, List.setIfInBounds_toArray, List.set_cons_zero, List.set_cons_succ]
                                    refine wpAnyH_take (i := 34) (oi := ⟨some 126, _, _, _, _, _⟩) (v := .pointer (some ⟨y.b, o2 + K * 22, none⟩)) rfl (by kernel_rfl) (by kernel_rfl) (by kernel_rfl) (fun _ _ _ h => h) (Or.inl ⟨by kernel_rfl, fun u hSu => by clear hSu; go_simp; first | done | (rw [hp.out]; go_simp)⟩) hHeld ?_
                                    try simp only [Act.put, List.setIfInBounds_toArray, List.set_cons_zero, List.set_cons_succ]
                                    refine wpAnyH_take (i := 35) (oi := ⟨some 127, _, _, _, _, _⟩) (v := .agg #[.int .i64 z9.id, .int .i64 z9.si, .int .i64 z9.sr, .int .i64 z9.cl, .int .i64 z9.pt.kd, .int .i64 z9.pt.wh, .int .i64 z9.pt.sr, .int .i64 z9.pt.tr, .int .i64 z9.pt.pi, .int .i64 z9.pt.le, .int .i64 z9.pt.zo, .int .i64 z9.gd.kd, .int .i64 z9.gd.nn, .int .i64 z9.ac.kd, .int .i64 z9.ac.nn, .int .i64 z9.ac.pi, .int .i64 z9.ac.si, .int .i64 z9.ac.zo, .bool z9.ac.be, .slice z9.ac.la z9.ac.ln z9.ac.lcap, .int .i64 z9.un, .int .i64 z9.le]) rfl (by kernel_rfl) (by kernel_rfl) (by kernel_rfl) (fun _ _ _ h => h) (yieldsIf_load_mid (by kernel_rfl) 32 (.tmp 126) rfl (y.b) (o2 + K * 22) (by rfl) [.int .i64 z9.id, .int .i64 z9.si, .int .i64 z9.sr, .int .i64 z9.cl, .int .i64 z9.pt.kd, .int .i64 z9.pt.wh, .int .i64 z9.pt.sr, .int .i64 z9.pt.tr, .int .i64 z9.pt.pi, .int .i64 z9.pt.le, .int .i64 z9.pt.zo, .int .i64 z9.gd.kd, .int .i64 z9.gd.nn, .int .i64 z9.ac.kd, .int .i64 z9.ac.nn, .int .i64 z9.ac.pi, .int .i64 z9.ac.si, .int .i64 z9.ac.zo, .bool z9.ac.be, .slice z9.ac.la z9.ac.ln z9.ac.lcap, .int .i64 z9.un, .int .i64 z9.le] _ (fun u hu => rangeAt_below ra hu) Tryz.underlying32 rfl (by kernel_rfl)) hHeld ?_
                                    try simp only [Act.put, List.setIfInBounds_toArray, List.set_cons_zero, List.set_cons_succ]
                                    refine wpAnyH_take (i := 36) (oi := ⟨some 128, _, _, _, _, _⟩) (v := .agg #[.int .i64 v.id, .int .i64 v.si, .int .i64 v.sr, .int .i64 v.cl, .int .i64 v.pt.kd, .int .i64 v.pt.wh, .int .i64 v.pt.sr, .int .i64 v.pt.tr, .int .i64 v.pt.pi, .int .i64 v.pt.le, .int .i64 v.pt.zo, .int .i64 v.gd.kd, .int .i64 v.gd.nn, .int .i64 v.ac.kd, .int .i64 v.ac.nn, .int .i64 v.ac.pi, .int .i64 v.ac.si, .int .i64 v.ac.zo, .bool v.ac.be, .slice v.ac.la v.ac.ln v.ac.lcap, .int .i64 v.un, .int .i64 v.le]) rfl (by kernel_rfl) (by kernel_rfl) (by kernel_rfl) (fun _ _ _ h => h) (yieldsIf_load_mid (by kernel_rfl) 32 (.tmp 10) rfl (gx) (0) (by rfl) [.int .i64 v.id, .int .i64 v.si, .int .i64 v.sr, .int .i64 v.cl, .int .i64 v.pt.kd, .int .i64 v.pt.wh, .int .i64 v.pt.sr, .int .i64 v.pt.tr, .int .i64 v.pt.pi, .int .i64 v.pt.le, .int .i64 v.pt.zo, .int .i64 v.gd.kd, .int .i64 v.gd.nn, .int .i64 v.ac.kd, .int .i64 v.ac.nn, .int .i64 v.ac.pi, .int .i64 v.ac.si, .int .i64 v.ac.zo, .bool v.ac.be, .slice v.ac.la v.ac.ln v.ac.lcap, .int .i64 v.un, .int .i64 v.le] _ (fun u hu => rangeAt_below rx hu) Tryz.underlying32 rfl (by kernel_rfl)) hHeld ?_
                                    try simp only [Act.put, List.setIfInBounds_toArray, List.set_cons_zero, List.set_cons_succ]
                                    refine wpAnyH_ready (rs := [37]) (by kernel_rfl) (by simp) ?_
                                    refine AllReadyH.cons rfl (fun K' hK => ?_) AllReadyH.nil
                                    go_simp
                                    go_at_call 16
                                    refine (implSameEffect_any z9 v _ (efw_grew zw9 hq) (efw_grew vw hq) zl9).mono ?_
                                    rintro e v37 ⟨rfl, hb⟩
                                    have hq' := below_app hq hb hq.size
                                    clear hq hb
                                    have hq := hq'
                                    clear hq'
                                    refine hK.out _ _ hq (fun hHeld => ?_)
                                    clear hK
                                    try simp only [Act.put, List.setIfInBounds_toArray, List.set_cons_zero, List.set_cons_succ]
                                    rw [hS9.out]
                                    refine wpAnyH_take (i := 38) (oi := ⟨some 130, _, _, _, _, _⟩) (v := .bool true) rfl (by kernel_rfl) (by kernel_rfl) (by kernel_rfl) (fun _ _ _ h => h) (Or.inl ⟨by kernel_rfl, fun u hSu => by clear hSu; go_simp⟩) hHeld ?_
                                    try simp only [Act.put, List.setIfInBounds_toArray, List.set_cons_zero, List.set_cons_succ]
                                    refine wpAnyH_take (i := 39) (oi := ⟨some 131, _, _, _, _, _⟩) (v := .bool true) rfl (by kernel_rfl) (by kernel_rfl) (by kernel_rfl) (fun _ _ _ h => h) (Or.inl ⟨by kernel_rfl, fun u hSu => by clear hSu; go_simp⟩) hHeld ?_
                                    try simp only [Act.put, List.setIfInBounds_toArray, List.set_cons_zero, List.set_cons_succ]
                                    refine wpAnyH_take (i := 40) (oi := ⟨some 2, _, _, _, _, _⟩) (v := .bool true) rfl (by kernel_rfl) (by kernel_rfl) (by kernel_rfl) (fun _ _ _ h => h) (Or.inl ⟨by kernel_rfl, fun u hSu => by clear hSu; go_simp⟩) hHeld ?_
                                    try simp only [Act.put, List.setIfInBounds_toArray, List.set_cons_zero, List.set_cons_succ]
                                    refine wpAnyH_done (by kernel_rfl) ?_ _
                                    clear hHeld
                                    go_wp2
                                    go_ret
                                    exact ⟨rfl, below_app hB hq hB.size⟩
                                  case true =>
                                    go_upto_region 17 with fail
                                    have hq : Below u17.heap.size u17 u17.drew := (Below.refl _ u17).drew
                                    refine wp_region_held_drew (S := fun u : World => Below u17.heap.size u17 u) (by kernel_rfl) hq (fun hHeld => ?_)
                                    refine wpAnyH_take (i := 0) (oi := ⟨some 92, _, _, _, _, _⟩) (v := .slice xp k xc) rfl (by kernel_rfl) (by kernel_rfl) (by kernel_rfl) (fun _ _ _ h => h) (Or.inl ⟨by kernel_rfl, fun u hSu => by clear hSu; go_simp⟩) hHeld ?_
                                    try simp only [Act.put, List.setIfInBounds_toArray, List.set_cons_zero, List.set_cons_succ]
                                    refine wpAnyH_take (i := 1) (oi := ⟨some 93, _, _, _, _, _⟩) (v := .int .i64 c) rfl (by kernel_rfl) (by kernel_rfl) (by kernel_rfl) (fun _ _ _ h => h) (Or.inl ⟨by kernel_rfl, fun u hSu => by clear hSu; go_simp⟩) hHeld ?_
                                    try simp only [Act.put, List.setIfInBounds_toArray, List.set_cons_zero, List.set_cons_succ]
                                    refine wpAnyH_take (i := 3) (oi := ⟨some 95, _, _, _, _, _⟩) (v := .slice xp k xc) rfl (by kernel_rfl) (by kernel_rfl) (by kernel_rfl) (fun _ _ _ h => h) (Or.inl ⟨by kernel_rfl, fun u hSu => by clear hSu; go_simp⟩) hHeld ?_
                                    try simp only [Act.put, List.setIfInBounds_toArray, List.set_cons_zero, List.set_cons_succ]
                                    refine wpAnyH_ready (rs := [2]) (by kernel_rfl) (by simp) ?_
                                    refine AllReadyH.cons rfl (fun K' hK' => ?_) AllReadyH.nil
                                    go_simp
                                    go_at_call 28
                                    refine (implExpire_any (⟨xp, k, xc, xb, xf⟩ : Tb) c _ (xw.grew hq) (by dsimp only; omega)).mono ?_
                                    rintro e v2 ⟨z, rfl, hb, az⟩
                                    have hq' := below_app hq hb hq.size
                                    dsimp only at az
                                    have E9 : Hid (smTb z.n k z.f xf = true) := E7.out _ _ z az
                                    have zw : z.okW v2 := az.okW (fun i hi => (xw.grew hq).2.2.2 _ (exL_lt xf c k _ (by rw [List.getD_eq_getElem?_getD, List.getElem?_eq_getElem hi]; exact List.getElem_mem hi)))
                                    clear hq hb az E7
                                    have hq := hq'
                                    clear hq'
                                    refine hK'.out _ _ hq (fun hHeld => ?_)
                                    clear hK'
                                    try simp only [Act.put, List.setIfInBounds_toArray, List.set_cons_zero, List.set_cons_succ]
                                    refine wpAnyH_ready (rs := [4]) (by kernel_rfl) (by simp) ?_
                                    refine AllReadyH.cons rfl (fun K' hK' => ?_) AllReadyH.nil
                                    go_simp
                                    go_at_call 33
                                    refine (implSameTable_any z (⟨xp, k, xc, xb, xf⟩ : Tb) _ zw (xw.grew hq)).mono ?_
                                    rintro e v4 ⟨rfl, hb⟩
                                    have hq' := below_app hq hb hq.size
                                    clear hq hb zw
                                    have hq := hq'
                                    clear hq'
                                    refine hK'.out _ _ hq (fun hHeld => ?_)
                                    clear hK'
                                    try simp only [Act.put, List.setIfInBounds_toArray, List.set_cons_zero, List.set_cons_succ]
                                    rw [show smTb z.n (⟨xp, k, xc, xb, xf⟩ : Tb).n z.f (⟨xp, k, xc, xb, xf⟩ : Tb).f = true from E9.out]
                                    clear E9
                                    refine wpAnyH_take (i := 5) (oi := ⟨some 97, _, _, _, _, _⟩) (v := .bool true) rfl (by kernel_rfl) (by kernel_rfl) (by kernel_rfl) (fun _ _ _ h => h) (Or.inl ⟨by kernel_rfl, fun u hSu => by clear hSu; go_simp⟩) hHeld ?_
                                    try simp only [Act.put, List.setIfInBounds_toArray, List.set_cons_zero, List.set_cons_succ]
                                    refine wpAnyH_take (i := 6) (oi := ⟨some 98, _, _, _, _, _⟩) (v := .slice xp k xc) rfl (by kernel_rfl) (by kernel_rfl) (by kernel_rfl) (fun _ _ _ h => h) (Or.inl ⟨by kernel_rfl, fun u hSu => by clear hSu; go_simp⟩) hHeld ?_
                                    try simp only [Act.put, List.setIfInBounds_toArray, List.set_cons_zero, List.set_cons_succ]
                                    refine wpAnyH_take (i := 7) (oi := ⟨some 99, _, _, _, _, _⟩) (v := .int .i64 k) rfl (by kernel_rfl) (by kernel_rfl) (by kernel_rfl) (fun _ _ _ h => h) (Or.inl ⟨by kernel_rfl, fun u hSu => by clear hSu; go_simp⟩) hHeld ?_
                                    try simp only [Act.put, List.setIfInBounds_toArray, List.set_cons_zero, List.set_cons_succ]
                                    refine wpAnyH_take (i := 8) (oi := ⟨some 100, _, _, _, _, _⟩) (v := .slice m.p m.n m.cap) rfl (by kernel_rfl) (by kernel_rfl) (by kernel_rfl) (fun _ _ _ h => h) (Or.inl ⟨by kernel_rfl, fun u hSu => by clear hSu; go_simp⟩) hHeld ?_
                                    try simp only [Act.put, List.setIfInBounds_toArray, List.set_cons_zero, List.set_cons_succ]
                                    refine wpAnyH_take (i := 9) (oi := ⟨some 101, _, _, _, _, _⟩) (v := .int .i64 m.n) rfl (by kernel_rfl) (by kernel_rfl) (by kernel_rfl) (fun _ _ _ h => h) (Or.inl ⟨by kernel_rfl, fun u hSu => by clear hSu; go_simp⟩) hHeld ?_
                                    try simp only [Act.put, List.setIfInBounds_toArray, List.set_cons_zero, List.set_cons_succ]
                                    refine wpAnyH_take (i := 10) (oi := ⟨some 102, _, _, _, _, _⟩) (v := .bool true) rfl (by kernel_rfl) (by kernel_rfl) (by kernel_rfl) (fun _ _ _ h => h) (Or.inl ⟨by kernel_rfl, fun u hSu => by clear hSu; go_simp; first | done | omega | (simp; omega)⟩) hHeld ?_
                                    try simp only [Act.put, List.setIfInBounds_toArray, List.set_cons_zero, List.set_cons_succ]
                                    refine wpAnyH_take (i := 11) (oi := ⟨some 103, _, _, _, _, _⟩) (v := .bool true) rfl (by kernel_rfl) (by kernel_rfl) (by kernel_rfl) (fun _ _ _ h => h) (Or.inl ⟨by kernel_rfl, fun u hSu => by clear hSu; go_simp⟩) hHeld ?_
                                    try simp only [Act.put, List.setIfInBounds_toArray, List.set_cons_zero, List.set_cons_succ]
                                    refine wpAnyH_take (i := 12) (oi := ⟨some 104, _, _, _, _, _⟩) (v := .bool true) rfl (by kernel_rfl) (by kernel_rfl) (by kernel_rfl) (fun _ _ _ h => h) (Or.inl ⟨by kernel_rfl, fun u hSu => by clear hSu; go_simp⟩) hHeld ?_
                                    try simp only [Act.put, List.setIfInBounds_toArray, List.set_cons_zero, List.set_cons_succ]
                                    refine wpAnyH_take (i := 13) (oi := ⟨some 105, _, _, _, _, _⟩) (v := .slice m.p m.n m.cap) rfl (by kernel_rfl) (by kernel_rfl) (by kernel_rfl) (fun _ _ _ h => h) (Or.inl ⟨by kernel_rfl, fun u hSu => by clear hSu; go_simp⟩) hHeld ?_
                                    try simp only [Act.put, List.setIfInBounds_toArray, List.set_cons_zero, List.set_cons_succ]
                                    refine wpAnyH_ready (rs := [14]) (by kernel_rfl) (by simp) ?_
                                    refine AllReadyH.cons rfl (fun K' hK => ?_) AllReadyH.nil
                                    go_simp
                                    go_at_call 31
                                    refine (implTableOk_any m _ (mw.grew hq)).mono ?_
                                    rintro e v14 ⟨rfl, hb⟩
                                    have hq' := below_app hq hb hq.size
                                    clear hq hb
                                    have hq := hq'
                                    clear hq'
                                    refine hK.out _ _ hq (fun hHeld => ?_)
                                    clear hK
                                    try simp only [Act.put, List.setIfInBounds_toArray, List.set_cons_zero, List.set_cons_succ]
                                    rw [hM]
                                    refine wpAnyH_take (i := 15) (oi := ⟨some 107, _, _, _, _, _⟩) (v := .bool false) rfl (by kernel_rfl) (by kernel_rfl) (by kernel_rfl) (fun _ _ _ h => h) (Or.inl ⟨by kernel_rfl, fun u hSu => by clear hSu; go_simp⟩) hHeld ?_
                                    try simp only [Act.put, List.setIfInBounds_toArray, List.set_cons_zero, List.set_cons_succ]
                                    refine wpAnyH_take (i := 16) (oi := ⟨some 108, _, _, _, _, _⟩) (v := .bool false) rfl (by kernel_rfl) (by kernel_rfl) (by kernel_rfl) (fun _ _ _ h => h) (Or.inl ⟨by kernel_rfl, fun u hSu => by clear hSu; go_simp⟩) hHeld ?_
                                    try simp only [Act.put, List.setIfInBounds_toArray, List.set_cons_zero, List.set_cons_succ]
                                    refine wpAnyH_take (i := 17) (oi := ⟨some 109, _, _, _, _, _⟩) (v := .slice xp k xc) rfl (by kernel_rfl) (by kernel_rfl) (by kernel_rfl) (fun _ _ _ h => h) (Or.inl ⟨by kernel_rfl, fun u hSu => by clear hSu; go_simp⟩) hHeld ?_
                                    try simp only [Act.put, List.setIfInBounds_toArray, List.set_cons_zero, List.set_cons_succ]
                                    refine wpAnyH_ready (rs := [18]) (by kernel_rfl) (by simp) ?_
                                    refine AllReadyH.cons rfl (fun K' hK => ?_) AllReadyH.nil
                                    go_simp
                                    go_at_call 31
                                    refine (implTableOk_any (⟨xp, k, xc, xb, xf⟩ : Tb) _ (xw.grew hq)).mono ?_
                                    rintro e v18 ⟨rfl, hb⟩
                                    have hq' := below_app hq hb hq.size
                                    clear hq hb
                                    have hq := hq'
                                    clear hq'
                                    refine hK.out _ _ hq (fun hHeld => ?_)
                                    clear hK
                                    try simp only [Act.put, List.setIfInBounds_toArray, List.set_cons_zero, List.set_cons_succ]
                                    rw [show okTb (⟨xp, k, xc, xb, xf⟩ : Tb).n (⟨xp, k, xc, xb, xf⟩ : Tb).f = true from xok.out hM]
                                    refine wpAnyH_take (i := 19) (oi := ⟨some 111, _, _, _, _, _⟩) (v := .bool true) rfl (by kernel_rfl) (by kernel_rfl) (by kernel_rfl) (fun _ _ _ h => h) (Or.inl ⟨by kernel_rfl, fun u hSu => by clear hSu; go_simp⟩) hHeld ?_
                                    try simp only [Act.put, List.setIfInBounds_toArray, List.set_cons_zero, List.set_cons_succ]
                                    refine wpAnyH_take (i := 20) (oi := ⟨some 112, _, _, _, _, _⟩) (v := .bool true) rfl (by kernel_rfl) (by kernel_rfl) (by kernel_rfl) (fun _ _ _ h => h) (Or.inl ⟨by kernel_rfl, fun u hSu => by clear hSu; go_simp⟩) hHeld ?_
                                    try simp only [Act.put, List.setIfInBounds_toArray, List.set_cons_zero, List.set_cons_succ]
                                    refine wpAnyH_take (i := 21) (oi := ⟨some 113, _, _, _, _, _⟩) (v := .bool true) rfl (by kernel_rfl) (by kernel_rfl) (by kernel_rfl) (fun _ _ _ h => h) (Or.inl ⟨by kernel_rfl, fun u hSu => by clear hSu; go_simp⟩) hHeld ?_
                                    try simp only [Act.put, List.setIfInBounds_toArray, List.set_cons_zero, List.set_cons_succ]
                                    refine wpAnyH_take (i := 22) (oi := ⟨some 114, _, _, _, _, _⟩) (v := .slice y.p y.n y.cap) rfl (by kernel_rfl) (by kernel_rfl) (by kernel_rfl) (fun _ _ _ h => h) (Or.inl ⟨by kernel_rfl, fun u hSu => by clear hSu; go_simp⟩) hHeld ?_
                                    try simp only [Act.put, List.setIfInBounds_toArray, List.set_cons_zero, List.set_cons_succ]
                                    refine wpAnyH_take (i := 23) (oi := ⟨some 115, _, _, _, _, _⟩) (v := .int .i64 y.n) rfl (by kernel_rfl) (by kernel_rfl) (by kernel_rfl) (fun _ _ _ h => h) (Or.inl ⟨by kernel_rfl, fun u hSu => by clear hSu; go_simp⟩) hHeld ?_
                                    try simp only [Act.put, List.setIfInBounds_toArray, List.set_cons_zero, List.set_cons_succ]
                                    refine wpAnyH_take (i := 24) (oi := ⟨some 116, _, _, _, _, _⟩) (v := .slice u.p u.n u.cap) rfl (by kernel_rfl) (by kernel_rfl) (by kernel_rfl) (fun _ _ _ h => h) (Or.inl ⟨by kernel_rfl, fun u hSu => by clear hSu; go_simp⟩) hHeld ?_
                                    try simp only [Act.put, List.setIfInBounds_toArray, List.set_cons_zero, List.set_cons_succ]
                                    refine wpAnyH_take (i := 25) (oi := ⟨some 117, _, _, _, _, _⟩) (v := .int .i64 u.n) rfl (by kernel_rfl) (by kernel_rfl) (by kernel_rfl) (fun _ _ _ h => h) (Or.inl ⟨by kernel_rfl, fun u hSu => by clear hSu; go_simp⟩) hHeld ?_
                                    try simp only [Act.put, List.setIfInBounds_toArray, List.set_cons_zero, List.set_cons_succ]
                                    refine wpAnyH_take (i := 26) (oi := ⟨some 118, _, _, _, _, _⟩) (v := .bool true) rfl (by kernel_rfl) (by kernel_rfl) (by kernel_rfl) (fun _ _ _ h => h) (Or.inl ⟨by kernel_rfl, fun u hSu => by clear hSu; go_simp; first | done | (rw [y5.out]; go_simp; done) | (simp [y5.out]; done) | (have := y5.out; simp; omega)⟩) hHeld ?_
                                    try simp only [Act.put, List.setIfInBounds_toArray, List.set_cons_zero, List.set_cons_succ]
                                    refine wpAnyH_take (i := 27) (oi := ⟨some 119, _, _, _, _, _⟩) (v := .bool true) rfl (by kernel_rfl) (by kernel_rfl) (by kernel_rfl) (fun _ _ _ h => h) (Or.inl ⟨by kernel_rfl, fun u hSu => by clear hSu; go_simp⟩) hHeld ?_
                                    try simp only [Act.put, List.setIfInBounds_toArray, List.set_cons_zero, List.set_cons_succ]
                                    refine wpAnyH_take (i := 28) (oi := ⟨some 120, _, _, _, _, _⟩) (v := .bool true) rfl (by kernel_rfl) (by kernel_rfl) (by kernel_rfl) (fun _ _ _ h => h) (Or.inl ⟨by kernel_rfl, fun u hSu => by clear hSu; go_simp⟩) hHeld ?_
                                    try simp only [Act.put, List.setIfInBounds_toArray, List.set_cons_zero, List.set_cons_succ]
                                    refine wpAnyH_take (i := 29) (oi := ⟨some 121, _, _, _, _, _⟩) (v := .int .i64 K) rfl (by kernel_rfl) (by kernel_rfl) (by kernel_rfl) (fun _ _ _ h => h) (Or.inl ⟨by kernel_rfl, fun u hSu => by clear hSu; go_simp⟩) hHeld ?_
                                    try simp only [Act.put, List.setIfInBounds_toArray, List.set_cons_zero, List.set_cons_succ]
                                    refine wpAnyH_take (i := 30) (oi := ⟨some 122, _, _, _, _, _⟩) (v := .bool false) rfl (by kernel_rfl) (by kernel_rfl) (by kernel_rfl) (fun _ _ _ h => h) (Or.inl ⟨by kernel_rfl, fun u hSu => by clear hSu; go_simp; first | done | omega | (simp; omega)⟩) hHeld ?_
                                    try simp only [Act.put, List.setIfInBounds_toArray, List.set_cons_zero, List.set_cons_succ]
                                    refine wpAnyH_take (i := 31) (oi := ⟨some 123, _, _, _, _, _⟩) (v := .bool false) rfl (by kernel_rfl) (by kernel_rfl) (by kernel_rfl) (fun _ _ _ h => h) (Or.inl ⟨by kernel_rfl, fun u hSu => by clear hSu; go_simp⟩) hHeld ?_
                                    try simp only [Act.put, List.setIfInBounds_toArray, List.set_cons_zero, List.set_cons_succ]
                                    refine wpAnyH_take (i := 32) (oi := ⟨some 124, _, _, _, _, _⟩) (v := .slice y.p y.n y.cap) rfl (by kernel_rfl) (by kernel_rfl) (by kernel_rfl) (fun _ _ _ h => h) (Or.inl ⟨by kernel_rfl, fun u hSu => by clear hSu; go_simp⟩) hHeld ?_
                                    try simp only [Act.put, List.setIfInBounds_toArray, List.set_cons_zero, List.set_cons_succ]
                                    refine wpAnyH_take (i := 33) (oi := ⟨some 125, _, _, _, _, _⟩) (v := .int .i64 K) rfl (by kernel_rfl) (by kernel_rfl) (by kernel_rfl) (fun _ _ _ h => h) (Or.inl ⟨by kernel_rfl, fun u hSu => by clear hSu; go_simp⟩) hHeld ?_
                                    try simp only [Act.put, List.setIfInBounds_toArray, List.set_cons_zero, List.set_cons_succ]
                                    refine wpAnyH_take (i := 34) (oi := ⟨some 126, _, _, _, _, _⟩) (v := .pointer (some ⟨y.b, o2 + K * 22, none⟩)) rfl (by kernel_rfl) (by kernel_rfl) (by kernel_rfl) (fun _ _ _ h => h) (Or.inl ⟨by kernel_rfl, fun u hSu => by clear hSu; go_simp; first | done | (rw [hp.out]; go_simp)⟩) hHeld ?_
                                    try simp only [Act.put, List.setIfInBounds_toArray, List.set_cons_zero, List.set_cons_succ]
                                    refine wpAnyH_take (i := 35) (oi := ⟨some 127, _, _, _, _, _⟩) (v := .agg #[.int .i64 z9.id, .int .i64 z9.si, .int .i64 z9.sr, .int .i64 z9.cl, .int .i64 z9.pt.kd, .int .i64 z9.pt.wh, .int .i64 z9.pt.sr, .int .i64 z9.pt.tr, .int .i64 z9.pt.pi, .int .i64 z9.pt.le, .int .i64 z9.pt.zo, .int .i64 z9.gd.kd, .int .i64 z9.gd.nn, .int .i64 z9.ac.kd, .int .i64 z9.ac.nn, .int .i64 z9.ac.pi, .int .i64 z9.ac.si, .int .i64 z9.ac.zo, .bool z9.ac.be, .slice z9.ac.la z9.ac.ln z9.ac.lcap, .int .i64 z9.un, .int .i64 z9.le]) rfl (by kernel_rfl) (by kernel_rfl) (by kernel_rfl) (fun _ _ _ h => h) (yieldsIf_load_mid (by kernel_rfl) 32 (.tmp 126) rfl (y.b) (o2 + K * 22) (by rfl) [.int .i64 z9.id, .int .i64 z9.si, .int .i64 z9.sr, .int .i64 z9.cl, .int .i64 z9.pt.kd, .int .i64 z9.pt.wh, .int .i64 z9.pt.sr, .int .i64 z9.pt.tr, .int .i64 z9.pt.pi, .int .i64 z9.pt.le, .int .i64 z9.pt.zo, .int .i64 z9.gd.kd, .int .i64 z9.gd.nn, .int .i64 z9.ac.kd, .int .i64 z9.ac.nn, .int .i64 z9.ac.pi, .int .i64 z9.ac.si, .int .i64 z9.ac.zo, .bool z9.ac.be, .slice z9.ac.la z9.ac.ln z9.ac.lcap, .int .i64 z9.un, .int .i64 z9.le] _ (fun u hu => rangeAt_below ra hu) Tryz.underlying32 rfl (by kernel_rfl)) hHeld ?_
                                    try simp only [Act.put, List.setIfInBounds_toArray, List.set_cons_zero, List.set_cons_succ]
                                    refine wpAnyH_take (i := 36) (oi := ⟨some 128, _, _, _, _, _⟩) (v := .agg #[.int .i64 v.id, .int .i64 v.si, .int .i64 v.sr, .int .i64 v.cl, .int .i64 v.pt.kd, .int .i64 v.pt.wh, .int .i64 v.pt.sr, .int .i64 v.pt.tr, .int .i64 v.pt.pi, .int .i64 v.pt.le, .int .i64 v.pt.zo, .int .i64 v.gd.kd, .int .i64 v.gd.nn, .int .i64 v.ac.kd, .int .i64 v.ac.nn, .int .i64 v.ac.pi, .int .i64 v.ac.si, .int .i64 v.ac.zo, .bool v.ac.be, .slice v.ac.la v.ac.ln v.ac.lcap, .int .i64 v.un, .int .i64 v.le]) rfl (by kernel_rfl) (by kernel_rfl) (by kernel_rfl) (fun _ _ _ h => h) (yieldsIf_load_mid (by kernel_rfl) 32 (.tmp 10) rfl (gx) (0) (by rfl) [.int .i64 v.id, .int .i64 v.si, .int .i64 v.sr, .int .i64 v.cl, .int .i64 v.pt.kd, .int .i64 v.pt.wh, .int .i64 v.pt.sr, .int .i64 v.pt.tr, .int .i64 v.pt.pi, .int .i64 v.pt.le, .int .i64 v.pt.zo, .int .i64 v.gd.kd, .int .i64 v.gd.nn, .int .i64 v.ac.kd, .int .i64 v.ac.nn, .int .i64 v.ac.pi, .int .i64 v.ac.si, .int .i64 v.ac.zo, .bool v.ac.be, .slice v.ac.la v.ac.ln v.ac.lcap, .int .i64 v.un, .int .i64 v.le] _ (fun u hu => rangeAt_below rx hu) Tryz.underlying32 rfl (by kernel_rfl)) hHeld ?_
                                    try simp only [Act.put, List.setIfInBounds_toArray, List.set_cons_zero, List.set_cons_succ]
                                    refine wpAnyH_ready (rs := [37]) (by kernel_rfl) (by simp) ?_
                                    refine AllReadyH.cons rfl (fun K' hK => ?_) AllReadyH.nil
                                    go_simp
                                    go_at_call 16
                                    refine (implSameEffect_any z9 v _ (efw_grew zw9 hq) (efw_grew vw hq) zl9).mono ?_
                                    rintro e v37 ⟨rfl, hb⟩
                                    have hq' := below_app hq hb hq.size
                                    clear hq hb
                                    have hq := hq'
                                    clear hq'
                                    refine hK.out _ _ hq (fun hHeld => ?_)
                                    clear hK
                                    try simp only [Act.put, List.setIfInBounds_toArray, List.set_cons_zero, List.set_cons_succ]
                                    rw [hS9.out]
                                    refine wpAnyH_take (i := 38) (oi := ⟨some 130, _, _, _, _, _⟩) (v := .bool true) rfl (by kernel_rfl) (by kernel_rfl) (by kernel_rfl) (fun _ _ _ h => h) (Or.inl ⟨by kernel_rfl, fun u hSu => by clear hSu; go_simp⟩) hHeld ?_
                                    try simp only [Act.put, List.setIfInBounds_toArray, List.set_cons_zero, List.set_cons_succ]
                                    refine wpAnyH_take (i := 39) (oi := ⟨some 131, _, _, _, _, _⟩) (v := .bool true) rfl (by kernel_rfl) (by kernel_rfl) (by kernel_rfl) (fun _ _ _ h => h) (Or.inl ⟨by kernel_rfl, fun u hSu => by clear hSu; go_simp⟩) hHeld ?_
                                    try simp only [Act.put, List.setIfInBounds_toArray, List.set_cons_zero, List.set_cons_succ]
                                    refine wpAnyH_take (i := 40) (oi := ⟨some 2, _, _, _, _, _⟩) (v := .bool true) rfl (by kernel_rfl) (by kernel_rfl) (by kernel_rfl) (fun _ _ _ h => h) (Or.inl ⟨by kernel_rfl, fun u hSu => by clear hSu; go_simp⟩) hHeld ?_
                                    try simp only [Act.put, List.setIfInBounds_toArray, List.set_cons_zero, List.set_cons_succ]
                                    refine wpAnyH_done (by kernel_rfl) ?_ _
                                    clear hHeld
                                    go_wp2
                                    go_ret
                                    exact ⟨rfl, below_app hB hq hB.size⟩

set_option maxRecDepth 100000 in
theorem lifted (os : Os) (started : os.Started) (H : Type) (enc : TypeId × Value → H) :
    ReturnsInHanded {} Tryz.checked os 4 .any (Rows.fnTablesSpec.pre6 enc Tryz.prog Tryz.f4 Rows.fnTablesRow.domain false) (Rows.fnTablesSpec.post enc Tryz.prog Tryz.f4 false true false false) := by
  refine returnsInHanded_of_change (C := Tryz.checked) own started (by kernel_rfl) Tryz.func4
    (ChangeSpec.witness6 (enc := enc) (C := Tryz.checked) false ⟨#[], #[.slice none 0 0], []⟩ 8 (by kernel_rfl) (by kernel_rfl) (by kernel_rfl) (by kernel_rfl)) ?_
  intro W base args ds gs before hval0 hW hcnd _
  have hval : ∀ (j : Nat) t v, Tryz.f4.params[j]? = some t → args[j]? = some v → Value.okWide Tryz.prog W .any base t v := hval0
  have hW' := hW
  obtain ⟨p, q, hA0, hV, rfl, hfz, hnd⟩ := hW
  have hA : DataW.TrodAll enc Tryz.prog W 0 (fun _ => true) true Tryz.f4.params.toList args.toList ds p := hA0
  rw [Tryz.params4] at hA hval
  obtain ⟨v0, vs0, d0, ds0, p0, q0, hargs, rfl, rfl, h0, r0⟩ := trodAll_cons hA
  obtain ⟨rfl, rfl, rfl⟩ := trodAll_nil r0
  obtain rfl : args = #[v0] := by cases args; simp_all
  obtain ⟨rfl, rfl⟩ := trodVars_none hV
  obtain ⟨a0, len0, cap0, rfl⟩ := okWide_slice Tryz.underlying22 (hval 0 22 v0 rfl rfl)
  have k0 := h0
  have lt0 : ∀ x ∈ p0, x.block < W.heap.size := by obtain ⟨m, hm⟩ := k0; exact DataW.trod_lt m _ _ _ hm
  obtain ⟨z0, w0⟩ : ∃ zs, IsRow .u8 W a0 len0 cap0 zs := by
    obtain ⟨fuel, hf⟩ := h0
    rcases open_ints Tryz.underlying22 Tryz.underlying5 (by kernel_rfl) hf with ⟨hcs, _⟩ | ⟨x, l, c, zs, hcs, _, hl, hm, hz, _, hcell, hwz⟩
    · simp [Value.cells] at hcs
      obtain ⟨rfl, rfl, rfl⟩ := hcs
      exact ⟨[], .inl ⟨rfl, rfl, rfl, rfl⟩⟩
    · simp [Value.cells] at hcs
      obtain ⟨rfl, rfl, rfl⟩ := hcs
      exact ⟨zs, .inr ⟨_, rfl, hl, hm, by simpa using hz, hcell, hwz⟩⟩
  clear hA0 hval0
  refine (walk a0 len0 cap0 z0 W w0).mono fun e W' ⟨he, bel⟩ => ?_
  subst he
  exact ⟨_, rfl, _, _, _, [], _, [], hW', trodAll_mk1 (shut_bool Tryz.underlying4 _), (trodAll_cons_mk (Below.trod laidOut (by kernel_rfl) (of_decide_eq_true (by kernel_rfl)) k0 bel lt0) trodAll_mk0), rfl, bel.frame _, fun h => by cases h⟩

theorem over : Rows.fnTablesRow.holds Tryz.pinned (OpenSpec.ofChange Rows.fnTablesSpec) :=
  OpenClaim.holds_of_wide 4 Tryz.f4 rfl rfl rfl rfl rfl rfl rfl ⟨rfl, rfl, rfl, rfl, rfl⟩ rfl rfl rfl rfl rfl (by kernel_rfl) Tryz.func4 (by kernel_rfl)
    (of_decide_eq_true (by kernel_rfl)) (by unfold Func.isWrapper; first | (rw [if_pos (by decide +kernel)]; kernel_rfl) | (rw [if_neg (by decide +kernel)]; exact ⟨rfl, rfl⟩))
    (fun os started H enc _ => lifted os started H enc)

theorem proved : Rows.FnTablesSaid := over
#print axioms proved
end Go.Proofs.YtodfdfncdoliiadGreat.fnTables
