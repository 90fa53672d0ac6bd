/-
  Chapter 10: the specification's EffectOk (okEf), Lives (lvE), Near (nrE). Written by tools/ef.gen.py. Own work.
-/
import Derived.Test.YtodfdfncdoliiauGreatGEfC2
import Derived.Test.YtodfdfncdoliiauGreatAcD
import Derived.Test.YtodfdfncdoliiauGreatGPaB2
import Derived.Deep.DeepCutAuto
import Derived.Deep.CutBlock
namespace Go.Proofs.YtodfdfncdoliiauGreat
open Go.ChangeShapes Go.WideShapes Go.ChangeAt Go.RowKit
set_option maxRecDepth 100000
set_option linter.unusedVariables false
set_option linter.unusedSimpArgs false

def hdE (a : Ef) : Bool := ib a.id 1 99 && ib a.si 0 2 && ib a.sr 0 99 && ib a.cl 0 4 && ib a.un (-1) 9999 && ib a.le (-1) 2147483647
def cdE (a : Ef) : Bool := (decide (a.cl = 0) && decide (a.sr = 0)) || (decide (a.ac.kd = 2) && decide (a.le < 0))
/-- whether an effect may be -/
def okEf (a : Ef) : Bool := hdE a && !cdE a && (okPt a.pt && okGd a.gd && okAc a.ac && fiA a.ac a.pt.kd)
/-- whether it lives -/
def lvE (a : Ef) (c : Int) : Bool := !decide (a.le = 0) && (decide (a.un = -1) || decide (c ≤ a.un))
/-- whether it is near -/
def nrE (a : Ef) (v : Ev) : Bool := !decide (a.cl = 0) || decide (a.sr = v.sr) || decide (a.sr = v.pi)
set_option maxHeartbeats 4000000 in
theorem efo_h (a : Ef) (w : World) (h : hdE a = false) : Calls Tryz.prog 40 #[(.agg #[.int .i64 a.id, .int .i64 a.si, .int .i64 a.sr, .int .i64 a.cl, .int .i64 a.pt.kd, .int .i64 a.pt.wh, .int .i64 a.pt.sr, .int .i64 a.pt.tr, .int .i64 a.pt.pi, .int .i64 a.pt.le, .int .i64 a.pt.zo, .int .i64 a.gd.kd, .int .i64 a.gd.nn, .int .i64 a.ac.kd, .int .i64 a.ac.nn, .int .i64 a.ac.pi, .int .i64 a.ac.si, .int .i64 a.ac.zo, .bool a.ac.be, .slice a.ac.la a.ac.ln a.ac.lcap, .int .i64 a.un, .int .i64 a.le])] w fun e w' => e = .returned (.bool (okEf a)) ∧ Below w.heap.size w w' := by
  have HA : Hid (okEf a = false) := by show okEf a = false; unfold okEf; rw [h]; rfl
  unfold hdE at h
  have HB := (Below.refl _ w).alloc (Nat.le_refl _) (.cells #[.int .i64 a.id, .int .i64 a.si, .int .i64 a.sr, .int .i64 a.cl, .int .i64 a.pt.kd, .int .i64 a.pt.wh, .int .i64 a.pt.sr, .int .i64 a.pt.tr, .int .i64 a.pt.pi, .int .i64 a.pt.le, .int .i64 a.pt.zo, .int .i64 a.gd.kd, .int .i64 a.gd.nn, .int .i64 a.ac.kd, .int .i64 a.ac.nn, .int .i64 a.ac.pi, .int .i64 a.ac.si, .int .i64 a.ac.zo, .bool a.ac.be, .slice a.ac.la a.ac.ln a.ac.lcap, .int .i64 a.un, .int .i64 a.le] 44)
  have bx := boxR_new w 44 #[.int .i64 a.id, .int .i64 a.si, .int .i64 a.sr, .int .i64 a.cl, .int .i64 a.pt.kd, .int .i64 a.pt.wh, .int .i64 a.pt.sr, .int .i64 a.pt.tr, .int .i64 a.pt.pi, .int .i64 a.pt.le, .int .i64 a.pt.zo, .int .i64 a.gd.kd, .int .i64 a.gd.nn, .int .i64 a.ac.kd, .int .i64 a.ac.nn, .int .i64 a.ac.pi, .int .i64 a.ac.si, .int .i64 a.ac.zo, .bool a.ac.be, .slice a.ac.la a.ac.ln a.ac.lcap, .int .i64 a.un, .int .i64 a.le]
  generalize hW : w.alloc (.cells #[.int .i64 a.id, .int .i64 a.si, .int .i64 a.sr, .int .i64 a.cl, .int .i64 a.pt.kd, .int .i64 a.pt.wh, .int .i64 a.pt.sr, .int .i64 a.pt.tr, .int .i64 a.pt.pi, .int .i64 a.pt.le, .int .i64 a.pt.zo, .int .i64 a.gd.kd, .int .i64 a.gd.nn, .int .i64 a.ac.kd, .int .i64 a.ac.nn, .int .i64 a.ac.pi, .int .i64 a.ac.si, .int .i64 a.ac.zo, .bool a.ac.be, .slice a.ac.la a.ac.ln a.ac.lcap, .int .i64 a.un, .int .i64 a.le] 44) = W at HB bx
  obtain ⟨c0, c1, c2, c3, c4, c5, c6, c7, c8, c9, c10, c11, c12, c13, c14, c15, c16, c17, c18, c19, c20, c21⟩ := bx.cells22
  go_enter Tryz.func40, Tryz.ntmps40
  go_wp2_with (go_at_call 55; refine (l1In_any _ _ _ _).mono ?_; rintro e w' ⟨rfl, rfl⟩)
  all_goals first | (exfalso; simp_all; done) | skip
  all_goals go_ret
  all_goals exact ⟨ret_bool' HA.out.symm, HB⟩
set_option maxHeartbeats 4000000 in
theorem efo_c (a : Ef) (w : World) (h : hdE a = true) (hc : cdE a = true) : Calls Tryz.prog 40 #[(.agg #[.int .i64 a.id, .int .i64 a.si, .int .i64 a.sr, .int .i64 a.cl, .int .i64 a.pt.kd, .int .i64 a.pt.wh, .int .i64 a.pt.sr, .int .i64 a.pt.tr, .int .i64 a.pt.pi, .int .i64 a.pt.le, .int .i64 a.pt.zo, .int .i64 a.gd.kd, .int .i64 a.gd.nn, .int .i64 a.ac.kd, .int .i64 a.ac.nn, .int .i64 a.ac.pi, .int .i64 a.ac.si, .int .i64 a.ac.zo, .bool a.ac.be, .slice a.ac.la a.ac.ln a.ac.lcap, .int .i64 a.un, .int .i64 a.le])] w fun e w' => e = .returned (.bool (okEf a)) ∧ Below w.heap.size w w' := by
  have HA : Hid (okEf a = false) := by show okEf a = false; unfold okEf; rw [h, hc]; rfl
  unfold hdE at h
  simp only [Bool.and_eq_true] at h
  obtain ⟨⟨⟨⟨⟨i0, i1⟩, i2⟩, i3⟩, i4⟩, i5⟩ := h
  unfold cdE at hc
  have HB := (Below.refl _ w).alloc (Nat.le_refl _) (.cells #[.int .i64 a.id, .int .i64 a.si, .int .i64 a.sr, .int .i64 a.cl, .int .i64 a.pt.kd, .int .i64 a.pt.wh, .int .i64 a.pt.sr, .int .i64 a.pt.tr, .int .i64 a.pt.pi, .int .i64 a.pt.le, .int .i64 a.pt.zo, .int .i64 a.gd.kd, .int .i64 a.gd.nn, .int .i64 a.ac.kd, .int .i64 a.ac.nn, .int .i64 a.ac.pi, .int .i64 a.ac.si, .int .i64 a.ac.zo, .bool a.ac.be, .slice a.ac.la a.ac.ln a.ac.lcap, .int .i64 a.un, .int .i64 a.le] 44)
  have bx := boxR_new w 44 #[.int .i64 a.id, .int .i64 a.si, .int .i64 a.sr, .int .i64 a.cl, .int .i64 a.pt.kd, .int .i64 a.pt.wh, .int .i64 a.pt.sr, .int .i64 a.pt.tr, .int .i64 a.pt.pi, .int .i64 a.pt.le, .int .i64 a.pt.zo, .int .i64 a.gd.kd, .int .i64 a.gd.nn, .int .i64 a.ac.kd, .int .i64 a.ac.nn, .int .i64 a.ac.pi, .int .i64 a.ac.si, .int .i64 a.ac.zo, .bool a.ac.be, .slice a.ac.la a.ac.ln a.ac.lcap, .int .i64 a.un, .int .i64 a.le]
  generalize hW : w.alloc (.cells #[.int .i64 a.id, .int .i64 a.si, .int .i64 a.sr, .int .i64 a.cl, .int .i64 a.pt.kd, .int .i64 a.pt.wh, .int .i64 a.pt.sr, .int .i64 a.pt.tr, .int .i64 a.pt.pi, .int .i64 a.pt.le, .int .i64 a.pt.zo, .int .i64 a.gd.kd, .int .i64 a.gd.nn, .int .i64 a.ac.kd, .int .i64 a.ac.nn, .int .i64 a.ac.pi, .int .i64 a.ac.si, .int .i64 a.ac.zo, .bool a.ac.be, .slice a.ac.la a.ac.ln a.ac.lcap, .int .i64 a.un, .int .i64 a.le] 44) = W at HB bx
  obtain ⟨c0, c1, c2, c3, c4, c5, c6, c7, c8, c9, c10, c11, c12, c13, c14, c15, c16, c17, c18, c19, c20, c21⟩ := bx.cells22
  go_enter Tryz.func40, Tryz.ntmps40
  go_wp2_with (go_at_call 55; refine (l1In_any _ _ _ _).mono ?_; rintro e w' ⟨rfl, rfl⟩)
  all_goals first | (exfalso; simp_all; done) | (exfalso; simp_all; omega) | skip
  all_goals go_ret
  all_goals exact ⟨ret_bool' HA.out.symm, HB⟩
set_option maxHeartbeats 8000000 in
theorem efo_t (a : Ef) (w : World) (hok : a.okW w) (hn : a.ac.ln ≤ 1048577) (h : hdE a = true) (hc : cdE a = false) : Calls Tryz.prog 40 #[(.agg #[.int .i64 a.id, .int .i64 a.si, .int .i64 a.sr, .int .i64 a.cl, .int .i64 a.pt.kd, .int .i64 a.pt.wh, .int .i64 a.pt.sr, .int .i64 a.pt.tr, .int .i64 a.pt.pi, .int .i64 a.pt.le, .int .i64 a.pt.zo, .int .i64 a.gd.kd, .int .i64 a.gd.nn, .int .i64 a.ac.kd, .int .i64 a.ac.nn, .int .i64 a.ac.pi, .int .i64 a.ac.si, .int .i64 a.ac.zo, .bool a.ac.be, .slice a.ac.la a.ac.ln a.ac.lcap, .int .i64 a.un, .int .i64 a.le])] w fun e w' => e = .returned (.bool (okEf a)) ∧ Below w.heap.size w w' := by
  have HA : Hid (okEf a = (okPt a.pt && okGd a.gd && okAc a.ac && fiA a.ac a.pt.kd)) := by show okEf a = _; unfold okEf; rw [h, hc]; rfl
  unfold hdE at h
  simp only [Bool.and_eq_true] at h
  obtain ⟨⟨⟨⟨⟨i0, i1⟩, i2⟩, i3⟩, i4⟩, i5⟩ := h
  have HQ : Hid (((a.cl == 0) = false ∨ (a.sr == 0) = false) ∧ ((a.ac.kd == 2) = false ∨ ¬ a.le < 0)) := by
    show _ ∧ _
    unfold cdE at hc
    simp at hc ⊢
    constructor
    · by_cases h1 : a.cl = 0
      · exact .inr (hc.1 h1)
      · exact .inl h1
    · by_cases h1 : a.ac.kd = 2
      · exact .inr (hc.2 h1)
      · exact .inl h1
  clear hc
  have FP : Hid (∀ u : World, Calls Tryz.prog 56 #[(.agg #[.int .i64 a.pt.kd, .int .i64 a.pt.wh, .int .i64 a.pt.sr, .int .i64 a.pt.tr, .int .i64 a.pt.pi, .int .i64 a.pt.le, .int .i64 a.pt.zo])] u fun e w' => e = .returned (.bool (okPt a.pt)) ∧ Below u.heap.size u w') := fun u => specPatOk_any a.pt u
  have FG : Hid (∀ u : World, Calls Tryz.prog 57 #[(.agg #[.int .i64 a.gd.kd, .int .i64 a.gd.nn])] u fun e w' => e = .returned (.bool (okGd a.gd)) ∧ Below u.heap.size u w') := fun u => specGuardOk_any a.gd u
  have FA : Hid (∀ u : World, Below w.heap.size w u → Calls Tryz.prog 58 #[(.agg #[.int .i64 a.ac.kd, .int .i64 a.ac.nn, .int .i64 a.ac.pi, .int .i64 a.ac.si, .int .i64 a.ac.zo, .bool a.ac.be, .slice a.ac.la a.ac.ln a.ac.lcap])] u fun e w' => e = .returned (.bool (okAc a.ac)) ∧ Below u.heap.size u w') := fun u hu => specActOk_any a.ac u (act_grew hok.1 hu) hn
  have FF : Hid (∀ u : World, Calls Tryz.prog 59 #[(.agg #[.int .i64 a.ac.kd, .int .i64 a.ac.nn, .int .i64 a.ac.pi, .int .i64 a.ac.si, .int .i64 a.ac.zo, .bool a.ac.be, .slice a.ac.la a.ac.ln a.ac.lcap]), .int .i64 a.pt.kd] u fun e w' => e = .returned (.bool (fiA a.ac a.pt.kd)) ∧ Below u.heap.size u w') := fun u => specActFits_any a.ac a.pt.kd u
  generalize okPt a.pt = b1 at HA FP
  generalize okGd a.gd = b2 at HA FG
  generalize okAc a.ac = b3 at HA FA
  generalize fiA a.ac a.pt.kd = b4 at HA FF
  clear hok hn
  have HB := (Below.refl _ w).alloc (Nat.le_refl _) (.cells #[.int .i64 a.id, .int .i64 a.si, .int .i64 a.sr, .int .i64 a.cl, .int .i64 a.pt.kd, .int .i64 a.pt.wh, .int .i64 a.pt.sr, .int .i64 a.pt.tr, .int .i64 a.pt.pi, .int .i64 a.pt.le, .int .i64 a.pt.zo, .int .i64 a.gd.kd, .int .i64 a.gd.nn, .int .i64 a.ac.kd, .int .i64 a.ac.nn, .int .i64 a.ac.pi, .int .i64 a.ac.si, .int .i64 a.ac.zo, .bool a.ac.be, .slice a.ac.la a.ac.ln a.ac.lcap, .int .i64 a.un, .int .i64 a.le] 44)
  have bx := boxR_new w 44 #[.int .i64 a.id, .int .i64 a.si, .int .i64 a.sr, .int .i64 a.cl, .int .i64 a.pt.kd, .int .i64 a.pt.wh, .int .i64 a.pt.sr, .int .i64 a.pt.tr, .int .i64 a.pt.pi, .int .i64 a.pt.le, .int .i64 a.pt.zo, .int .i64 a.gd.kd, .int .i64 a.gd.nn, .int .i64 a.ac.kd, .int .i64 a.ac.nn, .int .i64 a.ac.pi, .int .i64 a.ac.si, .int .i64 a.ac.zo, .bool a.ac.be, .slice a.ac.la a.ac.ln a.ac.lcap, .int .i64 a.un, .int .i64 a.le]
  generalize hW : w.alloc (.cells #[.int .i64 a.id, .int .i64 a.si, .int .i64 a.sr, .int .i64 a.cl, .int .i64 a.pt.kd, .int .i64 a.pt.wh, .int .i64 a.pt.sr, .int .i64 a.pt.tr, .int .i64 a.pt.pi, .int .i64 a.pt.le, .int .i64 a.pt.zo, .int .i64 a.gd.kd, .int .i64 a.gd.nn, .int .i64 a.ac.kd, .int .i64 a.ac.nn, .int .i64 a.ac.pi, .int .i64 a.ac.si, .int .i64 a.ac.zo, .bool a.ac.be, .slice a.ac.la a.ac.ln a.ac.lcap, .int .i64 a.un, .int .i64 a.le] 44) = W at HB bx
  obtain ⟨c0, c1, c2, c3, c4, c5, c6, c7, c8, c9, c10, c11, c12, c13, c14, c15, c16, c17, c18, c19, c20, c21⟩ := bx.cells22
  go_enter Tryz.func40, Tryz.ntmps40
  go_upto_region 3 with (go_at_call 55; refine (l1In_any _ _ _ _).mono ?_; rintro e w' ⟨rfl, rfl⟩)
  clear hW i0 i1 i2 i3 i4 i5
  go_cut [55] (fun sx wc => sx = .bool false ∧ BoxR wc w.heap.size 44 #[.int .i64 a.id, .int .i64 a.si, .int .i64 a.sr, .int .i64 a.cl, .int .i64 a.pt.kd, .int .i64 a.pt.wh, .int .i64 a.pt.sr, .int .i64 a.pt.tr, .int .i64 a.pt.pi, .int .i64 a.pt.le, .int .i64 a.pt.zo, .int .i64 a.gd.kd, .int .i64 a.gd.nn, .int .i64 a.ac.kd, .int .i64 a.ac.nn, .int .i64 a.ac.pi, .int .i64 a.ac.si, .int .i64 a.ac.zo, .bool a.ac.be, .slice a.ac.la a.ac.ln a.ac.lcap, .int .i64 a.un, .int .i64 a.le] ∧ Below w.heap.size w wc)
  case first =>
    obtain ⟨h1, h2⟩ := HQ.out
    cases g1 : (a.cl == 0)
    case true =>
      have g2 : (a.sr == 0) = false := by
        rcases h1 with h | h
        · rw [g1] at h; cases h
        · exact h
      cases g3 : (a.ac.kd == 2)
      case true =>
        have g4 : ¬ a.le < 0 := by
          rcases h2 with h | h
          · rw [g3] at h; cases h
          · omega
        clear h1 h2 HQ
        go_wp2_with fail
        go_meet
        exact ⟨rfl, bx, HB⟩
      case false =>
        clear h1 h2 HQ
        go_wp2_with fail
        go_meet
        exact ⟨rfl, bx, HB⟩
    case false =>
      cases g3 : (a.ac.kd == 2)
      case true =>
        have g4 : ¬ a.le < 0 := by
          rcases h2 with h | h
          · rw [g3] at h; cases h
          · omega
        clear h1 h2 HQ
        go_wp2_with fail
        go_meet
        exact ⟨rfl, bx, HB⟩
      case false =>
        clear h1 h2 HQ
        go_wp2_with fail
        go_meet
        exact ⟨rfl, bx, HB⟩
  case rest =>
    clear HQ bx HB c0 c1 c2 c3 c4 c5 c6 c7 c8 c9 c10 c11 c12 c13 c14 c15 c16 c17 c18 c19 c20 c21
    obtain ⟨rfl, bx, HB⟩ := hcut
    obtain ⟨c0, c1, c2, c3, c4, c5, c6, c7, c8, c9, c10, c11, c12, c13, c14, c15, c16, c17, c18, c19, c20, c21⟩ := bx.cells22
    as_aux_lemma =>
      go_wp2_with fail
      refine (FP.out _).mono ?_
      rintro e w1 ⟨rfl, hb⟩
      replace bx := bx.grew hb
      replace HB := below_app HB hb HB.size
      clear hb c0 c1 c2 c3 c4 c5 c6 c7 c8 c9 c10 c11 c12 c13 c14 c15 c16 c17 c18 c19 c20 c21
      cases b1
      case false =>
        go_wp2
        go_ret
        exact ⟨ret_bool' (by rw [HA.out]; rfl), HB⟩
      case true =>
        obtain ⟨c0, c1, c2, c3, c4, c5, c6, c7, c8, c9, c10, c11, c12, c13, c14, c15, c16, c17, c18, c19, c20, c21⟩ := bx.cells22
        go_wp2_with fail
        refine (FG.out _).mono ?_
        rintro e w2 ⟨rfl, hb⟩
        replace bx := bx.grew hb
        replace HB := below_app HB hb HB.size
        clear hb c0 c1 c2 c3 c4 c5 c6 c7 c8 c9 c10 c11 c12 c13 c14 c15 c16 c17 c18 c19 c20 c21
        cases b2
        case false =>
          go_wp2
          go_ret
          exact ⟨ret_bool' (by rw [HA.out]; rfl), HB⟩
        case true =>
          obtain ⟨c0, c1, c2, c3, c4, c5, c6, c7, c8, c9, c10, c11, c12, c13, c14, c15, c16, c17, c18, c19, c20, c21⟩ := bx.cells22
          go_wp2_with fail
          refine (FA.out _ HB).mono ?_
          rintro e w3 ⟨rfl, hb⟩
          replace bx := bx.grew hb
          replace HB := below_app HB hb HB.size
          clear hb c0 c1 c2 c3 c4 c5 c6 c7 c8 c9 c10 c11 c12 c13 c14 c15 c16 c17 c18 c19 c20 c21
          cases b3
          case false =>
            go_wp2
            go_ret
            exact ⟨ret_bool' (by rw [HA.out]; rfl), HB⟩
          case true =>
            obtain ⟨c0, c1, c2, c3, c4, c5, c6, c7, c8, c9, c10, c11, c12, c13, c14, c15, c16, c17, c18, c19, c20, c21⟩ := bx.cells22
            go_wp2_with fail
            refine (FF.out _).mono ?_
            rintro e w4 ⟨rfl, hb⟩
            replace bx := bx.grew hb
            replace HB := below_app HB hb HB.size
            clear hb c0 c1 c2 c3 c4 c5 c6 c7 c8 c9 c10 c11 c12 c13 c14 c15 c16 c17 c18 c19 c20 c21
            go_wp2
            go_ret
            exact ⟨ret_bool' (by rw [HA.out]; simp), HB⟩
theorem specEffectOk_any (a : Ef) (w : World) (hok : a.okW w) (hn : a.ac.ln ≤ 1048577) : Calls Tryz.prog 40 #[(.agg #[.int .i64 a.id, .int .i64 a.si, .int .i64 a.sr, .int .i64 a.cl, .int .i64 a.pt.kd, .int .i64 a.pt.wh, .int .i64 a.pt.sr, .int .i64 a.pt.tr, .int .i64 a.pt.pi, .int .i64 a.pt.le, .int .i64 a.pt.zo, .int .i64 a.gd.kd, .int .i64 a.gd.nn, .int .i64 a.ac.kd, .int .i64 a.ac.nn, .int .i64 a.ac.pi, .int .i64 a.ac.si, .int .i64 a.ac.zo, .bool a.ac.be, .slice a.ac.la a.ac.ln a.ac.lcap, .int .i64 a.un, .int .i64 a.le])] w fun e w' => e = .returned (.bool (okEf a)) ∧ Below w.heap.size w w' := by
  cases h : hdE a with
  | false => exact efo_h a w h
  | true =>
    cases hc : cdE a with
    | true => exact efo_c a w h hc
    | false => exact efo_t a w hok hn h hc
end Go.Proofs.YtodfdfncdoliiauGreat
