/-
  Chapter 9: the program's partsOk, Parts. Written by tools/aci.gen.py. Chapter 9: the program's namedOk, ActOk. Written by tools/aci.gen.py. Chapter 9: the program at acts that are alike. Written by tools/ac.gen.py. Chapter 10, the program: subjectOk. Written by tools/efi.gen.py. Own work.
-/
import Derived.Test.YtodfdfncdoliiadAcF
import Derived.Test.YtodfdfncdoliiadGSpF6
import Derived.Test.YtodfdfncdoliiadPaI
import Derived.Test.YtodfdfncdoliiadGStField2
import Derived.Deep.DeepCutAuto
import Derived.Deep.CutBlock
import Derived.Deep.RegionHeld
namespace Go.Proofs.Ytodfdfncdoliiad
open Go.ChangeShapes Go.WideShapes Go.ChangeAt Go.RowKit
set_option maxRecDepth 100000
set_option linter.unusedVariables false
set_option linter.unusedSimpArgs false

set_option maxHeartbeats 4000000 in
theorem partsOk_any (la : Option Addr) (lb n c : Nat) (f : Nat → Ev) (w : World) (hn : n ≤ 1048577) (r1 : RdE evC 7 w lb la n f) : Calls Try.prog 64 #[.slice la n c] w fun e w' => e = .returned (.bool (apL n f)) ∧ Below w.heap.size w w' := by
  go_enter Try.func64, Try.ntmps64
  go_wp2
  go_loopw [7] (fun i wr => ∃ k : Nat, k ≤ n ∧ i = .int .i64 k ∧ Hid (∀ j, j < k → ptE (f j) = true) ∧ Below w.heap.size w wr) (fun i _ => n - (intOf i).toNat)
  case atStart => exact ⟨0, Nat.zero_le _, rfl, fun j hj => by omega, Below.refl _ _⟩
  case round =>
    obtain ⟨k, hk, rfl, hall, hb⟩ := hrel
    by_cases hlt : k < n
    · rcases r1.grew evC_ne hb with g1 | ⟨o1, hpa, g1⟩
      · omega
      subst hpa
      obtain ⟨k0, k1, k2, k3, k4, k5, k6⟩ : AtEv wr lb (o1 + k * 7) (f k) := AtEv_of (g1 k hlt)
      clear g1
      have y1 : (0 : Int) ≤ (k : Int) := by omega
      have y2 : (k : Int) < (n : Int) := by omega
      obtain ⟨x, hx⟩ : ∃ x, f k = x := ⟨_, rfl⟩
      rw [hx] at k0 k1 k2 k3 k4 k5 k6
      have bV := boxR_new wr 84 #[.int .i64 x.kd, .int .i64 x.sr, .int .i64 x.pi, .int .i64 x.si, .int .i64 x.nn, .int .i64 x.zo, .bool x.be]
      have hbV := below_new2' wr (.cells #[.int .i64 x.kd, .int .i64 x.sr, .int .i64 x.pi, .int .i64 x.si, .int .i64 x.nn, .int .i64 x.zo, .bool x.be] 84)
      generalize hV : wr.alloc (.cells #[.int .i64 x.kd, .int .i64 x.sr, .int .i64 x.pi, .int .i64 x.si, .int .i64 x.nn, .int .i64 x.zo, .bool x.be] 84) = V at bV hbV
      have hB := below_app hb hbV hb.size
      have m0 := bV.cell 0
      have m1 := bV.cell 1
      have m2 := bV.cell 2
      have m3 := bV.cell 3
      have m4 := bV.cell 4
      have m5 := bV.cell 5
      have m6 := bV.cell 6
      simp at m0 m1 m2 m3 m4 m5 m6
      clear bV
      cases hp : ptE x
      case false =>
        have HR : Hid (apL n f = false) := apL_no hlt (by rw [hx]; exact hp)
        have HP : Hid (∀ w : World, Calls Try.prog 71 #[(.agg #[.int .i64 x.kd, .int .i64 x.sr, .int .i64 x.pi, .int .i64 x.si, .int .i64 x.nn, .int .i64 x.zo, .bool x.be])] w fun r w' => r = .returned (.bool false) ∧ Below w.heap.size w w') := fun w => by have := partOk_any x w; rw [hp] at this; exact this
        go_wp2_with fail
        refine (HP.out _).mono ?_
        rintro r w1 ⟨rfl, hb1⟩
        go_wp2
        go_ret
        exact ⟨ret_bool' HR.out.symm, below_app hB hb1 hB.size⟩
      case true =>
        have HN : Hid (∀ j, j < k + 1 → ptE (f j) = true) := fun j hj => by
          by_cases ej : j = k
          · rw [ej, hx]; exact hp
          · exact hall.out j (by omega)
        have HP : Hid (∀ w : World, Calls Try.prog 71 #[(.agg #[.int .i64 x.kd, .int .i64 x.sr, .int .i64 x.pi, .int .i64 x.si, .int .i64 x.nn, .int .i64 x.zo, .bool x.be])] w fun r w' => r = .returned (.bool true) ∧ Below w.heap.size w w') := fun w => by have := partOk_any x w; rw [hp] at this; exact this
        go_wp2_with fail
        refine (HP.out _).mono ?_
        rintro r w1 ⟨rfl, hb1⟩
        have hb2 := below_app hB hb1 hB.size
        clear m0 m1 m2 m3 m4 m5 m6 k0 k1 k2 k3 k4 k5 k6 hb hB hbV
        go_wp2
        go_roundw
        case rel => first | exact ⟨k + 1, by omega, by go_num, HN, hb2⟩ | ((repeat apply Exists.intro); exact ⟨⟨k + 1, by omega, by go_num, HN, hb2⟩, rfl⟩)
        case measure => simp [intOf]; omega
    · have HL : Hid (apL n f = true) := apL_yes (fun j hj => hall.out j (by omega))
      obtain rfl : k = n := by omega
      clear hall hk hlt
      go_wp2
      go_ret
      exact ⟨ret_bool' HL.out.symm, hb⟩
theorem paF_same (a : Ac) (e : Ev) (i : Nat) : paF a e i = sameE (a.es i) e.nn := rfl
end Go.Proofs.Ytodfdfncdoliiad
namespace Go.Proofs.Ytodfdfncdoliiad
open Go.ChangeShapes Go.WideShapes Go.ChangeAt Go.RowKit
set_option maxRecDepth 100000
set_option linter.unusedVariables false
set_option linter.unusedSimpArgs false

/-- what its kind names is right -/
def naA (a : Ac) : Bool :=
  if a.kd = 1 ∨ a.kd = 2 ∨ a.kd = 4 ∨ a.kd = 5 then true else if a.kd = 3 then ib a.nn 1 2147483647 else if a.kd = 6 then aimA a else if a.kd = 7 then ib a.zo 1 4 else if a.kd = 8 then ib a.nn 0 99 else if a.kd = 9 then ib a.ln 1 3 && apL a.ln a.es else false
set_option maxHeartbeats 4000000 in
theorem namedOk_any (a : Ac) (w : World) (hok : a.ok w) (hn : a.ln ≤ 1048577) : Calls Try.prog 50 #[(.agg #[.int .i64 a.kd, .int .i64 a.nn, .int .i64 a.pi, .int .i64 a.si, .int .i64 a.zo, .bool a.be, .slice a.la a.ln a.lcap])] w fun e w' => e = .returned (.bool (naA a)) ∧ Below w.heap.size w w' := by
  obtain ⟨_, _, r1, _⟩ := hok
  have HB := (Below.refl _ w).alloc (Nat.le_refl _) (.cells #[.int .i64 a.kd, .int .i64 a.nn, .int .i64 a.pi, .int .i64 a.si, .int .i64 a.zo, .bool a.be, .slice a.la a.ln a.lcap] 30)
  have bx := boxR_new w 30 #[.int .i64 a.kd, .int .i64 a.nn, .int .i64 a.pi, .int .i64 a.si, .int .i64 a.zo, .bool a.be, .slice a.la a.ln a.lcap]
  generalize hW : w.alloc (.cells #[.int .i64 a.kd, .int .i64 a.nn, .int .i64 a.pi, .int .i64 a.si, .int .i64 a.zo, .bool a.be, .slice a.la a.ln a.lcap] 30) = W at HB bx
  have c0 := bx.cell 0
  have c1 := bx.cell 1
  have c2 := bx.cell 2
  have c3 := bx.cell 3
  have c4 := bx.cell 4
  have c5 := bx.cell 5
  have c6 := bx.cell 6
  simp at c0 c1 c2 c3 c4 c5 c6
  go_enter Try.func50, Try.ntmps50
  have r2 := r1.grew evC_ne HB
  go_wp2_with first | (go_at_call 46; refine (between_any _ _ _ _).mono ?_; rintro e w' ⟨rfl, rfl⟩) | (go_at_call 63; refine (aimOk_any a _).mono ?_; rintro e w2 ⟨rfl, hb2⟩) | (go_at_call 64; refine (partsOk_any a.la a.lb a.ln a.lcap a.es _ hn r2).mono ?_; rintro e w2 ⟨rfl, hb2⟩)
  all_goals go_ret
  all_goals exact ⟨ret_bool' (by unfold naA; first | (simp_all; done) | (simp_all; omega) | (rw [Bool.eq_iff_iff]; simp_all)), by first | exact HB | exact below_app HB hb2 HB.size⟩
theorem okAc_eq (a : Ac) : okAc a = (naA a && nnA (woA a)) := by
  by_cases hx : 1 ≤ a.kd ∧ a.kd ≤ 9
  · have hk : a.kd = 1 ∨ a.kd = 2 ∨ a.kd = 3 ∨ a.kd = 4 ∨ a.kd = 5 ∨ a.kd = 6 ∨ a.kd = 7 ∨ a.kd = 8 ∨ a.kd = 9 := by omega
    rcases hk with h | h | h | h | h | h | h | h | h
    case inr.inr.inr.inr.inr.inl => unfold okAc naA nnA woA plA; simp only [h]; by_cases h1 : a.nn = 0 <;> by_cases h2 : a.zo = 0 <;> by_cases h3 : a.ln = 0 <;> by_cases h4 : a.pi = 0 <;> by_cases h6 : a.si = -1 <;> cases h5 : a.be <;> simp [ac6, aimA, ib, *]
    all_goals (unfold okAc naA nnA woA plA; simp only [h]; simp [ac6, ac7, ac8, ac9, aimA, ib, h])
    all_goals first | (rw [Bool.eq_iff_iff]; simp; done) | (rw [Bool.eq_iff_iff]; simp; omega) | (rw [Bool.eq_iff_iff]; simp; constructor <;> intro hh <;> simp_all <;> omega)
  · have h1 : a.kd ≠ 1 := by omega
    have h2 : a.kd ≠ 2 := by omega
    have h3 : a.kd ≠ 3 := by omega
    have h4 : a.kd ≠ 4 := by omega
    have h5 : a.kd ≠ 5 := by omega
    have h6 : a.kd ≠ 6 := by omega
    have h7 : a.kd ≠ 7 := by omega
    have h8 : a.kd ≠ 8 := by omega
    have h9 : a.kd ≠ 9 := by omega
    unfold okAc naA; simp [h1, h2, h3, h4, h5, h6, h7, h8, h9]
set_option maxHeartbeats 4000000 in
theorem implActOk_any (a : Ac) (w : World) (hok : a.ok w) (hn : a.ln ≤ 1048577) : Calls Try.prog 27 #[(.agg #[.int .i64 a.kd, .int .i64 a.nn, .int .i64 a.pi, .int .i64 a.si, .int .i64 a.zo, .bool a.be, .slice a.la a.ln a.lcap])] w fun e w' => e = .returned (.bool (okAc a)) ∧ Below w.heap.size w w' := by
  rw [okAc_eq]
  have HB := (Below.refl _ w).alloc (Nat.le_refl _) (.cells #[.int .i64 a.kd, .int .i64 a.nn, .int .i64 a.pi, .int .i64 a.si, .int .i64 a.zo, .bool a.be, .slice a.la a.ln a.lcap] 30)
  have bx := boxR_new w 30 #[.int .i64 a.kd, .int .i64 a.nn, .int .i64 a.pi, .int .i64 a.si, .int .i64 a.zo, .bool a.be, .slice a.la a.ln a.lcap]
  generalize hW : w.alloc (.cells #[.int .i64 a.kd, .int .i64 a.nn, .int .i64 a.pi, .int .i64 a.si, .int .i64 a.zo, .bool a.be, .slice a.la a.ln a.lcap] 30) = W at HB bx
  have c0 := bx.cell 0
  have c1 := bx.cell 1
  have c2 := bx.cell 2
  have c3 := bx.cell 3
  have c4 := bx.cell 4
  have c5 := bx.cell 5
  have c6 := bx.cell 6
  simp at c0 c1 c2 c3 c4 c5 c6
  go_enter Try.func27, Try.ntmps27
  have hok2 := act_grew hok HB
  go_wp2_with fail
  refine (namedOk_any a _ hok2 hn).mono ?_
  rintro e w1 ⟨rfl, hb1⟩
  replace bx := bx.grew hb1
  replace HB := below_app HB hb1 HB.size
  clear hW c0 c1 c2 c3 c4 c5 c6 hok2 hb1
  have d0 := bx.cell 0
  have d1 := bx.cell 1
  have d2 := bx.cell 2
  have d3 := bx.cell 3
  have d4 := bx.cell 4
  have d5 := bx.cell 5
  have d6 := bx.cell 6
  simp at d0 d1 d2 d3 d4 d5 d6
  cases hp : naA a
  case false =>
    go_wp2
    go_ret
    exact ⟨ret_bool' (by first | rfl | (simp [hp]; done)), HB⟩
  case true =>
    go_wp2_with fail
    refine (withoutNamed_any a _).mono ?_
    rintro e w2 ⟨rfl, hb2⟩
    obtain ⟨b, hbw⟩ : ∃ b, woA a = b := ⟨_, rfl⟩
    rw [hbw]
    have HW : Hid (woA a = b) := hbw
    clear hbw
    go_wp2_with fail
    refine (namesNothing_any b _).mono ?_
    rintro e w3 ⟨rfl, hb3⟩
    replace HB := below_app HB hb2 HB.size
    go_wp2
    go_ret
    exact ⟨ret_bool' (by simp [hp, HW.out]), below_app HB hb3 HB.size⟩
end Go.Proofs.Ytodfdfncdoliiad
namespace Go.Proofs.Ytodfdfncdoliiad
open Go.ChangeShapes Go.WideShapes Go.ChangeAt Go.RowKit
set_option maxRecDepth 100000
set_option linter.unusedVariables false
set_option linter.unusedSimpArgs false

theorem implActOk_al {w0 w : World} {B : Nat} {t a : Ac} (h : OwnA w B t) (k : AlikeA t a) (hs : a.ok w0) (hn : a.ln ≤ 1048576) : Calls Try.prog 27 #[(.agg #[.int .i64 t.kd, .int .i64 t.nn, .int .i64 t.pi, .int .i64 t.si, .int .i64 t.zo, .bool t.be, .slice t.la t.ln t.lcap])] w fun e w' => e = .returned (.bool (okAc a)) ∧ Below w.heap.size w w' := by
  rw [← alike_okAc k]; exact implActOk_any t w (okT9 h k hs) (by rw [k.ln]; omega)
theorem implActFits_al {w0 w : World} {B : Nat} {t a : Ac} (c : Int) (h : OwnA w B t) (k : AlikeA t a) (hs : a.ok w0) (hn : a.ln ≤ 1048576) : Calls Try.prog 28 #[(.agg #[.int .i64 t.kd, .int .i64 t.nn, .int .i64 t.pi, .int .i64 t.si, .int .i64 t.zo, .bool t.be, .slice t.la t.ln t.lcap]), .int .i64 c] w fun e w' => e = .returned (.bool (fiA a c)) ∧ Below w.heap.size w w' := by
  rw [← alike_fiA k]; exact implActFits_any t c w
end Go.Proofs.Ytodfdfncdoliiad
namespace Go.Proofs.Ytodfdfncdoliiad
open Go.ChangeShapes Go.WideShapes Go.ChangeAt Go.RowKit
set_option maxRecDepth 100000
set_option linter.unusedVariables false
set_option linter.unusedSimpArgs false

/-- whether it may come from there -/
def orO (cl sr : Int) : Bool := if cl = 0 then ib sr 1 99 else ib cl 0 4 && ib sr 0 99
set_option maxHeartbeats 2000000 in
theorem originOk_any (cl sr : Int) (w : World) : Calls Try.prog 25 #[.agg #[.int .i64 cl, .int .i64 sr]] w fun e w' => e = .returned (.bool (orO cl sr)) ∧ Below w.heap.size w w' := by
  have HB := (Below.refl _ w).alloc (Nat.le_refl _) (.cells #[.int .i64 cl, .int .i64 sr] 51)
  cases h : (cl == 0)
  case true =>
    have HA : Hid (orO cl sr = ib sr 1 99) := by show _ = _; unfold orO; rw [if_pos (by simpa using h)]
    go_enter Try.func25, Try.ntmps25
    go_wp2_with first | (go_at_call 24; refine (isIdE_any _ _).mono ?_; rintro e w' ⟨rfl, rfl⟩) | (go_at_call 46; refine (between_any _ _ _ _).mono ?_; rintro e w' ⟨rfl, rfl⟩)
    all_goals (go_ret; exact ⟨ret_bool' HA.out.symm, HB⟩)
  case false =>
    have HA : Hid (orO cl sr = (ib cl 0 4 && ib sr 0 99)) := by show _ = _; unfold orO; rw [if_neg (by simpa using h)]
    have F1 : Hid (∀ u : World, Calls Try.prog 46 #[.int .i64 cl, .int .i64 0, .int .i64 4] u fun e w' => e = .returned (.bool (ib cl 0 4)) ∧ w' = u) := fun u => between_any _ _ _ u
    have F2 : Hid (∀ u : World, Calls Try.prog 46 #[.int .i64 sr, .int .i64 0, .int .i64 99] u fun e w' => e = .returned (.bool (ib sr 0 99)) ∧ w' = u) := fun u => between_any _ _ _ u
    generalize ib cl 0 4 = b1 at HA F1
    generalize ib sr 0 99 = b2 at HA F2
    go_enter Try.func25, Try.ntmps25
    go_wp2_with fail
    refine (F1.out _).mono ?_
    rintro e w' ⟨rfl, rfl⟩
    cases b1
    case false =>
      go_wp2
      go_ret
      exact ⟨ret_bool' (by rw [HA.out]; rfl), HB⟩
    case true =>
      go_wp2_with fail
      refine (F2.out _).mono ?_
      rintro e w' ⟨rfl, rfl⟩
      go_wp2
      go_ret
      exact ⟨ret_bool' (by rw [HA.out]; simp), HB⟩
/-- how much there may be left -/
def llO (a : Ac) : Int := if a.kd = 2 then 0 else -1
set_option maxHeartbeats 1000000 in
theorem leastLeft_any (a : Ac) (w : World) : Calls Try.prog 30 #[(.agg #[.int .i64 a.kd, .int .i64 a.nn, .int .i64 a.pi, .int .i64 a.si, .int .i64 a.zo, .bool a.be, .slice a.la a.ln a.lcap])] w fun e w' => e = .returned (.int .i64 (llO a)) ∧ Below w.heap.size w w' := by
  have HB := (Below.refl _ w).alloc (Nat.le_refl _) (.cells #[.int .i64 a.kd, .int .i64 a.nn, .int .i64 a.pi, .int .i64 a.si, .int .i64 a.zo, .bool a.be, .slice a.la a.ln a.lcap] 30)
  cases h : (a.kd == 2)
  case true =>
    have HA : Hid (llO a = 0) := by show _ = _; unfold llO; rw [if_pos (by simpa using h)]
    go_enter Try.func30, Try.ntmps30
    go_wp2
    go_ret
    exact ⟨ret_int HA.out.symm, HB⟩
  case false =>
    have HA : Hid (llO a = -1) := by show _ = _; unfold llO; rw [if_neg (by simpa using h)]
    go_enter Try.func30, Try.ntmps30
    go_wp2
    go_ret
    exact ⟨ret_int HA.out.symm, HB⟩
set_option maxHeartbeats 1000000 in
theorem spanOk_any (un le n : Int) (w : World) : Calls Try.prog 29 #[.agg #[.int .i64 un, .int .i64 le], .int .i64 n] w fun e w' => e = .returned (.bool (ib un (-1) 9999 && ib le n 2147483647)) ∧ Below w.heap.size w w' := by
  have HB := (Below.refl _ w).alloc (Nat.le_refl _) (.cells #[.int .i64 un, .int .i64 le] 55)
  have F1 : Hid (∀ u : World, Calls Try.prog 46 #[.int .i64 un, .int .i64 (-1), .int .i64 9999] u fun e w' => e = .returned (.bool (ib un (-1) 9999)) ∧ w' = u) := fun u => between_any _ _ _ u
  have F2 : Hid (∀ u : World, Calls Try.prog 46 #[.int .i64 le, .int .i64 n, .int .i64 2147483647] u fun e w' => e = .returned (.bool (ib le n 2147483647)) ∧ w' = u) := fun u => between_any _ _ _ u
  generalize ib un (-1) 9999 = b1 at F1 ⊢
  generalize ib le n 2147483647 = b2 at F2 ⊢
  go_enter Try.func29, Try.ntmps29
  go_wp2_with fail
  refine (F1.out _).mono ?_
  rintro e w' ⟨rfl, rfl⟩
  cases b1
  case false =>
    go_wp2
    go_ret
    exact ⟨ret_bool' (by rfl), HB⟩
  case true =>
    go_wp2_with fail
    refine (F2.out _).mono ?_
    rintro e w' ⟨rfl, rfl⟩
    go_wp2
    go_ret
    exact ⟨ret_bool' (by simp), HB⟩
/-- whether it may be about that -/
def sbO (a : Ef) : Bool := ib a.si 0 2 && okPt a.pt && okGd a.gd
set_option maxHeartbeats 2000000 in
theorem subjectOk_any (a : Ef) (w : World) : Calls Try.prog 26 #[.agg #[.int .i64 a.si, .int .i64 a.pt.kd, .int .i64 a.pt.wh, .int .i64 a.pt.sr, .int .i64 a.pt.tr, .int .i64 a.pt.pi, .int .i64 a.pt.le, .int .i64 a.pt.zo, .int .i64 a.gd.kd, .int .i64 a.gd.nn]] w fun e w' => e = .returned (.bool (sbO a)) ∧ Below w.heap.size w w' := by
  have HB := (Below.refl _ w).alloc (Nat.le_refl _) (.cells #[.int .i64 a.si, .int .i64 a.pt.kd, .int .i64 a.pt.wh, .int .i64 a.pt.sr, .int .i64 a.pt.tr, .int .i64 a.pt.pi, .int .i64 a.pt.le, .int .i64 a.pt.zo, .int .i64 a.gd.kd, .int .i64 a.gd.nn] 53)
  have bx := boxR_new w 53 #[.int .i64 a.si, .int .i64 a.pt.kd, .int .i64 a.pt.wh, .int .i64 a.pt.sr, .int .i64 a.pt.tr, .int .i64 a.pt.pi, .int .i64 a.pt.le, .int .i64 a.pt.zo, .int .i64 a.gd.kd, .int .i64 a.gd.nn]
  generalize hW : w.alloc (.cells #[.int .i64 a.si, .int .i64 a.pt.kd, .int .i64 a.pt.wh, .int .i64 a.pt.sr, .int .i64 a.pt.tr, .int .i64 a.pt.pi, .int .i64 a.pt.le, .int .i64 a.pt.zo, .int .i64 a.gd.kd, .int .i64 a.gd.nn] 53) = W at HB bx
  have HA : Hid (sbO a = (ib a.si 0 2 && okPt a.pt && okGd a.gd)) := rfl
  have F1 : Hid (∀ u : World, Calls Try.prog 47 #[.int .i64 a.si] u fun e w' => e = .returned (.bool (ib a.si 0 2)) ∧ w' = u) := fun u => isSide_any _ u
  have F2 : Hid (∀ u : World, Calls Try.prog 48 #[(.agg #[.int .i64 a.pt.kd, .int .i64 a.pt.wh, .int .i64 a.pt.sr, .int .i64 a.pt.tr, .int .i64 a.pt.pi, .int .i64 a.pt.le, .int .i64 a.pt.zo])] u fun e w' => e = .returned (.bool (okPt a.pt)) ∧ Below u.heap.size u w') := fun u => implPatOk_any a.pt u
  have F3 : Hid (∀ u : World, Calls Try.prog 49 #[(.agg #[.int .i64 a.gd.kd, .int .i64 a.gd.nn])] u fun e w' => e = .returned (.bool (okGd a.gd)) ∧ Below u.heap.size u w') := fun u => implGuardOk_any a.gd u
  generalize ib a.si 0 2 = b1 at HA F1
  generalize okPt a.pt = b2 at HA F2
  generalize okGd a.gd = b3 at HA F3
  have CS : Hid (∀ u : World, BoxR u w.heap.size 53 #[.int .i64 a.si, .int .i64 a.pt.kd, .int .i64 a.pt.wh, .int .i64 a.pt.sr, .int .i64 a.pt.tr, .int .i64 a.pt.pi, .int .i64 a.pt.le, .int .i64 a.pt.zo, .int .i64 a.gd.kd, .int .i64 a.gd.nn] → u.cell? ⟨w.heap.size, 0, none⟩ = some (.int .i64 a.si) ∧ u.cell? ⟨w.heap.size, 1, none⟩ = some (.int .i64 a.pt.kd) ∧ u.cell? ⟨w.heap.size, 2, none⟩ = some (.int .i64 a.pt.wh) ∧ u.cell? ⟨w.heap.size, 3, none⟩ = some (.int .i64 a.pt.sr) ∧ u.cell? ⟨w.heap.size, 4, none⟩ = some (.int .i64 a.pt.tr) ∧ u.cell? ⟨w.heap.size, 5, none⟩ = some (.int .i64 a.pt.pi) ∧ u.cell? ⟨w.heap.size, 6, none⟩ = some (.int .i64 a.pt.le) ∧ u.cell? ⟨w.heap.size, 7, none⟩ = some (.int .i64 a.pt.zo) ∧ u.cell? ⟨w.heap.size, 8, none⟩ = some (.int .i64 a.gd.kd) ∧ u.cell? ⟨w.heap.size, 9, none⟩ = some (.int .i64 a.gd.nn)) := fun u h => ⟨h.cell 0, h.cell 1, h.cell 2, h.cell 3, h.cell 4, h.cell 5, h.cell 6, h.cell 7, h.cell 8, h.cell 9⟩
  obtain ⟨c0, c1, c2, c3, c4, c5, c6, c7, c8, c9⟩ := CS.out _ bx
  go_enter Try.func26, Try.ntmps26
  go_wp2_with fail
  refine (F1.out _).mono ?_
  rintro e w' ⟨rfl, rfl⟩
  cases b1
  case false =>
    go_wp2
    go_ret
    exact ⟨ret_bool' (by rw [HA.out]; rfl), HB⟩
  case true =>
    go_wp2_with fail
    refine (F2.out _).mono ?_
    rintro e w1 ⟨rfl, hb⟩
    replace bx := bx.grew hb
    replace HB := below_app HB hb HB.size
    clear hb c0 c1 c2 c3 c4 c5 c6 c7 c8 c9 hW
    cases b2
    case false =>
      go_wp2
      go_ret
      exact ⟨ret_bool' (by rw [HA.out]; rfl), HB⟩
    case true =>
      obtain ⟨c0, c1, c2, c3, c4, c5, c6, c7, c8, c9⟩ := CS.out _ bx
      go_wp2_with fail
      refine (F3.out _).mono ?_
      rintro e w2 ⟨rfl, hb⟩
      replace HB := below_app HB hb HB.size
      go_wp2
      go_ret
      exact ⟨ret_bool' (by rw [HA.out]; simp), HB⟩
end Go.Proofs.Ytodfdfncdoliiad
