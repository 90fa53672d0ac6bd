/-
  Chapter 10, the program: '==' of two standings; slices.Equal of things; sameAct, SameEffect. Written by tools/efi.gen.py. Own work.
-/
import Derived.Test.YtodfdfncdoliiadGreatGTbC5
import Derived.Deep.DeepCutAuto
import Derived.Deep.CutBlock
import Derived.Deep.RegionHeld
import Derived.BigQuiet
namespace Go.Proofs.YtodfdfncdoliiadGreat
open Go.ChangeShapes Go.WideShapes Go.ChangeAt Go.RowKit
set_option maxRecDepth 100000
set_option linter.unusedVariables false
set_option linter.unusedSimpArgs false

/-- whether two standings are the same -/
def smSgV (a b : Ef) : Bool := decide (a.cl = b.cl) && decide (a.sr = b.sr) && decide (a.si = b.si) && decide (a.pt.kd = b.pt.kd) && decide (a.pt.wh = b.pt.wh) && decide (a.pt.sr = b.pt.sr) && decide (a.pt.tr = b.pt.tr) && decide (a.pt.pi = b.pt.pi) && decide (a.pt.le = b.pt.le) && decide (a.pt.zo = b.pt.zo) && decide (a.gd.kd = b.gd.kd) && decide (a.gd.nn = b.gd.nn) && decide (a.un = b.un) && decide (a.le = b.le)
theorem smH_eq (a b : Ef) : smH a b = (decide (a.id = b.id) && smSgV a b) := by
  unfold smH smSgV smPt smGd
  rw [Bool.eq_iff_iff]
  simp only [Bool.and_eq_true, decide_eq_true_eq]
  constructor <;> (intro h; simp_all)
/-- whether two rows of things are the same -/
def eqL (n m : Nat) (f g : Nat → Ev) : Bool := decide (n = m) && smL n f g
set_option maxHeartbeats 2000000 in
theorem equalEv_any (a1 a2 : Option Addr) (b1 b2 n m c1 c2 : Nat) (f g : Nat → Ev) (w : World) (hn : n ≤ 9223372036854775807) (hm : m ≤ 9223372036854775807) (h1 : RdE evC 7 w b1 a1 n f) (h2 : RdE evC 7 w b2 a2 m g) :
    Calls Tryz.prog 117 #[.slice a1 n c1, .slice a2 m c2] w fun e w' => e = .returned (.bool (eqL n m f g)) ∧ Below w.heap.size w w' := by
  by_cases hnm : n = m
  rotate_left
  · have HN : Hid (eqL n m f g = false) := by show eqL n m f g = false; unfold eqL; rw [decide_eq_false hnm]; rfl
    have q1 : ((n : Int) == (m : Int)) = false := by simp; omega
    have q2 : ((n : Int) != (m : Int)) = true := by simp; omega
    clear hnm
    go_enter Tryz.func117, Tryz.ntmps117
    go_wp2
    go_ret
    exact ⟨ret_bool' HN.out.symm, Below.refl _ _⟩
  subst hnm
  go_enter Tryz.func117, Tryz.ntmps117
  go_wp2
  go_loopw [13] (fun i wr => ∃ k : Nat, k ≤ n ∧ i = .int .i64 k ∧ Below w.heap.size w wr ∧ Hid (∀ j, j < k → smE (f j) (g j) = true)) (fun i _ => n - (intOf i).toNat)
  case atStart => exact ⟨0, Nat.zero_le _, rfl, Below.refl _ _, fun j hj => by omega⟩
  case round =>
    obtain ⟨k, hk, rfl, hb, hall⟩ := hrel
    by_cases hlt : k < n
    · rcases h1.grew evC_ne hb with g1 | ⟨o1, rfl, g1⟩
      · omega
      rcases h2.grew evC_ne hb with g2 | ⟨o2, rfl, g2⟩
      · omega
      obtain ⟨k0, k1, k2, k3, k4, k5, k6⟩ : AtEv wr b1 (o1 + k * 7) (f k) := AtEv_of (g1 k hlt)
      obtain ⟨j0, j1, j2, j3, j4, j5, j6⟩ : AtEv wr b2 (o2 + k * 7) (g k) := AtEv_of (g2 k hlt)
      have y1 : (0 : Int) ≤ (k : Int) := by omega
      have y2 : (k : Int) < (n : Int) := by omega
      have heq0 := run_eq_ev (f k) (g k)
      clear g1 g2
      cases hs : smE (f k) (g k) with
      | true =>
        have HA : Hid (∀ j, j < k + 1 → smE (f j) (g j) = true) := fun j hj => by
          by_cases e : j = k
          · subst e; exact hs
          · exact hall.out j (by omega)
        rw [hs] at heq0
        clear hall hs
        go_wp2
        go_quiet (fail)
        go_wp2
        go_roundw
        case rel => first | exact ⟨k + 1, by omega, by go_num, below_drewN hb _, HA⟩ | ((repeat apply Exists.intro); exact ⟨⟨k + 1, by omega, by go_num, below_drewN hb _, HA⟩, rfl⟩)
        case measure => simp [intOf]; omega
      | false =>
        have HN : Hid (eqL n n f g = false) := by show eqL n n f g = false; unfold eqL; rw [smL_no hlt hs]; simp
        rw [hs] at heq0
        clear hall hs
        go_wp2
        go_quiet (fail)
        go_wp2
        go_ret
        exact ⟨ret_bool' HN.out.symm, below_drewN hb _⟩
    · have HN : Hid (eqL n n f g = true) := by show eqL n n f g = true; unfold eqL; rw [smL_yes (fun j hj => hall.out j (by omega))]; simp
      clear hall
      go_wp2
      go_ret
      exact ⟨ret_bool' HN.out.symm, hb⟩
/-- whether two acts are the same -/
def smA (x y : Ac) : Bool := smK x y && smL x.ln x.es y.es
theorem smA_eq (x y : Ac) : smA x y = ((x.kd == y.kd) && (x.nn == y.nn) && (x.pi == y.pi) && (x.si == y.si) && (x.zo == y.zo) && (x.be == y.be) && eqL x.ln y.ln x.es y.es) := by
  have eb : (x.be == y.be) = decide (x.be = y.be) := by cases x.be <;> cases y.be <;> rfl
  have e : ∀ u v : Int, (u == v) = decide (u = v) := fun _ _ => rfl
  unfold smA smK eqL
  rw [eb, e, e, e, e, e]
  simp only [Bool.and_assoc]
set_option maxHeartbeats 4000000 in
theorem sameAct_any (x y : Ac) (w : World) (hx : x.ok w) (hy : y.ok w) (hn : x.ln ≤ 9223372036854775807) (hm : y.ln ≤ 9223372036854775807) : Calls Tryz.prog 70 #[(.agg #[.int .i64 x.kd, .int .i64 x.nn, .int .i64 x.pi, .int .i64 x.si, .int .i64 x.zo, .bool x.be, .slice x.la x.ln x.lcap]), (.agg #[.int .i64 y.kd, .int .i64 y.nn, .int .i64 y.pi, .int .i64 y.si, .int .i64 y.zo, .bool y.be, .slice y.la y.ln y.lcap])] w fun e w' => e = .returned (.bool (smA x y)) ∧ Below w.heap.size w w' := by
  have HB := ((Below.refl _ w).alloc (Nat.le_refl _) (.cells #[.int .i64 x.kd, .int .i64 x.nn, .int .i64 x.pi, .int .i64 x.si, .int .i64 x.zo, .bool x.be, .slice x.la x.ln x.lcap] 30)).alloc (by simp) (.cells #[.int .i64 y.kd, .int .i64 y.nn, .int .i64 y.pi, .int .i64 y.si, .int .i64 y.zo, .bool y.be, .slice y.la y.ln y.lcap] 30)
  have HC : Hid (∀ u : World, Below w.heap.size w u → Calls Tryz.prog 117 #[.slice x.la x.ln x.lcap, .slice y.la y.ln y.lcap] u fun e w' => e = .returned (.bool (eqL x.ln y.ln x.es y.es)) ∧ Below u.heap.size u w') := fun u hu => equalEv_any _ _ x.lb y.lb _ _ _ _ _ _ u hn hm (hx.2.2.1.grew evC_ne hu) (hy.2.2.1.grew evC_ne hu)
  have HA : Hid (smA x y = ((x.kd == y.kd) && (x.nn == y.nn) && (x.pi == y.pi) && (x.si == y.si) && (x.zo == y.zo) && (x.be == y.be) && eqL x.ln y.ln x.es y.es)) := smA_eq x y
  clear hx hy hn hm
  generalize eqL x.ln y.ln x.es y.es = bl at HC HA
  cases g0 : (x.kd == y.kd)
  case false =>
    rw [g0] at HA
    go_enter Tryz.func70, Tryz.ntmps70
    try simp only [List.append_eq, List.cons_append, List.nil_append]
    go_wp2
    go_ret
    exact ⟨ret_bool' (by rw [HA.out]; simp), HB⟩
  case true =>
    cases g1 : (x.nn == y.nn)
    case false =>
      rw [g0, g1] at HA
      go_enter Tryz.func70, Tryz.ntmps70
      try simp only [List.append_eq, List.cons_append, List.nil_append]
      go_wp2
      go_ret
      exact ⟨ret_bool' (by rw [HA.out]; simp), HB⟩
    case true =>
      cases g2 : (x.pi == y.pi)
      case false =>
        rw [g0, g1, g2] at HA
        go_enter Tryz.func70, Tryz.ntmps70
        try simp only [List.append_eq, List.cons_append, List.nil_append]
        go_wp2
        go_ret
        exact ⟨ret_bool' (by rw [HA.out]; simp), HB⟩
      case true =>
        cases g3 : (x.si == y.si)
        case false =>
          rw [g0, g1, g2, g3] at HA
          go_enter Tryz.func70, Tryz.ntmps70
          try simp only [List.append_eq, List.cons_append, List.nil_append]
          go_wp2
          go_ret
          exact ⟨ret_bool' (by rw [HA.out]; simp), HB⟩
        case true =>
          cases g4 : (x.zo == y.zo)
          case false =>
            rw [g0, g1, g2, g3, g4] at HA
            go_enter Tryz.func70, Tryz.ntmps70
            try simp only [List.append_eq, List.cons_append, List.nil_append]
            go_wp2
            go_ret
            exact ⟨ret_bool' (by rw [HA.out]; simp), HB⟩
          case true =>
            cases g5 : (x.be == y.be)
            case false =>
              rw [g0, g1, g2, g3, g4, g5] at HA
              go_enter Tryz.func70, Tryz.ntmps70
              try simp only [List.append_eq, List.cons_append, List.nil_append]
              go_wp2
              go_ret
              exact ⟨ret_bool' (by rw [HA.out]; simp), HB⟩
            case true =>
              rw [g0, g1, g2, g3, g4, g5] at HA
              go_enter Tryz.func70, Tryz.ntmps70
              try simp only [List.append_eq, List.cons_append, List.nil_append]
              go_wp2_with fail
              refine (HC.out _ HB).mono ?_
              rintro e w1 ⟨rfl, hb⟩
              replace HB := below_app HB hb HB.size
              go_wp2
              go_ret
              exact ⟨ret_bool' (by rw [HA.out]; simp), HB⟩
set_option maxHeartbeats 4000000 in
theorem ise_0 (a b : Ef) (w : World) (ha : a.okW w) (hb_ : b.okW w) (hn : a.ac.ln ≤ 9223372036854775807) (hm : b.ac.ln ≤ 9223372036854775807) (h0 : (a.id == b.id) = false) : Calls Tryz.prog 16 #[(.agg #[.int .i64 a.id, .int .i64 a.si, .int .i64 a.sr, .int .i64 a.cl, .int .i64 a.pt.kd, .int .i64 a.pt.wh, .int .i64 a.pt.sr, .int .i64 a.pt.tr, .int .i64 a.pt.pi, .int .i64 a.pt.le, .int .i64 a.pt.zo, .int .i64 a.gd.kd, .int .i64 a.gd.nn, .int .i64 a.ac.kd, .int .i64 a.ac.nn, .int .i64 a.ac.pi, .int .i64 a.ac.si, .int .i64 a.ac.zo, .bool a.ac.be, .slice a.ac.la a.ac.ln a.ac.lcap, .int .i64 a.un, .int .i64 a.le]), (.agg #[.int .i64 b.id, .int .i64 b.si, .int .i64 b.sr, .int .i64 b.cl, .int .i64 b.pt.kd, .int .i64 b.pt.wh, .int .i64 b.pt.sr, .int .i64 b.pt.tr, .int .i64 b.pt.pi, .int .i64 b.pt.le, .int .i64 b.pt.zo, .int .i64 b.gd.kd, .int .i64 b.gd.nn, .int .i64 b.ac.kd, .int .i64 b.ac.nn, .int .i64 b.ac.pi, .int .i64 b.ac.si, .int .i64 b.ac.zo, .bool b.ac.be, .slice b.ac.la b.ac.ln b.ac.lcap, .int .i64 b.un, .int .i64 b.le])] w fun e w' => e = .returned (.bool (smEf a b)) ∧ Below w.heap.size w w' := by
  have h0' : decide (a.id = b.id) = (a.id == b.id) := by first | rfl | simp
  have HA : Hid (smEf a b = false) := by show _ = _; unfold smEf; rw [smH_eq, h0', h0]; simp
  clear ha hb_ hn hm h0' 
  have HB := ((Below.refl _ w).alloc (Nat.le_refl _) (.cells #[.int .i64 a.id, .int .i64 a.si, .int .i64 a.sr, .int .i64 a.cl, .int .i64 a.pt.kd, .int .i64 a.pt.wh, .int .i64 a.pt.sr, .int .i64 a.pt.tr, .int .i64 a.pt.pi, .int .i64 a.pt.le, .int .i64 a.pt.zo, .int .i64 a.gd.kd, .int .i64 a.gd.nn, .int .i64 a.ac.kd, .int .i64 a.ac.nn, .int .i64 a.ac.pi, .int .i64 a.ac.si, .int .i64 a.ac.zo, .bool a.ac.be, .slice a.ac.la a.ac.ln a.ac.lcap, .int .i64 a.un, .int .i64 a.le] 32)).alloc (by simp) (.cells #[.int .i64 b.id, .int .i64 b.si, .int .i64 b.sr, .int .i64 b.cl, .int .i64 b.pt.kd, .int .i64 b.pt.wh, .int .i64 b.pt.sr, .int .i64 b.pt.tr, .int .i64 b.pt.pi, .int .i64 b.pt.le, .int .i64 b.pt.zo, .int .i64 b.gd.kd, .int .i64 b.gd.nn, .int .i64 b.ac.kd, .int .i64 b.ac.nn, .int .i64 b.ac.pi, .int .i64 b.ac.si, .int .i64 b.ac.zo, .bool b.ac.be, .slice b.ac.la b.ac.ln b.ac.lcap, .int .i64 b.un, .int .i64 b.le] 32)
  have b1 := (boxR_new w 32 #[.int .i64 a.id, .int .i64 a.si, .int .i64 a.sr, .int .i64 a.cl, .int .i64 a.pt.kd, .int .i64 a.pt.wh, .int .i64 a.pt.sr, .int .i64 a.pt.tr, .int .i64 a.pt.pi, .int .i64 a.pt.le, .int .i64 a.pt.zo, .int .i64 a.gd.kd, .int .i64 a.gd.nn, .int .i64 a.ac.kd, .int .i64 a.ac.nn, .int .i64 a.ac.pi, .int .i64 a.ac.si, .int .i64 a.ac.zo, .bool a.ac.be, .slice a.ac.la a.ac.ln a.ac.lcap, .int .i64 a.un, .int .i64 a.le]).alloc (.cells #[.int .i64 b.id, .int .i64 b.si, .int .i64 b.sr, .int .i64 b.cl, .int .i64 b.pt.kd, .int .i64 b.pt.wh, .int .i64 b.pt.sr, .int .i64 b.pt.tr, .int .i64 b.pt.pi, .int .i64 b.pt.le, .int .i64 b.pt.zo, .int .i64 b.gd.kd, .int .i64 b.gd.nn, .int .i64 b.ac.kd, .int .i64 b.ac.nn, .int .i64 b.ac.pi, .int .i64 b.ac.si, .int .i64 b.ac.zo, .bool b.ac.be, .slice b.ac.la b.ac.ln b.ac.lcap, .int .i64 b.un, .int .i64 b.le] 32)
  have b2 : BoxR ((w.alloc (.cells #[.int .i64 a.id, .int .i64 a.si, .int .i64 a.sr, .int .i64 a.cl, .int .i64 a.pt.kd, .int .i64 a.pt.wh, .int .i64 a.pt.sr, .int .i64 a.pt.tr, .int .i64 a.pt.pi, .int .i64 a.pt.le, .int .i64 a.pt.zo, .int .i64 a.gd.kd, .int .i64 a.gd.nn, .int .i64 a.ac.kd, .int .i64 a.ac.nn, .int .i64 a.ac.pi, .int .i64 a.ac.si, .int .i64 a.ac.zo, .bool a.ac.be, .slice a.ac.la a.ac.ln a.ac.lcap, .int .i64 a.un, .int .i64 a.le] 32)).alloc (.cells #[.int .i64 b.id, .int .i64 b.si, .int .i64 b.sr, .int .i64 b.cl, .int .i64 b.pt.kd, .int .i64 b.pt.wh, .int .i64 b.pt.sr, .int .i64 b.pt.tr, .int .i64 b.pt.pi, .int .i64 b.pt.le, .int .i64 b.pt.zo, .int .i64 b.gd.kd, .int .i64 b.gd.nn, .int .i64 b.ac.kd, .int .i64 b.ac.nn, .int .i64 b.ac.pi, .int .i64 b.ac.si, .int .i64 b.ac.zo, .bool b.ac.be, .slice b.ac.la b.ac.ln b.ac.lcap, .int .i64 b.un, .int .i64 b.le] 32)) (w.heap.size + 1) 32 #[.int .i64 b.id, .int .i64 b.si, .int .i64 b.sr, .int .i64 b.cl, .int .i64 b.pt.kd, .int .i64 b.pt.wh, .int .i64 b.pt.sr, .int .i64 b.pt.tr, .int .i64 b.pt.pi, .int .i64 b.pt.le, .int .i64 b.pt.zo, .int .i64 b.gd.kd, .int .i64 b.gd.nn, .int .i64 b.ac.kd, .int .i64 b.ac.nn, .int .i64 b.ac.pi, .int .i64 b.ac.si, .int .i64 b.ac.zo, .bool b.ac.be, .slice b.ac.la b.ac.ln b.ac.lcap, .int .i64 b.un, .int .i64 b.le] := heap_alloc2_new _ _ _
  generalize hW : (w.alloc (.cells #[.int .i64 a.id, .int .i64 a.si, .int .i64 a.sr, .int .i64 a.cl, .int .i64 a.pt.kd, .int .i64 a.pt.wh, .int .i64 a.pt.sr, .int .i64 a.pt.tr, .int .i64 a.pt.pi, .int .i64 a.pt.le, .int .i64 a.pt.zo, .int .i64 a.gd.kd, .int .i64 a.gd.nn, .int .i64 a.ac.kd, .int .i64 a.ac.nn, .int .i64 a.ac.pi, .int .i64 a.ac.si, .int .i64 a.ac.zo, .bool a.ac.be, .slice a.ac.la a.ac.ln a.ac.lcap, .int .i64 a.un, .int .i64 a.le] 32)).alloc (.cells #[.int .i64 b.id, .int .i64 b.si, .int .i64 b.sr, .int .i64 b.cl, .int .i64 b.pt.kd, .int .i64 b.pt.wh, .int .i64 b.pt.sr, .int .i64 b.pt.tr, .int .i64 b.pt.pi, .int .i64 b.pt.le, .int .i64 b.pt.zo, .int .i64 b.gd.kd, .int .i64 b.gd.nn, .int .i64 b.ac.kd, .int .i64 b.ac.nn, .int .i64 b.ac.pi, .int .i64 b.ac.si, .int .i64 b.ac.zo, .bool b.ac.be, .slice b.ac.la b.ac.ln b.ac.lcap, .int .i64 b.un, .int .i64 b.le] 32) = W at HB b1 b2
  go_enter Tryz.func16, Tryz.ntmps16
  go_wp2_with fail
  clear hW
  as_aux_lemma =>
    have SK : Hid (∀ u : World, BoxR u w.heap.size 32 #[.int .i64 a.id, .int .i64 a.si, .int .i64 a.sr, .int .i64 a.cl, .int .i64 a.pt.kd, .int .i64 a.pt.wh, .int .i64 a.pt.sr, .int .i64 a.pt.tr, .int .i64 a.pt.pi, .int .i64 a.pt.le, .int .i64 a.pt.zo, .int .i64 a.gd.kd, .int .i64 a.gd.nn, .int .i64 a.ac.kd, .int .i64 a.ac.nn, .int .i64 a.ac.pi, .int .i64 a.ac.si, .int .i64 a.ac.zo, .bool a.ac.be, .slice a.ac.la a.ac.ln a.ac.lcap, .int .i64 a.un, .int .i64 a.le] → BoxR u (w.heap.size + 1) 32 #[.int .i64 b.id, .int .i64 b.si, .int .i64 b.sr, .int .i64 b.cl, .int .i64 b.pt.kd, .int .i64 b.pt.wh, .int .i64 b.pt.sr, .int .i64 b.pt.tr, .int .i64 b.pt.pi, .int .i64 b.pt.le, .int .i64 b.pt.zo, .int .i64 b.gd.kd, .int .i64 b.gd.nn, .int .i64 b.ac.kd, .int .i64 b.ac.nn, .int .i64 b.ac.pi, .int .i64 b.ac.si, .int .i64 b.ac.zo, .bool b.ac.be, .slice b.ac.la b.ac.ln b.ac.lcap, .int .i64 b.un, .int .i64 b.le] → BoxR u w.heap.size 32 #[.int .i64 a.id, .int .i64 a.si, .int .i64 a.sr, .int .i64 a.cl, .int .i64 a.pt.kd, .int .i64 a.pt.wh, .int .i64 a.pt.sr, .int .i64 a.pt.tr, .int .i64 a.pt.pi, .int .i64 a.pt.le, .int .i64 a.pt.zo, .int .i64 a.gd.kd, .int .i64 a.gd.nn, .int .i64 a.ac.kd, .int .i64 a.ac.nn, .int .i64 a.ac.pi, .int .i64 a.ac.si, .int .i64 a.ac.zo, .bool a.ac.be, .slice a.ac.la a.ac.ln a.ac.lcap, .int .i64 a.un, .int .i64 a.le] ∧ BoxR u (w.heap.size + 1) 32 #[.int .i64 b.id, .int .i64 b.si, .int .i64 b.sr, .int .i64 b.cl, .int .i64 b.pt.kd, .int .i64 b.pt.wh, .int .i64 b.pt.sr, .int .i64 b.pt.tr, .int .i64 b.pt.pi, .int .i64 b.pt.le, .int .i64 b.pt.zo, .int .i64 b.gd.kd, .int .i64 b.gd.nn, .int .i64 b.ac.kd, .int .i64 b.ac.nn, .int .i64 b.ac.pi, .int .i64 b.ac.si, .int .i64 b.ac.zo, .bool b.ac.be, .slice b.ac.la b.ac.ln b.ac.lcap, .int .i64 b.un, .int .i64 b.le] ∧ u.cell? ⟨w.heap.size, 0, none⟩ = some (.int .i64 a.id) ∧ u.cell? ⟨w.heap.size + 1, 0, none⟩ = some (.int .i64 b.id)) := fun u h k => ⟨h, k, h.cell 0, k.cell 0⟩
    have hq0 : Below W.heap.size W W.drew := (Below.refl _ W).drew
    have hq := below_app HB hq0 HB.size
    replace b1 := b1.grew hq0
    replace b2 := b2.grew hq0
    clear hq0 HB
    refine wp_region_held_drew (S := fun u : World => BoxR u w.heap.size 32 #[.int .i64 a.id, .int .i64 a.si, .int .i64 a.sr, .int .i64 a.cl, .int .i64 a.pt.kd, .int .i64 a.pt.wh, .int .i64 a.pt.sr, .int .i64 a.pt.tr, .int .i64 a.pt.pi, .int .i64 a.pt.le, .int .i64 a.pt.zo, .int .i64 a.gd.kd, .int .i64 a.gd.nn, .int .i64 a.ac.kd, .int .i64 a.ac.nn, .int .i64 a.ac.pi, .int .i64 a.ac.si, .int .i64 a.ac.zo, .bool a.ac.be, .slice a.ac.la a.ac.ln a.ac.lcap, .int .i64 a.un, .int .i64 a.le] ∧ BoxR u (w.heap.size + 1) 32 #[.int .i64 b.id, .int .i64 b.si, .int .i64 b.sr, .int .i64 b.cl, .int .i64 b.pt.kd, .int .i64 b.pt.wh, .int .i64 b.pt.sr, .int .i64 b.pt.tr, .int .i64 b.pt.pi, .int .i64 b.pt.le, .int .i64 b.pt.zo, .int .i64 b.gd.kd, .int .i64 b.gd.nn, .int .i64 b.ac.kd, .int .i64 b.ac.nn, .int .i64 b.ac.pi, .int .i64 b.ac.si, .int .i64 b.ac.zo, .bool b.ac.be, .slice b.ac.la b.ac.ln b.ac.lcap, .int .i64 b.un, .int .i64 b.le] ∧ u.cell? ⟨w.heap.size, 0, none⟩ = some (.int .i64 a.id) ∧ u.cell? ⟨w.heap.size + 1, 0, none⟩ = some (.int .i64 b.id)) (by kernel_rfl) (SK.out _ b1 b2) (fun hHeld => ?_)
    refine wpAnyH_take (i := 0) (oi := ⟨some 5, _, _, _, _, _⟩) (v := .pointer (some ⟨w.heap.size, 0, none⟩)) rfl (by kernel_rfl) (by kernel_rfl) (by kernel_rfl) (fun _ _ _ h => h) (Or.inl ⟨by kernel_rfl, fun u hSu => by (try dsimp only at hSu); go_simp⟩) hHeld ?_
    try simp only [Act.put, List.setIfInBounds_toArray, List.set_cons_zero, List.set_cons_succ]
    refine wpAnyH_take (i := 1) (oi := ⟨some 6, _, _, _, _, _⟩) (v := .int .i64 a.id) rfl (by kernel_rfl) (by kernel_rfl) (by kernel_rfl) (fun _ _ _ h => h) (Or.inl ⟨by kernel_rfl, fun u hSu => by (try dsimp only at hSu); go_simp⟩) hHeld ?_
    try simp only [Act.put, List.setIfInBounds_toArray, List.set_cons_zero, List.set_cons_succ]
    refine wpAnyH_take (i := 2) (oi := ⟨some 7, _, _, _, _, _⟩) (v := .pointer (some ⟨w.heap.size + 1, 0, none⟩)) rfl (by kernel_rfl) (by kernel_rfl) (by kernel_rfl) (fun _ _ _ h => h) (Or.inl ⟨by kernel_rfl, fun u hSu => by (try dsimp only at hSu); go_simp⟩) hHeld ?_
    try simp only [Act.put, List.setIfInBounds_toArray, List.set_cons_zero, List.set_cons_succ]
    refine wpAnyH_take (i := 3) (oi := ⟨some 8, _, _, _, _, _⟩) (v := .int .i64 b.id) rfl (by kernel_rfl) (by kernel_rfl) (by kernel_rfl) (fun _ _ _ h => h) (Or.inl ⟨by kernel_rfl, fun u hSu => by (try dsimp only at hSu); go_simp⟩) hHeld ?_
    try simp only [Act.put, List.setIfInBounds_toArray, List.set_cons_zero, List.set_cons_succ]
    refine wpAnyH_take (i := 4) (oi := ⟨some 9, _, _, _, _, _⟩) (v := .bool false) rfl (by kernel_rfl) (by kernel_rfl) (by kernel_rfl) (fun _ _ _ h => h) (Or.inl ⟨by kernel_rfl, fun u hSu => by (try dsimp only at hSu); go_simp⟩) hHeld ?_
    try simp only [Act.put, List.setIfInBounds_toArray, List.set_cons_zero, List.set_cons_succ]
    refine wpAnyH_take (i := 5) (oi := ⟨some 10, _, _, _, _, _⟩) (v := .bool false) rfl (by kernel_rfl) (by kernel_rfl) (by kernel_rfl) (fun _ _ _ h => h) (Or.inl ⟨by kernel_rfl, fun u hSu => by (try dsimp only at hSu); go_simp⟩) hHeld ?_
    try simp only [Act.put, List.setIfInBounds_toArray, List.set_cons_zero, List.set_cons_succ]
    refine wpAnyH_take (i := 6) (oi := ⟨some 11, _, _, _, _, _⟩) (v := undef) rfl (by kernel_rfl) (by kernel_rfl) (by kernel_rfl) (fun _ _ _ h => h) (Or.inr ⟨by kernel_rfl, rfl⟩) hHeld ?_
    try simp only [Act.put, List.setIfInBounds_toArray, List.set_cons_zero, List.set_cons_succ]
    refine wpAnyH_take (i := 7) (oi := ⟨some 12, _, _, _, _, _⟩) (v := undef) rfl (by kernel_rfl) (by kernel_rfl) (by kernel_rfl) (fun _ _ _ h => h) (Or.inr ⟨by kernel_rfl, rfl⟩) hHeld ?_
    try simp only [Act.put, List.setIfInBounds_toArray, List.set_cons_zero, List.set_cons_succ]
    refine wpAnyH_take (i := 8) (oi := ⟨some 13, _, _, _, _, _⟩) (v := undef) rfl (by kernel_rfl) (by kernel_rfl) (by kernel_rfl) (fun _ _ _ h => h) (Or.inr ⟨by kernel_rfl, rfl⟩) hHeld ?_
    try simp only [Act.put, List.setIfInBounds_toArray, List.set_cons_zero, List.set_cons_succ]
    refine wpAnyH_take (i := 9) (oi := ⟨some 14, _, _, _, _, _⟩) (v := undef) rfl (by kernel_rfl) (by kernel_rfl) (by kernel_rfl) (fun _ _ _ h => h) (Or.inr ⟨by kernel_rfl, rfl⟩) hHeld ?_
    try simp only [Act.put, List.setIfInBounds_toArray, List.set_cons_zero, List.set_cons_succ]
    refine wpAnyH_take (i := 10) (oi := ⟨some 15, _, _, _, _, _⟩) (v := undef) rfl (by kernel_rfl) (by kernel_rfl) (by kernel_rfl) (fun _ _ _ h => h) (Or.inr ⟨by kernel_rfl, rfl⟩) hHeld ?_
    try simp only [Act.put, List.setIfInBounds_toArray, List.set_cons_zero, List.set_cons_succ]
    refine wpAnyH_take (i := 11) (oi := ⟨some 16, _, _, _, _, _⟩) (v := .bool false) rfl (by kernel_rfl) (by kernel_rfl) (by kernel_rfl) (fun _ _ _ h => h) (Or.inl ⟨by kernel_rfl, fun u hSu => by (try dsimp only at hSu); go_simp⟩) hHeld ?_
    try simp only [Act.put, List.setIfInBounds_toArray, List.set_cons_zero, List.set_cons_succ]
    refine wpAnyH_take (i := 12) (oi := ⟨some 17, _, _, _, _, _⟩) (v := .bool false) rfl (by kernel_rfl) (by kernel_rfl) (by kernel_rfl) (fun _ _ _ h => h) (Or.inl ⟨by kernel_rfl, fun u hSu => by (try dsimp only at hSu); go_simp⟩) hHeld ?_
    try simp only [Act.put, List.setIfInBounds_toArray, List.set_cons_zero, List.set_cons_succ]
    refine wpAnyH_take (i := 13) (oi := ⟨some 18, _, _, _, _, _⟩) (v := undef) rfl (by kernel_rfl) (by kernel_rfl) (by kernel_rfl) (fun _ _ _ h => h) (Or.inr ⟨by kernel_rfl, rfl⟩) hHeld ?_
    try simp only [Act.put, List.setIfInBounds_toArray, List.set_cons_zero, List.set_cons_succ]
    refine wpAnyH_take (i := 14) (oi := ⟨some 19, _, _, _, _, _⟩) (v := undef) rfl (by kernel_rfl) (by kernel_rfl) (by kernel_rfl) (fun _ _ _ h => h) (Or.inr ⟨by kernel_rfl, rfl⟩) hHeld ?_
    try simp only [Act.put, List.setIfInBounds_toArray, List.set_cons_zero, List.set_cons_succ]
    refine wpAnyH_take (i := 15) (oi := ⟨some 20, _, _, _, _, _⟩) (v := undef) rfl (by kernel_rfl) (by kernel_rfl) (by kernel_rfl) (fun _ _ _ h => h) (Or.inr ⟨by kernel_rfl, rfl⟩) hHeld ?_
    try simp only [Act.put, List.setIfInBounds_toArray, List.set_cons_zero, List.set_cons_succ]
    refine wpAnyH_take (i := 16) (oi := ⟨some 21, _, _, _, _, _⟩) (v := undef) rfl (by kernel_rfl) (by kernel_rfl) (by kernel_rfl) (fun _ _ _ h => h) (Or.inr ⟨by kernel_rfl, rfl⟩) hHeld ?_
    try simp only [Act.put, List.setIfInBounds_toArray, List.set_cons_zero, List.set_cons_succ]
    refine wpAnyH_take (i := 17) (oi := ⟨some 22, _, _, _, _, _⟩) (v := undef) rfl (by kernel_rfl) (by kernel_rfl) (by kernel_rfl) (fun _ _ _ h => h) (Or.inr ⟨by kernel_rfl, rfl⟩) hHeld ?_
    try simp only [Act.put, List.setIfInBounds_toArray, List.set_cons_zero, List.set_cons_succ]
    refine wpAnyH_take (i := 18) (oi := ⟨some 23, _, _, _, _, _⟩) (v := .bool false) rfl (by kernel_rfl) (by kernel_rfl) (by kernel_rfl) (fun _ _ _ h => h) (Or.inl ⟨by kernel_rfl, fun u hSu => by (try dsimp only at hSu); go_simp⟩) hHeld ?_
    try simp only [Act.put, List.setIfInBounds_toArray, List.set_cons_zero, List.set_cons_succ]
    refine wpAnyH_take (i := 19) (oi := ⟨some 4, _, _, _, _, _⟩) (v := .bool false) rfl (by kernel_rfl) (by kernel_rfl) (by kernel_rfl) (fun _ _ _ h => h) (Or.inl ⟨by kernel_rfl, fun u hSu => by (try dsimp only at hSu); go_simp⟩) hHeld ?_
    try simp only [Act.put, List.setIfInBounds_toArray, List.set_cons_zero, List.set_cons_succ]
    refine wpAnyH_done (by kernel_rfl) ?_ _
    clear hHeld SK
    go_wp2
    go_ret
    exact ⟨ret_bool' HA.out.symm, hq⟩
set_option maxHeartbeats 4000000 in
theorem ise_1 (a b : Ef) (w : World) (ha : a.okW w) (hb_ : b.okW w) (hn : a.ac.ln ≤ 9223372036854775807) (hm : b.ac.ln ≤ 9223372036854775807) (h0 : (a.id == b.id) = true) (h1 : smSgV a b = false) : Calls Tryz.prog 16 #[(.agg #[.int .i64 a.id, .int .i64 a.si, .int .i64 a.sr, .int .i64 a.cl, .int .i64 a.pt.kd, .int .i64 a.pt.wh, .int .i64 a.pt.sr, .int .i64 a.pt.tr, .int .i64 a.pt.pi, .int .i64 a.pt.le, .int .i64 a.pt.zo, .int .i64 a.gd.kd, .int .i64 a.gd.nn, .int .i64 a.ac.kd, .int .i64 a.ac.nn, .int .i64 a.ac.pi, .int .i64 a.ac.si, .int .i64 a.ac.zo, .bool a.ac.be, .slice a.ac.la a.ac.ln a.ac.lcap, .int .i64 a.un, .int .i64 a.le]), (.agg #[.int .i64 b.id, .int .i64 b.si, .int .i64 b.sr, .int .i64 b.cl, .int .i64 b.pt.kd, .int .i64 b.pt.wh, .int .i64 b.pt.sr, .int .i64 b.pt.tr, .int .i64 b.pt.pi, .int .i64 b.pt.le, .int .i64 b.pt.zo, .int .i64 b.gd.kd, .int .i64 b.gd.nn, .int .i64 b.ac.kd, .int .i64 b.ac.nn, .int .i64 b.ac.pi, .int .i64 b.ac.si, .int .i64 b.ac.zo, .bool b.ac.be, .slice b.ac.la b.ac.ln b.ac.lcap, .int .i64 b.un, .int .i64 b.le])] w fun e w' => e = .returned (.bool (smEf a b)) ∧ Below w.heap.size w w' := by
  have h0' : decide (a.id = b.id) = (a.id == b.id) := by first | rfl | simp
  have HA : Hid (smEf a b = false) := by show _ = _; unfold smEf; rw [smH_eq, h0', h0, h1]; simp
  have HV : Hid (smSgV a b = false) := h1
  clear ha hb_ hn hm h0' h1
  have HB := ((Below.refl _ w).alloc (Nat.le_refl _) (.cells #[.int .i64 a.id, .int .i64 a.si, .int .i64 a.sr, .int .i64 a.cl, .int .i64 a.pt.kd, .int .i64 a.pt.wh, .int .i64 a.pt.sr, .int .i64 a.pt.tr, .int .i64 a.pt.pi, .int .i64 a.pt.le, .int .i64 a.pt.zo, .int .i64 a.gd.kd, .int .i64 a.gd.nn, .int .i64 a.ac.kd, .int .i64 a.ac.nn, .int .i64 a.ac.pi, .int .i64 a.ac.si, .int .i64 a.ac.zo, .bool a.ac.be, .slice a.ac.la a.ac.ln a.ac.lcap, .int .i64 a.un, .int .i64 a.le] 32)).alloc (by simp) (.cells #[.int .i64 b.id, .int .i64 b.si, .int .i64 b.sr, .int .i64 b.cl, .int .i64 b.pt.kd, .int .i64 b.pt.wh, .int .i64 b.pt.sr, .int .i64 b.pt.tr, .int .i64 b.pt.pi, .int .i64 b.pt.le, .int .i64 b.pt.zo, .int .i64 b.gd.kd, .int .i64 b.gd.nn, .int .i64 b.ac.kd, .int .i64 b.ac.nn, .int .i64 b.ac.pi, .int .i64 b.ac.si, .int .i64 b.ac.zo, .bool b.ac.be, .slice b.ac.la b.ac.ln b.ac.lcap, .int .i64 b.un, .int .i64 b.le] 32)
  have b1 := (boxR_new w 32 #[.int .i64 a.id, .int .i64 a.si, .int .i64 a.sr, .int .i64 a.cl, .int .i64 a.pt.kd, .int .i64 a.pt.wh, .int .i64 a.pt.sr, .int .i64 a.pt.tr, .int .i64 a.pt.pi, .int .i64 a.pt.le, .int .i64 a.pt.zo, .int .i64 a.gd.kd, .int .i64 a.gd.nn, .int .i64 a.ac.kd, .int .i64 a.ac.nn, .int .i64 a.ac.pi, .int .i64 a.ac.si, .int .i64 a.ac.zo, .bool a.ac.be, .slice a.ac.la a.ac.ln a.ac.lcap, .int .i64 a.un, .int .i64 a.le]).alloc (.cells #[.int .i64 b.id, .int .i64 b.si, .int .i64 b.sr, .int .i64 b.cl, .int .i64 b.pt.kd, .int .i64 b.pt.wh, .int .i64 b.pt.sr, .int .i64 b.pt.tr, .int .i64 b.pt.pi, .int .i64 b.pt.le, .int .i64 b.pt.zo, .int .i64 b.gd.kd, .int .i64 b.gd.nn, .int .i64 b.ac.kd, .int .i64 b.ac.nn, .int .i64 b.ac.pi, .int .i64 b.ac.si, .int .i64 b.ac.zo, .bool b.ac.be, .slice b.ac.la b.ac.ln b.ac.lcap, .int .i64 b.un, .int .i64 b.le] 32)
  have b2 : BoxR ((w.alloc (.cells #[.int .i64 a.id, .int .i64 a.si, .int .i64 a.sr, .int .i64 a.cl, .int .i64 a.pt.kd, .int .i64 a.pt.wh, .int .i64 a.pt.sr, .int .i64 a.pt.tr, .int .i64 a.pt.pi, .int .i64 a.pt.le, .int .i64 a.pt.zo, .int .i64 a.gd.kd, .int .i64 a.gd.nn, .int .i64 a.ac.kd, .int .i64 a.ac.nn, .int .i64 a.ac.pi, .int .i64 a.ac.si, .int .i64 a.ac.zo, .bool a.ac.be, .slice a.ac.la a.ac.ln a.ac.lcap, .int .i64 a.un, .int .i64 a.le] 32)).alloc (.cells #[.int .i64 b.id, .int .i64 b.si, .int .i64 b.sr, .int .i64 b.cl, .int .i64 b.pt.kd, .int .i64 b.pt.wh, .int .i64 b.pt.sr, .int .i64 b.pt.tr, .int .i64 b.pt.pi, .int .i64 b.pt.le, .int .i64 b.pt.zo, .int .i64 b.gd.kd, .int .i64 b.gd.nn, .int .i64 b.ac.kd, .int .i64 b.ac.nn, .int .i64 b.ac.pi, .int .i64 b.ac.si, .int .i64 b.ac.zo, .bool b.ac.be, .slice b.ac.la b.ac.ln b.ac.lcap, .int .i64 b.un, .int .i64 b.le] 32)) (w.heap.size + 1) 32 #[.int .i64 b.id, .int .i64 b.si, .int .i64 b.sr, .int .i64 b.cl, .int .i64 b.pt.kd, .int .i64 b.pt.wh, .int .i64 b.pt.sr, .int .i64 b.pt.tr, .int .i64 b.pt.pi, .int .i64 b.pt.le, .int .i64 b.pt.zo, .int .i64 b.gd.kd, .int .i64 b.gd.nn, .int .i64 b.ac.kd, .int .i64 b.ac.nn, .int .i64 b.ac.pi, .int .i64 b.ac.si, .int .i64 b.ac.zo, .bool b.ac.be, .slice b.ac.la b.ac.ln b.ac.lcap, .int .i64 b.un, .int .i64 b.le] := heap_alloc2_new _ _ _
  generalize hW : (w.alloc (.cells #[.int .i64 a.id, .int .i64 a.si, .int .i64 a.sr, .int .i64 a.cl, .int .i64 a.pt.kd, .int .i64 a.pt.wh, .int .i64 a.pt.sr, .int .i64 a.pt.tr, .int .i64 a.pt.pi, .int .i64 a.pt.le, .int .i64 a.pt.zo, .int .i64 a.gd.kd, .int .i64 a.gd.nn, .int .i64 a.ac.kd, .int .i64 a.ac.nn, .int .i64 a.ac.pi, .int .i64 a.ac.si, .int .i64 a.ac.zo, .bool a.ac.be, .slice a.ac.la a.ac.ln a.ac.lcap, .int .i64 a.un, .int .i64 a.le] 32)).alloc (.cells #[.int .i64 b.id, .int .i64 b.si, .int .i64 b.sr, .int .i64 b.cl, .int .i64 b.pt.kd, .int .i64 b.pt.wh, .int .i64 b.pt.sr, .int .i64 b.pt.tr, .int .i64 b.pt.pi, .int .i64 b.pt.le, .int .i64 b.pt.zo, .int .i64 b.gd.kd, .int .i64 b.gd.nn, .int .i64 b.ac.kd, .int .i64 b.ac.nn, .int .i64 b.ac.pi, .int .i64 b.ac.si, .int .i64 b.ac.zo, .bool b.ac.be, .slice b.ac.la b.ac.ln b.ac.lcap, .int .i64 b.un, .int .i64 b.le] 32) = W at HB b1 b2
  go_enter Tryz.func16, Tryz.ntmps16
  go_wp2_with fail
  clear hW
  as_aux_lemma =>
    have SK : Hid (∀ u : World, BoxR u w.heap.size 32 #[.int .i64 a.id, .int .i64 a.si, .int .i64 a.sr, .int .i64 a.cl, .int .i64 a.pt.kd, .int .i64 a.pt.wh, .int .i64 a.pt.sr, .int .i64 a.pt.tr, .int .i64 a.pt.pi, .int .i64 a.pt.le, .int .i64 a.pt.zo, .int .i64 a.gd.kd, .int .i64 a.gd.nn, .int .i64 a.ac.kd, .int .i64 a.ac.nn, .int .i64 a.ac.pi, .int .i64 a.ac.si, .int .i64 a.ac.zo, .bool a.ac.be, .slice a.ac.la a.ac.ln a.ac.lcap, .int .i64 a.un, .int .i64 a.le] → BoxR u (w.heap.size + 1) 32 #[.int .i64 b.id, .int .i64 b.si, .int .i64 b.sr, .int .i64 b.cl, .int .i64 b.pt.kd, .int .i64 b.pt.wh, .int .i64 b.pt.sr, .int .i64 b.pt.tr, .int .i64 b.pt.pi, .int .i64 b.pt.le, .int .i64 b.pt.zo, .int .i64 b.gd.kd, .int .i64 b.gd.nn, .int .i64 b.ac.kd, .int .i64 b.ac.nn, .int .i64 b.ac.pi, .int .i64 b.ac.si, .int .i64 b.ac.zo, .bool b.ac.be, .slice b.ac.la b.ac.ln b.ac.lcap, .int .i64 b.un, .int .i64 b.le] → BoxR u w.heap.size 32 #[.int .i64 a.id, .int .i64 a.si, .int .i64 a.sr, .int .i64 a.cl, .int .i64 a.pt.kd, .int .i64 a.pt.wh, .int .i64 a.pt.sr, .int .i64 a.pt.tr, .int .i64 a.pt.pi, .int .i64 a.pt.le, .int .i64 a.pt.zo, .int .i64 a.gd.kd, .int .i64 a.gd.nn, .int .i64 a.ac.kd, .int .i64 a.ac.nn, .int .i64 a.ac.pi, .int .i64 a.ac.si, .int .i64 a.ac.zo, .bool a.ac.be, .slice a.ac.la a.ac.ln a.ac.lcap, .int .i64 a.un, .int .i64 a.le] ∧ BoxR u (w.heap.size + 1) 32 #[.int .i64 b.id, .int .i64 b.si, .int .i64 b.sr, .int .i64 b.cl, .int .i64 b.pt.kd, .int .i64 b.pt.wh, .int .i64 b.pt.sr, .int .i64 b.pt.tr, .int .i64 b.pt.pi, .int .i64 b.pt.le, .int .i64 b.pt.zo, .int .i64 b.gd.kd, .int .i64 b.gd.nn, .int .i64 b.ac.kd, .int .i64 b.ac.nn, .int .i64 b.ac.pi, .int .i64 b.ac.si, .int .i64 b.ac.zo, .bool b.ac.be, .slice b.ac.la b.ac.ln b.ac.lcap, .int .i64 b.un, .int .i64 b.le] ∧ u.cell? ⟨w.heap.size, 0, none⟩ = some (.int .i64 a.id) ∧ u.cell? ⟨w.heap.size + 1, 0, none⟩ = some (.int .i64 b.id)) := fun u h k => ⟨h, k, h.cell 0, k.cell 0⟩
    have hq0 : Below W.heap.size W W.drew := (Below.refl _ W).drew
    have hq := below_app HB hq0 HB.size
    replace b1 := b1.grew hq0
    replace b2 := b2.grew hq0
    clear hq0 HB
    refine wp_region_held_drew (S := fun u : World => BoxR u w.heap.size 32 #[.int .i64 a.id, .int .i64 a.si, .int .i64 a.sr, .int .i64 a.cl, .int .i64 a.pt.kd, .int .i64 a.pt.wh, .int .i64 a.pt.sr, .int .i64 a.pt.tr, .int .i64 a.pt.pi, .int .i64 a.pt.le, .int .i64 a.pt.zo, .int .i64 a.gd.kd, .int .i64 a.gd.nn, .int .i64 a.ac.kd, .int .i64 a.ac.nn, .int .i64 a.ac.pi, .int .i64 a.ac.si, .int .i64 a.ac.zo, .bool a.ac.be, .slice a.ac.la a.ac.ln a.ac.lcap, .int .i64 a.un, .int .i64 a.le] ∧ BoxR u (w.heap.size + 1) 32 #[.int .i64 b.id, .int .i64 b.si, .int .i64 b.sr, .int .i64 b.cl, .int .i64 b.pt.kd, .int .i64 b.pt.wh, .int .i64 b.pt.sr, .int .i64 b.pt.tr, .int .i64 b.pt.pi, .int .i64 b.pt.le, .int .i64 b.pt.zo, .int .i64 b.gd.kd, .int .i64 b.gd.nn, .int .i64 b.ac.kd, .int .i64 b.ac.nn, .int .i64 b.ac.pi, .int .i64 b.ac.si, .int .i64 b.ac.zo, .bool b.ac.be, .slice b.ac.la b.ac.ln b.ac.lcap, .int .i64 b.un, .int .i64 b.le] ∧ u.cell? ⟨w.heap.size, 0, none⟩ = some (.int .i64 a.id) ∧ u.cell? ⟨w.heap.size + 1, 0, none⟩ = some (.int .i64 b.id)) (by kernel_rfl) (SK.out _ b1 b2) (fun hHeld => ?_)
    refine wpAnyH_take (i := 0) (oi := ⟨some 5, _, _, _, _, _⟩) (v := .pointer (some ⟨w.heap.size, 0, none⟩)) rfl (by kernel_rfl) (by kernel_rfl) (by kernel_rfl) (fun _ _ _ h => h) (Or.inl ⟨by kernel_rfl, fun u hSu => by (try dsimp only at hSu); go_simp⟩) hHeld ?_
    try simp only [Act.put, List.setIfInBounds_toArray, List.set_cons_zero, List.set_cons_succ]
    refine wpAnyH_take (i := 1) (oi := ⟨some 6, _, _, _, _, _⟩) (v := .int .i64 a.id) rfl (by kernel_rfl) (by kernel_rfl) (by kernel_rfl) (fun _ _ _ h => h) (Or.inl ⟨by kernel_rfl, fun u hSu => by (try dsimp only at hSu); go_simp⟩) hHeld ?_
    try simp only [Act.put, List.setIfInBounds_toArray, List.set_cons_zero, List.set_cons_succ]
    refine wpAnyH_take (i := 2) (oi := ⟨some 7, _, _, _, _, _⟩) (v := .pointer (some ⟨w.heap.size + 1, 0, none⟩)) rfl (by kernel_rfl) (by kernel_rfl) (by kernel_rfl) (fun _ _ _ h => h) (Or.inl ⟨by kernel_rfl, fun u hSu => by (try dsimp only at hSu); go_simp⟩) hHeld ?_
    try simp only [Act.put, List.setIfInBounds_toArray, List.set_cons_zero, List.set_cons_succ]
    refine wpAnyH_take (i := 3) (oi := ⟨some 8, _, _, _, _, _⟩) (v := .int .i64 b.id) rfl (by kernel_rfl) (by kernel_rfl) (by kernel_rfl) (fun _ _ _ h => h) (Or.inl ⟨by kernel_rfl, fun u hSu => by (try dsimp only at hSu); go_simp⟩) hHeld ?_
    try simp only [Act.put, List.setIfInBounds_toArray, List.set_cons_zero, List.set_cons_succ]
    refine wpAnyH_take (i := 4) (oi := ⟨some 9, _, _, _, _, _⟩) (v := .bool true) rfl (by kernel_rfl) (by kernel_rfl) (by kernel_rfl) (fun _ _ _ h => h) (Or.inl ⟨by kernel_rfl, fun u hSu => by (try dsimp only at hSu); go_simp⟩) hHeld ?_
    try simp only [Act.put, List.setIfInBounds_toArray, List.set_cons_zero, List.set_cons_succ]
    refine wpAnyH_take (i := 5) (oi := ⟨some 10, _, _, _, _, _⟩) (v := .bool true) rfl (by kernel_rfl) (by kernel_rfl) (by kernel_rfl) (fun _ _ _ h => h) (Or.inl ⟨by kernel_rfl, fun u hSu => by (try dsimp only at hSu); go_simp⟩) hHeld ?_
    try simp only [Act.put, List.setIfInBounds_toArray, List.set_cons_zero, List.set_cons_succ]
    refine wpAnyH_take (i := 6) (oi := ⟨some 11, _, _, _, _, _⟩) (v := .agg ((#[.int .i64 a.id, .int .i64 a.si, .int .i64 a.sr, .int .i64 a.cl, .int .i64 a.pt.kd, .int .i64 a.pt.wh, .int .i64 a.pt.sr, .int .i64 a.pt.tr, .int .i64 a.pt.pi, .int .i64 a.pt.le, .int .i64 a.pt.zo, .int .i64 a.gd.kd, .int .i64 a.gd.nn, .int .i64 a.ac.kd, .int .i64 a.ac.nn, .int .i64 a.ac.pi, .int .i64 a.ac.si, .int .i64 a.ac.zo, .bool a.ac.be, .slice a.ac.la a.ac.ln a.ac.lcap, .int .i64 a.un, .int .i64 a.le] : Array Value).toList).toArray) rfl (by kernel_rfl) (by kernel_rfl) (by kernel_rfl) (fun _ _ _ h => h) (yieldsIf_load_mid (by kernel_rfl) 32 (.tmp 2) rfl (w.heap.size) 0 (by rfl) ((#[.int .i64 a.id, .int .i64 a.si, .int .i64 a.sr, .int .i64 a.cl, .int .i64 a.pt.kd, .int .i64 a.pt.wh, .int .i64 a.pt.sr, .int .i64 a.pt.tr, .int .i64 a.pt.pi, .int .i64 a.pt.le, .int .i64 a.pt.zo, .int .i64 a.gd.kd, .int .i64 a.gd.nn, .int .i64 a.ac.kd, .int .i64 a.ac.nn, .int .i64 a.ac.pi, .int .i64 a.ac.si, .int .i64 a.ac.zo, .bool a.ac.be, .slice a.ac.la a.ac.ln a.ac.lcap, .int .i64 a.un, .int .i64 a.le] : Array Value).toList) _ (fun u hu => BoxR.sub hu.1 0 _ rfl) Tryz.underlying32 rfl (by kernel_rfl)) hHeld ?_
    try simp only [Act.put, List.setIfInBounds_toArray, List.set_cons_zero, List.set_cons_succ]
    refine wpAnyH_take (i := 8) (oi := ⟨some 13, _, _, _, _, _⟩) (v := .agg ((#[.int .i64 b.id, .int .i64 b.si, .int .i64 b.sr, .int .i64 b.cl, .int .i64 b.pt.kd, .int .i64 b.pt.wh, .int .i64 b.pt.sr, .int .i64 b.pt.tr, .int .i64 b.pt.pi, .int .i64 b.pt.le, .int .i64 b.pt.zo, .int .i64 b.gd.kd, .int .i64 b.gd.nn, .int .i64 b.ac.kd, .int .i64 b.ac.nn, .int .i64 b.ac.pi, .int .i64 b.ac.si, .int .i64 b.ac.zo, .bool b.ac.be, .slice b.ac.la b.ac.ln b.ac.lcap, .int .i64 b.un, .int .i64 b.le] : Array Value).toList).toArray) rfl (by kernel_rfl) (by kernel_rfl) (by kernel_rfl) (fun _ _ _ h => h) (yieldsIf_load_mid (by kernel_rfl) 32 (.tmp 3) rfl (w.heap.size + 1) 0 (by rfl) ((#[.int .i64 b.id, .int .i64 b.si, .int .i64 b.sr, .int .i64 b.cl, .int .i64 b.pt.kd, .int .i64 b.pt.wh, .int .i64 b.pt.sr, .int .i64 b.pt.tr, .int .i64 b.pt.pi, .int .i64 b.pt.le, .int .i64 b.pt.zo, .int .i64 b.gd.kd, .int .i64 b.gd.nn, .int .i64 b.ac.kd, .int .i64 b.ac.nn, .int .i64 b.ac.pi, .int .i64 b.ac.si, .int .i64 b.ac.zo, .bool b.ac.be, .slice b.ac.la b.ac.ln b.ac.lcap, .int .i64 b.un, .int .i64 b.le] : Array Value).toList) _ (fun u hu => BoxR.sub hu.2.1 0 _ rfl) Tryz.underlying32 rfl (by kernel_rfl)) hHeld ?_
    try simp only [Act.put, List.setIfInBounds_toArray, List.set_cons_zero, List.set_cons_succ]
    refine wpAnyH_ready (rs := [7]) (by kernel_rfl) (by simp) ?_
    refine AllReadyH.cons rfl (fun K' hK => ?_) AllReadyH.nil
    go_simp
    go_at_call 53
    refine (standingOf_any a _).mono ?_
    rintro e v0 ⟨rfl, hb⟩
    have hq1 := below_app hq hb hq.size
    replace b1 := b1.grew hb
    replace b2 := b2.grew hb
    clear hb hq
    have hq := hq1
    clear hq1
    refine hK.out _ _ (SK.out _ b1 b2) (fun hHeld => ?_)
    clear hK
    try simp only [Act.put, List.setIfInBounds_toArray, List.set_cons_zero, List.set_cons_succ]
    refine wpAnyH_ready (rs := [9]) (by kernel_rfl) (by simp) ?_
    refine AllReadyH.cons rfl (fun K' hK => ?_) AllReadyH.nil
    go_simp
    go_at_call 53
    refine (standingOf_any b _).mono ?_
    rintro e v1 ⟨rfl, hb⟩
    have hq2 := below_app hq hb hq.size
    replace b1 := b1.grew hb
    replace b2 := b2.grew hb
    clear hb hq
    have hq := hq2
    clear hq2
    refine hK.out _ _ (SK.out _ b1 b2) (fun hHeld => ?_)
    clear hK
    try simp only [Act.put, List.setIfInBounds_toArray, List.set_cons_zero, List.set_cons_succ]
    refine wpAnyH_take (i := 10) (oi := ⟨some 15, _, _, _, _, _⟩) (v := .bool false) rfl (by kernel_rfl) (by kernel_rfl) (by kernel_rfl) (fun _ _ _ h => h) (Or.inl ⟨by kernel_rfl, fun u hSu => by clear hSu; go_simp; intro q0 q1 q2 q3 q4 q5 q6 q7 q8 q9 q10 q11 q12 q13; have hv := HV.out; unfold smSgV at hv; simp_all⟩) hHeld ?_
    try simp only [Act.put, List.setIfInBounds_toArray, List.set_cons_zero, List.set_cons_succ]
    refine wpAnyH_take (i := 11) (oi := ⟨some 16, _, _, _, _, _⟩) (v := .bool false) rfl (by kernel_rfl) (by kernel_rfl) (by kernel_rfl) (fun _ _ _ h => h) (Or.inl ⟨by kernel_rfl, fun u hSu => by (try dsimp only at hSu); go_simp⟩) hHeld ?_
    try simp only [Act.put, List.setIfInBounds_toArray, List.set_cons_zero, List.set_cons_succ]
    refine wpAnyH_take (i := 12) (oi := ⟨some 17, _, _, _, _, _⟩) (v := .bool false) rfl (by kernel_rfl) (by kernel_rfl) (by kernel_rfl) (fun _ _ _ h => h) (Or.inl ⟨by kernel_rfl, fun u hSu => by (try dsimp only at hSu); go_simp⟩) hHeld ?_
    try simp only [Act.put, List.setIfInBounds_toArray, List.set_cons_zero, List.set_cons_succ]
    refine wpAnyH_take (i := 13) (oi := ⟨some 18, _, _, _, _, _⟩) (v := undef) rfl (by kernel_rfl) (by kernel_rfl) (by kernel_rfl) (fun _ _ _ h => h) (Or.inr ⟨by kernel_rfl, rfl⟩) hHeld ?_
    try simp only [Act.put, List.setIfInBounds_toArray, List.set_cons_zero, List.set_cons_succ]
    refine wpAnyH_take (i := 14) (oi := ⟨some 19, _, _, _, _, _⟩) (v := undef) rfl (by kernel_rfl) (by kernel_rfl) (by kernel_rfl) (fun _ _ _ h => h) (Or.inr ⟨by kernel_rfl, rfl⟩) hHeld ?_
    try simp only [Act.put, List.setIfInBounds_toArray, List.set_cons_zero, List.set_cons_succ]
    refine wpAnyH_take (i := 15) (oi := ⟨some 20, _, _, _, _, _⟩) (v := undef) rfl (by kernel_rfl) (by kernel_rfl) (by kernel_rfl) (fun _ _ _ h => h) (Or.inr ⟨by kernel_rfl, rfl⟩) hHeld ?_
    try simp only [Act.put, List.setIfInBounds_toArray, List.set_cons_zero, List.set_cons_succ]
    refine wpAnyH_take (i := 16) (oi := ⟨some 21, _, _, _, _, _⟩) (v := undef) rfl (by kernel_rfl) (by kernel_rfl) (by kernel_rfl) (fun _ _ _ h => h) (Or.inr ⟨by kernel_rfl, rfl⟩) hHeld ?_
    try simp only [Act.put, List.setIfInBounds_toArray, List.set_cons_zero, List.set_cons_succ]
    refine wpAnyH_take (i := 17) (oi := ⟨some 22, _, _, _, _, _⟩) (v := undef) rfl (by kernel_rfl) (by kernel_rfl) (by kernel_rfl) (fun _ _ _ h => h) (Or.inr ⟨by kernel_rfl, rfl⟩) hHeld ?_
    try simp only [Act.put, List.setIfInBounds_toArray, List.set_cons_zero, List.set_cons_succ]
    refine wpAnyH_take (i := 18) (oi := ⟨some 23, _, _, _, _, _⟩) (v := .bool false) rfl (by kernel_rfl) (by kernel_rfl) (by kernel_rfl) (fun _ _ _ h => h) (Or.inl ⟨by kernel_rfl, fun u hSu => by (try dsimp only at hSu); go_simp⟩) hHeld ?_
    try simp only [Act.put, List.setIfInBounds_toArray, List.set_cons_zero, List.set_cons_succ]
    refine wpAnyH_take (i := 19) (oi := ⟨some 4, _, _, _, _, _⟩) (v := .bool false) rfl (by kernel_rfl) (by kernel_rfl) (by kernel_rfl) (fun _ _ _ h => h) (Or.inl ⟨by kernel_rfl, fun u hSu => by (try dsimp only at hSu); go_simp⟩) hHeld ?_
    try simp only [Act.put, List.setIfInBounds_toArray, List.set_cons_zero, List.set_cons_succ]
    refine wpAnyH_done (by kernel_rfl) ?_ _
    clear hHeld SK
    go_wp2
    go_ret
    exact ⟨ret_bool' HA.out.symm, hq⟩
set_option maxHeartbeats 4000000 in
theorem ise_2 (a b : Ef) (w : World) (ha : a.okW w) (hb_ : b.okW w) (hn : a.ac.ln ≤ 9223372036854775807) (hm : b.ac.ln ≤ 9223372036854775807) (h0 : (a.id == b.id) = true) (h1 : smSgV a b = true) : Calls Tryz.prog 16 #[(.agg #[.int .i64 a.id, .int .i64 a.si, .int .i64 a.sr, .int .i64 a.cl, .int .i64 a.pt.kd, .int .i64 a.pt.wh, .int .i64 a.pt.sr, .int .i64 a.pt.tr, .int .i64 a.pt.pi, .int .i64 a.pt.le, .int .i64 a.pt.zo, .int .i64 a.gd.kd, .int .i64 a.gd.nn, .int .i64 a.ac.kd, .int .i64 a.ac.nn, .int .i64 a.ac.pi, .int .i64 a.ac.si, .int .i64 a.ac.zo, .bool a.ac.be, .slice a.ac.la a.ac.ln a.ac.lcap, .int .i64 a.un, .int .i64 a.le]), (.agg #[.int .i64 b.id, .int .i64 b.si, .int .i64 b.sr, .int .i64 b.cl, .int .i64 b.pt.kd, .int .i64 b.pt.wh, .int .i64 b.pt.sr, .int .i64 b.pt.tr, .int .i64 b.pt.pi, .int .i64 b.pt.le, .int .i64 b.pt.zo, .int .i64 b.gd.kd, .int .i64 b.gd.nn, .int .i64 b.ac.kd, .int .i64 b.ac.nn, .int .i64 b.ac.pi, .int .i64 b.ac.si, .int .i64 b.ac.zo, .bool b.ac.be, .slice b.ac.la b.ac.ln b.ac.lcap, .int .i64 b.un, .int .i64 b.le])] w fun e w' => e = .returned (.bool (smEf a b)) ∧ Below w.heap.size w w' := by
  have h0' : decide (a.id = b.id) = (a.id == b.id) := by first | rfl | simp
  have HA : Hid (smEf a b = smA a.ac b.ac) := by show _ = _; unfold smEf smA; rw [smH_eq, h0', h0, h1]; simp
  have HC : Hid (∀ u : World, Below w.heap.size w u → Calls Tryz.prog 70 #[(.agg #[.int .i64 a.ac.kd, .int .i64 a.ac.nn, .int .i64 a.ac.pi, .int .i64 a.ac.si, .int .i64 a.ac.zo, .bool a.ac.be, .slice a.ac.la a.ac.ln a.ac.lcap]), (.agg #[.int .i64 b.ac.kd, .int .i64 b.ac.nn, .int .i64 b.ac.pi, .int .i64 b.ac.si, .int .i64 b.ac.zo, .bool b.ac.be, .slice b.ac.la b.ac.ln b.ac.lcap])] u fun e w' => e = .returned (.bool (smA a.ac b.ac)) ∧ Below u.heap.size u w') := fun u hu => sameAct_any a.ac b.ac u (act_grew ha.1 hu) (act_grew hb_.1 hu) hn hm
  generalize smA a.ac b.ac = bl at HA HC
  have HV : Hid (smSgV a b = true) := h1
  clear ha hb_ hn hm h0' h1
  have HB := ((Below.refl _ w).alloc (Nat.le_refl _) (.cells #[.int .i64 a.id, .int .i64 a.si, .int .i64 a.sr, .int .i64 a.cl, .int .i64 a.pt.kd, .int .i64 a.pt.wh, .int .i64 a.pt.sr, .int .i64 a.pt.tr, .int .i64 a.pt.pi, .int .i64 a.pt.le, .int .i64 a.pt.zo, .int .i64 a.gd.kd, .int .i64 a.gd.nn, .int .i64 a.ac.kd, .int .i64 a.ac.nn, .int .i64 a.ac.pi, .int .i64 a.ac.si, .int .i64 a.ac.zo, .bool a.ac.be, .slice a.ac.la a.ac.ln a.ac.lcap, .int .i64 a.un, .int .i64 a.le] 32)).alloc (by simp) (.cells #[.int .i64 b.id, .int .i64 b.si, .int .i64 b.sr, .int .i64 b.cl, .int .i64 b.pt.kd, .int .i64 b.pt.wh, .int .i64 b.pt.sr, .int .i64 b.pt.tr, .int .i64 b.pt.pi, .int .i64 b.pt.le, .int .i64 b.pt.zo, .int .i64 b.gd.kd, .int .i64 b.gd.nn, .int .i64 b.ac.kd, .int .i64 b.ac.nn, .int .i64 b.ac.pi, .int .i64 b.ac.si, .int .i64 b.ac.zo, .bool b.ac.be, .slice b.ac.la b.ac.ln b.ac.lcap, .int .i64 b.un, .int .i64 b.le] 32)
  have b1 := (boxR_new w 32 #[.int .i64 a.id, .int .i64 a.si, .int .i64 a.sr, .int .i64 a.cl, .int .i64 a.pt.kd, .int .i64 a.pt.wh, .int .i64 a.pt.sr, .int .i64 a.pt.tr, .int .i64 a.pt.pi, .int .i64 a.pt.le, .int .i64 a.pt.zo, .int .i64 a.gd.kd, .int .i64 a.gd.nn, .int .i64 a.ac.kd, .int .i64 a.ac.nn, .int .i64 a.ac.pi, .int .i64 a.ac.si, .int .i64 a.ac.zo, .bool a.ac.be, .slice a.ac.la a.ac.ln a.ac.lcap, .int .i64 a.un, .int .i64 a.le]).alloc (.cells #[.int .i64 b.id, .int .i64 b.si, .int .i64 b.sr, .int .i64 b.cl, .int .i64 b.pt.kd, .int .i64 b.pt.wh, .int .i64 b.pt.sr, .int .i64 b.pt.tr, .int .i64 b.pt.pi, .int .i64 b.pt.le, .int .i64 b.pt.zo, .int .i64 b.gd.kd, .int .i64 b.gd.nn, .int .i64 b.ac.kd, .int .i64 b.ac.nn, .int .i64 b.ac.pi, .int .i64 b.ac.si, .int .i64 b.ac.zo, .bool b.ac.be, .slice b.ac.la b.ac.ln b.ac.lcap, .int .i64 b.un, .int .i64 b.le] 32)
  have b2 : BoxR ((w.alloc (.cells #[.int .i64 a.id, .int .i64 a.si, .int .i64 a.sr, .int .i64 a.cl, .int .i64 a.pt.kd, .int .i64 a.pt.wh, .int .i64 a.pt.sr, .int .i64 a.pt.tr, .int .i64 a.pt.pi, .int .i64 a.pt.le, .int .i64 a.pt.zo, .int .i64 a.gd.kd, .int .i64 a.gd.nn, .int .i64 a.ac.kd, .int .i64 a.ac.nn, .int .i64 a.ac.pi, .int .i64 a.ac.si, .int .i64 a.ac.zo, .bool a.ac.be, .slice a.ac.la a.ac.ln a.ac.lcap, .int .i64 a.un, .int .i64 a.le] 32)).alloc (.cells #[.int .i64 b.id, .int .i64 b.si, .int .i64 b.sr, .int .i64 b.cl, .int .i64 b.pt.kd, .int .i64 b.pt.wh, .int .i64 b.pt.sr, .int .i64 b.pt.tr, .int .i64 b.pt.pi, .int .i64 b.pt.le, .int .i64 b.pt.zo, .int .i64 b.gd.kd, .int .i64 b.gd.nn, .int .i64 b.ac.kd, .int .i64 b.ac.nn, .int .i64 b.ac.pi, .int .i64 b.ac.si, .int .i64 b.ac.zo, .bool b.ac.be, .slice b.ac.la b.ac.ln b.ac.lcap, .int .i64 b.un, .int .i64 b.le] 32)) (w.heap.size + 1) 32 #[.int .i64 b.id, .int .i64 b.si, .int .i64 b.sr, .int .i64 b.cl, .int .i64 b.pt.kd, .int .i64 b.pt.wh, .int .i64 b.pt.sr, .int .i64 b.pt.tr, .int .i64 b.pt.pi, .int .i64 b.pt.le, .int .i64 b.pt.zo, .int .i64 b.gd.kd, .int .i64 b.gd.nn, .int .i64 b.ac.kd, .int .i64 b.ac.nn, .int .i64 b.ac.pi, .int .i64 b.ac.si, .int .i64 b.ac.zo, .bool b.ac.be, .slice b.ac.la b.ac.ln b.ac.lcap, .int .i64 b.un, .int .i64 b.le] := heap_alloc2_new _ _ _
  generalize hW : (w.alloc (.cells #[.int .i64 a.id, .int .i64 a.si, .int .i64 a.sr, .int .i64 a.cl, .int .i64 a.pt.kd, .int .i64 a.pt.wh, .int .i64 a.pt.sr, .int .i64 a.pt.tr, .int .i64 a.pt.pi, .int .i64 a.pt.le, .int .i64 a.pt.zo, .int .i64 a.gd.kd, .int .i64 a.gd.nn, .int .i64 a.ac.kd, .int .i64 a.ac.nn, .int .i64 a.ac.pi, .int .i64 a.ac.si, .int .i64 a.ac.zo, .bool a.ac.be, .slice a.ac.la a.ac.ln a.ac.lcap, .int .i64 a.un, .int .i64 a.le] 32)).alloc (.cells #[.int .i64 b.id, .int .i64 b.si, .int .i64 b.sr, .int .i64 b.cl, .int .i64 b.pt.kd, .int .i64 b.pt.wh, .int .i64 b.pt.sr, .int .i64 b.pt.tr, .int .i64 b.pt.pi, .int .i64 b.pt.le, .int .i64 b.pt.zo, .int .i64 b.gd.kd, .int .i64 b.gd.nn, .int .i64 b.ac.kd, .int .i64 b.ac.nn, .int .i64 b.ac.pi, .int .i64 b.ac.si, .int .i64 b.ac.zo, .bool b.ac.be, .slice b.ac.la b.ac.ln b.ac.lcap, .int .i64 b.un, .int .i64 b.le] 32) = W at HB b1 b2
  go_enter Tryz.func16, Tryz.ntmps16
  go_wp2_with fail
  clear hW
  as_aux_lemma =>
    have SK : Hid (∀ u : World, BoxR u w.heap.size 32 #[.int .i64 a.id, .int .i64 a.si, .int .i64 a.sr, .int .i64 a.cl, .int .i64 a.pt.kd, .int .i64 a.pt.wh, .int .i64 a.pt.sr, .int .i64 a.pt.tr, .int .i64 a.pt.pi, .int .i64 a.pt.le, .int .i64 a.pt.zo, .int .i64 a.gd.kd, .int .i64 a.gd.nn, .int .i64 a.ac.kd, .int .i64 a.ac.nn, .int .i64 a.ac.pi, .int .i64 a.ac.si, .int .i64 a.ac.zo, .bool a.ac.be, .slice a.ac.la a.ac.ln a.ac.lcap, .int .i64 a.un, .int .i64 a.le] → BoxR u (w.heap.size + 1) 32 #[.int .i64 b.id, .int .i64 b.si, .int .i64 b.sr, .int .i64 b.cl, .int .i64 b.pt.kd, .int .i64 b.pt.wh, .int .i64 b.pt.sr, .int .i64 b.pt.tr, .int .i64 b.pt.pi, .int .i64 b.pt.le, .int .i64 b.pt.zo, .int .i64 b.gd.kd, .int .i64 b.gd.nn, .int .i64 b.ac.kd, .int .i64 b.ac.nn, .int .i64 b.ac.pi, .int .i64 b.ac.si, .int .i64 b.ac.zo, .bool b.ac.be, .slice b.ac.la b.ac.ln b.ac.lcap, .int .i64 b.un, .int .i64 b.le] → BoxR u w.heap.size 32 #[.int .i64 a.id, .int .i64 a.si, .int .i64 a.sr, .int .i64 a.cl, .int .i64 a.pt.kd, .int .i64 a.pt.wh, .int .i64 a.pt.sr, .int .i64 a.pt.tr, .int .i64 a.pt.pi, .int .i64 a.pt.le, .int .i64 a.pt.zo, .int .i64 a.gd.kd, .int .i64 a.gd.nn, .int .i64 a.ac.kd, .int .i64 a.ac.nn, .int .i64 a.ac.pi, .int .i64 a.ac.si, .int .i64 a.ac.zo, .bool a.ac.be, .slice a.ac.la a.ac.ln a.ac.lcap, .int .i64 a.un, .int .i64 a.le] ∧ BoxR u (w.heap.size + 1) 32 #[.int .i64 b.id, .int .i64 b.si, .int .i64 b.sr, .int .i64 b.cl, .int .i64 b.pt.kd, .int .i64 b.pt.wh, .int .i64 b.pt.sr, .int .i64 b.pt.tr, .int .i64 b.pt.pi, .int .i64 b.pt.le, .int .i64 b.pt.zo, .int .i64 b.gd.kd, .int .i64 b.gd.nn, .int .i64 b.ac.kd, .int .i64 b.ac.nn, .int .i64 b.ac.pi, .int .i64 b.ac.si, .int .i64 b.ac.zo, .bool b.ac.be, .slice b.ac.la b.ac.ln b.ac.lcap, .int .i64 b.un, .int .i64 b.le] ∧ u.cell? ⟨w.heap.size, 0, none⟩ = some (.int .i64 a.id) ∧ u.cell? ⟨w.heap.size + 1, 0, none⟩ = some (.int .i64 b.id)) := fun u h k => ⟨h, k, h.cell 0, k.cell 0⟩
    have hq0 : Below W.heap.size W W.drew := (Below.refl _ W).drew
    have hq := below_app HB hq0 HB.size
    replace b1 := b1.grew hq0
    replace b2 := b2.grew hq0
    clear hq0 HB
    refine wp_region_held_drew (S := fun u : World => BoxR u w.heap.size 32 #[.int .i64 a.id, .int .i64 a.si, .int .i64 a.sr, .int .i64 a.cl, .int .i64 a.pt.kd, .int .i64 a.pt.wh, .int .i64 a.pt.sr, .int .i64 a.pt.tr, .int .i64 a.pt.pi, .int .i64 a.pt.le, .int .i64 a.pt.zo, .int .i64 a.gd.kd, .int .i64 a.gd.nn, .int .i64 a.ac.kd, .int .i64 a.ac.nn, .int .i64 a.ac.pi, .int .i64 a.ac.si, .int .i64 a.ac.zo, .bool a.ac.be, .slice a.ac.la a.ac.ln a.ac.lcap, .int .i64 a.un, .int .i64 a.le] ∧ BoxR u (w.heap.size + 1) 32 #[.int .i64 b.id, .int .i64 b.si, .int .i64 b.sr, .int .i64 b.cl, .int .i64 b.pt.kd, .int .i64 b.pt.wh, .int .i64 b.pt.sr, .int .i64 b.pt.tr, .int .i64 b.pt.pi, .int .i64 b.pt.le, .int .i64 b.pt.zo, .int .i64 b.gd.kd, .int .i64 b.gd.nn, .int .i64 b.ac.kd, .int .i64 b.ac.nn, .int .i64 b.ac.pi, .int .i64 b.ac.si, .int .i64 b.ac.zo, .bool b.ac.be, .slice b.ac.la b.ac.ln b.ac.lcap, .int .i64 b.un, .int .i64 b.le] ∧ u.cell? ⟨w.heap.size, 0, none⟩ = some (.int .i64 a.id) ∧ u.cell? ⟨w.heap.size + 1, 0, none⟩ = some (.int .i64 b.id)) (by kernel_rfl) (SK.out _ b1 b2) (fun hHeld => ?_)
    refine wpAnyH_take (i := 0) (oi := ⟨some 5, _, _, _, _, _⟩) (v := .pointer (some ⟨w.heap.size, 0, none⟩)) rfl (by kernel_rfl) (by kernel_rfl) (by kernel_rfl) (fun _ _ _ h => h) (Or.inl ⟨by kernel_rfl, fun u hSu => by (try dsimp only at hSu); go_simp⟩) hHeld ?_
    try simp only [Act.put, List.setIfInBounds_toArray, List.set_cons_zero, List.set_cons_succ]
    refine wpAnyH_take (i := 1) (oi := ⟨some 6, _, _, _, _, _⟩) (v := .int .i64 a.id) rfl (by kernel_rfl) (by kernel_rfl) (by kernel_rfl) (fun _ _ _ h => h) (Or.inl ⟨by kernel_rfl, fun u hSu => by (try dsimp only at hSu); go_simp⟩) hHeld ?_
    try simp only [Act.put, List.setIfInBounds_toArray, List.set_cons_zero, List.set_cons_succ]
    refine wpAnyH_take (i := 2) (oi := ⟨some 7, _, _, _, _, _⟩) (v := .pointer (some ⟨w.heap.size + 1, 0, none⟩)) rfl (by kernel_rfl) (by kernel_rfl) (by kernel_rfl) (fun _ _ _ h => h) (Or.inl ⟨by kernel_rfl, fun u hSu => by (try dsimp only at hSu); go_simp⟩) hHeld ?_
    try simp only [Act.put, List.setIfInBounds_toArray, List.set_cons_zero, List.set_cons_succ]
    refine wpAnyH_take (i := 3) (oi := ⟨some 8, _, _, _, _, _⟩) (v := .int .i64 b.id) rfl (by kernel_rfl) (by kernel_rfl) (by kernel_rfl) (fun _ _ _ h => h) (Or.inl ⟨by kernel_rfl, fun u hSu => by (try dsimp only at hSu); go_simp⟩) hHeld ?_
    try simp only [Act.put, List.setIfInBounds_toArray, List.set_cons_zero, List.set_cons_succ]
    refine wpAnyH_take (i := 4) (oi := ⟨some 9, _, _, _, _, _⟩) (v := .bool true) rfl (by kernel_rfl) (by kernel_rfl) (by kernel_rfl) (fun _ _ _ h => h) (Or.inl ⟨by kernel_rfl, fun u hSu => by (try dsimp only at hSu); go_simp⟩) hHeld ?_
    try simp only [Act.put, List.setIfInBounds_toArray, List.set_cons_zero, List.set_cons_succ]
    refine wpAnyH_take (i := 5) (oi := ⟨some 10, _, _, _, _, _⟩) (v := .bool true) rfl (by kernel_rfl) (by kernel_rfl) (by kernel_rfl) (fun _ _ _ h => h) (Or.inl ⟨by kernel_rfl, fun u hSu => by (try dsimp only at hSu); go_simp⟩) hHeld ?_
    try simp only [Act.put, List.setIfInBounds_toArray, List.set_cons_zero, List.set_cons_succ]
    refine wpAnyH_take (i := 6) (oi := ⟨some 11, _, _, _, _, _⟩) (v := .agg ((#[.int .i64 a.id, .int .i64 a.si, .int .i64 a.sr, .int .i64 a.cl, .int .i64 a.pt.kd, .int .i64 a.pt.wh, .int .i64 a.pt.sr, .int .i64 a.pt.tr, .int .i64 a.pt.pi, .int .i64 a.pt.le, .int .i64 a.pt.zo, .int .i64 a.gd.kd, .int .i64 a.gd.nn, .int .i64 a.ac.kd, .int .i64 a.ac.nn, .int .i64 a.ac.pi, .int .i64 a.ac.si, .int .i64 a.ac.zo, .bool a.ac.be, .slice a.ac.la a.ac.ln a.ac.lcap, .int .i64 a.un, .int .i64 a.le] : Array Value).toList).toArray) rfl (by kernel_rfl) (by kernel_rfl) (by kernel_rfl) (fun _ _ _ h => h) (yieldsIf_load_mid (by kernel_rfl) 32 (.tmp 2) rfl (w.heap.size) 0 (by rfl) ((#[.int .i64 a.id, .int .i64 a.si, .int .i64 a.sr, .int .i64 a.cl, .int .i64 a.pt.kd, .int .i64 a.pt.wh, .int .i64 a.pt.sr, .int .i64 a.pt.tr, .int .i64 a.pt.pi, .int .i64 a.pt.le, .int .i64 a.pt.zo, .int .i64 a.gd.kd, .int .i64 a.gd.nn, .int .i64 a.ac.kd, .int .i64 a.ac.nn, .int .i64 a.ac.pi, .int .i64 a.ac.si, .int .i64 a.ac.zo, .bool a.ac.be, .slice a.ac.la a.ac.ln a.ac.lcap, .int .i64 a.un, .int .i64 a.le] : Array Value).toList) _ (fun u hu => BoxR.sub hu.1 0 _ rfl) Tryz.underlying32 rfl (by kernel_rfl)) hHeld ?_
    try simp only [Act.put, List.setIfInBounds_toArray, List.set_cons_zero, List.set_cons_succ]
    refine wpAnyH_take (i := 8) (oi := ⟨some 13, _, _, _, _, _⟩) (v := .agg ((#[.int .i64 b.id, .int .i64 b.si, .int .i64 b.sr, .int .i64 b.cl, .int .i64 b.pt.kd, .int .i64 b.pt.wh, .int .i64 b.pt.sr, .int .i64 b.pt.tr, .int .i64 b.pt.pi, .int .i64 b.pt.le, .int .i64 b.pt.zo, .int .i64 b.gd.kd, .int .i64 b.gd.nn, .int .i64 b.ac.kd, .int .i64 b.ac.nn, .int .i64 b.ac.pi, .int .i64 b.ac.si, .int .i64 b.ac.zo, .bool b.ac.be, .slice b.ac.la b.ac.ln b.ac.lcap, .int .i64 b.un, .int .i64 b.le] : Array Value).toList).toArray) rfl (by kernel_rfl) (by kernel_rfl) (by kernel_rfl) (fun _ _ _ h => h) (yieldsIf_load_mid (by kernel_rfl) 32 (.tmp 3) rfl (w.heap.size + 1) 0 (by rfl) ((#[.int .i64 b.id, .int .i64 b.si, .int .i64 b.sr, .int .i64 b.cl, .int .i64 b.pt.kd, .int .i64 b.pt.wh, .int .i64 b.pt.sr, .int .i64 b.pt.tr, .int .i64 b.pt.pi, .int .i64 b.pt.le, .int .i64 b.pt.zo, .int .i64 b.gd.kd, .int .i64 b.gd.nn, .int .i64 b.ac.kd, .int .i64 b.ac.nn, .int .i64 b.ac.pi, .int .i64 b.ac.si, .int .i64 b.ac.zo, .bool b.ac.be, .slice b.ac.la b.ac.ln b.ac.lcap, .int .i64 b.un, .int .i64 b.le] : Array Value).toList) _ (fun u hu => BoxR.sub hu.2.1 0 _ rfl) Tryz.underlying32 rfl (by kernel_rfl)) hHeld ?_
    try simp only [Act.put, List.setIfInBounds_toArray, List.set_cons_zero, List.set_cons_succ]
    refine wpAnyH_ready (rs := [7]) (by kernel_rfl) (by simp) ?_
    refine AllReadyH.cons rfl (fun K' hK => ?_) AllReadyH.nil
    go_simp
    go_at_call 53
    refine (standingOf_any a _).mono ?_
    rintro e v0 ⟨rfl, hb⟩
    have hq1 := below_app hq hb hq.size
    replace b1 := b1.grew hb
    replace b2 := b2.grew hb
    clear hb hq
    have hq := hq1
    clear hq1
    refine hK.out _ _ (SK.out _ b1 b2) (fun hHeld => ?_)
    clear hK
    try simp only [Act.put, List.setIfInBounds_toArray, List.set_cons_zero, List.set_cons_succ]
    refine wpAnyH_ready (rs := [9]) (by kernel_rfl) (by simp) ?_
    refine AllReadyH.cons rfl (fun K' hK => ?_) AllReadyH.nil
    go_simp
    go_at_call 53
    refine (standingOf_any b _).mono ?_
    rintro e v1 ⟨rfl, hb⟩
    have hq2 := below_app hq hb hq.size
    replace b1 := b1.grew hb
    replace b2 := b2.grew hb
    clear hb hq
    have hq := hq2
    clear hq2
    refine hK.out _ _ (SK.out _ b1 b2) (fun hHeld => ?_)
    clear hK
    try simp only [Act.put, List.setIfInBounds_toArray, List.set_cons_zero, List.set_cons_succ]
    refine wpAnyH_take (i := 10) (oi := ⟨some 15, _, _, _, _, _⟩) (v := .bool true) rfl (by kernel_rfl) (by kernel_rfl) (by kernel_rfl) (fun _ _ _ h => h) (Or.inl ⟨by kernel_rfl, fun u hSu => by clear hSu; have hv := HV.out; unfold smSgV at hv; simp only [Bool.and_eq_true, decide_eq_true_eq, and_assoc] at hv; obtain ⟨q0, q1, q2, q3, q4, q5, q6, q7, q8, q9, q10, q11, q12, q13⟩ := hv; go_simp⟩) hHeld ?_
    try simp only [Act.put, List.setIfInBounds_toArray, List.set_cons_zero, List.set_cons_succ]
    refine wpAnyH_take (i := 11) (oi := ⟨some 16, _, _, _, _, _⟩) (v := .bool true) rfl (by kernel_rfl) (by kernel_rfl) (by kernel_rfl) (fun _ _ _ h => h) (Or.inl ⟨by kernel_rfl, fun u hSu => by (try dsimp only at hSu); go_simp⟩) hHeld ?_
    try simp only [Act.put, List.setIfInBounds_toArray, List.set_cons_zero, List.set_cons_succ]
    refine wpAnyH_take (i := 12) (oi := ⟨some 17, _, _, _, _, _⟩) (v := .bool true) rfl (by kernel_rfl) (by kernel_rfl) (by kernel_rfl) (fun _ _ _ h => h) (Or.inl ⟨by kernel_rfl, fun u hSu => by (try dsimp only at hSu); go_simp⟩) hHeld ?_
    try simp only [Act.put, List.setIfInBounds_toArray, List.set_cons_zero, List.set_cons_succ]
    refine wpAnyH_take (i := 13) (oi := ⟨some 18, _, _, _, _, _⟩) (v := .pointer (some ⟨w.heap.size, 13, none⟩)) rfl (by kernel_rfl) (by kernel_rfl) (by kernel_rfl) (fun _ _ _ h => h) (Or.inl ⟨by kernel_rfl, fun u hSu => by (try dsimp only at hSu); go_simp⟩) hHeld ?_
    try simp only [Act.put, List.setIfInBounds_toArray, List.set_cons_zero, List.set_cons_succ]
    refine wpAnyH_take (i := 14) (oi := ⟨some 19, _, _, _, _, _⟩) (v := .agg ((#[.int .i64 a.ac.kd, .int .i64 a.ac.nn, .int .i64 a.ac.pi, .int .i64 a.ac.si, .int .i64 a.ac.zo, .bool a.ac.be, .slice a.ac.la a.ac.ln a.ac.lcap] : Array Value).toList).toArray) rfl (by kernel_rfl) (by kernel_rfl) (by kernel_rfl) (fun _ _ _ h => h) (yieldsIf_load_mid (by kernel_rfl) 30 (.tmp 18) rfl (w.heap.size) 13 (by rfl) ((#[.int .i64 a.ac.kd, .int .i64 a.ac.nn, .int .i64 a.ac.pi, .int .i64 a.ac.si, .int .i64 a.ac.zo, .bool a.ac.be, .slice a.ac.la a.ac.ln a.ac.lcap] : Array Value).toList) _ (fun u hu => BoxR.sub hu.1 13 _ rfl) Tryz.underlying30 rfl (by kernel_rfl)) hHeld ?_
    try simp only [Act.put, List.setIfInBounds_toArray, List.set_cons_zero, List.set_cons_succ]
    refine wpAnyH_take (i := 15) (oi := ⟨some 20, _, _, _, _, _⟩) (v := .pointer (some ⟨w.heap.size + 1, 13, none⟩)) rfl (by kernel_rfl) (by kernel_rfl) (by kernel_rfl) (fun _ _ _ h => h) (Or.inl ⟨by kernel_rfl, fun u hSu => by (try dsimp only at hSu); go_simp⟩) hHeld ?_
    try simp only [Act.put, List.setIfInBounds_toArray, List.set_cons_zero, List.set_cons_succ]
    refine wpAnyH_take (i := 16) (oi := ⟨some 21, _, _, _, _, _⟩) (v := .agg ((#[.int .i64 b.ac.kd, .int .i64 b.ac.nn, .int .i64 b.ac.pi, .int .i64 b.ac.si, .int .i64 b.ac.zo, .bool b.ac.be, .slice b.ac.la b.ac.ln b.ac.lcap] : Array Value).toList).toArray) rfl (by kernel_rfl) (by kernel_rfl) (by kernel_rfl) (fun _ _ _ h => h) (yieldsIf_load_mid (by kernel_rfl) 30 (.tmp 20) rfl (w.heap.size + 1) 13 (by rfl) ((#[.int .i64 b.ac.kd, .int .i64 b.ac.nn, .int .i64 b.ac.pi, .int .i64 b.ac.si, .int .i64 b.ac.zo, .bool b.ac.be, .slice b.ac.la b.ac.ln b.ac.lcap] : Array Value).toList) _ (fun u hu => BoxR.sub hu.2.1 13 _ rfl) Tryz.underlying30 rfl (by kernel_rfl)) hHeld ?_
    try simp only [Act.put, List.setIfInBounds_toArray, List.set_cons_zero, List.set_cons_succ]
    refine wpAnyH_ready (rs := [17]) (by kernel_rfl) (by simp) ?_
    refine AllReadyH.cons rfl (fun K' hK => ?_) AllReadyH.nil
    go_simp
    go_at_call 70
    refine (HC.out _ hq).mono ?_
    rintro e v2 ⟨rfl, hb⟩
    have hq3 := below_app hq hb hq.size
    replace b1 := b1.grew hb
    replace b2 := b2.grew hb
    clear hb hq
    have hq := hq3
    clear hq3
    refine hK.out _ _ (SK.out _ b1 b2) (fun hHeld => ?_)
    clear hK
    try simp only [Act.put, List.setIfInBounds_toArray, List.set_cons_zero, List.set_cons_succ]
    refine wpAnyH_take (i := 18) (oi := ⟨some 23, _, _, _, _, _⟩) (v := .bool bl) rfl (by kernel_rfl) (by kernel_rfl) (by kernel_rfl) (fun _ _ _ h => h) (Or.inl ⟨by kernel_rfl, fun u hSu => by (try dsimp only at hSu); go_simp⟩) hHeld ?_
    try simp only [Act.put, List.setIfInBounds_toArray, List.set_cons_zero, List.set_cons_succ]
    refine wpAnyH_take (i := 19) (oi := ⟨some 4, _, _, _, _, _⟩) (v := .bool bl) rfl (by kernel_rfl) (by kernel_rfl) (by kernel_rfl) (fun _ _ _ h => h) (Or.inl ⟨by kernel_rfl, fun u hSu => by (try dsimp only at hSu); go_simp⟩) hHeld ?_
    try simp only [Act.put, List.setIfInBounds_toArray, List.set_cons_zero, List.set_cons_succ]
    refine wpAnyH_done (by kernel_rfl) ?_ _
    clear hHeld SK
    go_wp2
    go_ret
    exact ⟨ret_bool' HA.out.symm, hq⟩
theorem implSameEffect_any (a b : Ef) (w : World) (ha : a.okW w) (hb : b.okW w) (hn : a.ac.ln ≤ 1048577) : Calls Tryz.prog 16 #[(.agg #[.int .i64 a.id, .int .i64 a.si, .int .i64 a.sr, .int .i64 a.cl, .int .i64 a.pt.kd, .int .i64 a.pt.wh, .int .i64 a.pt.sr, .int .i64 a.pt.tr, .int .i64 a.pt.pi, .int .i64 a.pt.le, .int .i64 a.pt.zo, .int .i64 a.gd.kd, .int .i64 a.gd.nn, .int .i64 a.ac.kd, .int .i64 a.ac.nn, .int .i64 a.ac.pi, .int .i64 a.ac.si, .int .i64 a.ac.zo, .bool a.ac.be, .slice a.ac.la a.ac.ln a.ac.lcap, .int .i64 a.un, .int .i64 a.le]), (.agg #[.int .i64 b.id, .int .i64 b.si, .int .i64 b.sr, .int .i64 b.cl, .int .i64 b.pt.kd, .int .i64 b.pt.wh, .int .i64 b.pt.sr, .int .i64 b.pt.tr, .int .i64 b.pt.pi, .int .i64 b.pt.le, .int .i64 b.pt.zo, .int .i64 b.gd.kd, .int .i64 b.gd.nn, .int .i64 b.ac.kd, .int .i64 b.ac.nn, .int .i64 b.ac.pi, .int .i64 b.ac.si, .int .i64 b.ac.zo, .bool b.ac.be, .slice b.ac.la b.ac.ln b.ac.lcap, .int .i64 b.un, .int .i64 b.le])] w fun e w' => e = .returned (.bool (smEf a b)) ∧ Below w.heap.size w w' := by
  have hm : b.ac.ln ≤ 9223372036854775807 := by have := hb.1.1; have := hb.1.2.1; unfold maxLen at *; omega
  have hn' : a.ac.ln ≤ 9223372036854775807 := by omega
  cases h0 : (a.id == b.id) with
  | false => exact ise_0 a b w ha hb hn' hm h0
  | true =>
    cases h1 : smSgV a b with
    | false => exact ise_1 a b w ha hb hn' hm h0 h1
    | true => exact ise_2 a b w ha hb hn' hm h0 h1
end Go.Proofs.YtodfdfncdoliiadGreat
