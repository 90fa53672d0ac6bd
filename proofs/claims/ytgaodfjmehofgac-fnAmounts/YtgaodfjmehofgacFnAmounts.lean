/-
  What is proved: at every code (every slice of bytes, of whatever length), the law FnAmounts answers true: of a drawn act and amount the program's Amount is the specification's, within the bounds where the act may be; more is more unless the bound is met, half of twice is what it was unless the bound is met, and of what is stopped nothing is left; no condition.
-/
import Derived.Test.YtgaodfjmehofgacRows
import Derived.Test.YtgaodfjmehofgacCur
import Derived.Test.YtgaodfjmehofgacPiece
import Derived.Test.YtgaodfjmehofgacRow
import Derived.Test.YtgaodfjmehofgacPiece2
import Derived.Test.YtgaodfjmehofgacRowLaw
import Derived.Test.YtgaodfjmehofgacStaA
import Derived.Test.YtgaodfjmehofgacRegs
import Derived.Test.YtgaodfjmehofgacNum
import Derived.Test.YtgaodfjmehofgacPiece3
import Derived.Test.YtgaodfjmehofgacStaB
import Derived.Test.YtgaodfjmehofgacStMark
import Derived.Test.YtgaodfjmehofgacPieceOk
import Derived.Test.YtgaodfjmehofgacState6
import Derived.Test.YtgaodfjmehofgacStHeld
import Derived.Test.YtgaodfjmehofgacStS
import Derived.Test.YtgaodfjmehofgacStLaw
import Derived.Test.YtgaodfjmehofgacBytesA
import Derived.Test.YtgaodfjmehofgacPiece4
import Derived.Test.YtgaodfjmehofgacPiece5
import Derived.Test.YtgaodfjmehofgacStRow
import Derived.Test.YtgaodfjmehofgacStNew
import Derived.Test.YtgaodfjmehofgacCurs
import Derived.Test.YtgaodfjmehofgacDrawB
import Derived.Test.YtgaodfjmehofgacDrawP
import Derived.Test.YtgaodfjmehofgacDrawTA
import Derived.Test.YtgaodfjmehofgacEvA
import Derived.Test.YtgaodfjmehofgacDrawEI
import Derived.Test.YtgaodfjmehofgacEvN
import Derived.Test.YtgaodfjmehofgacAcP
import Derived.Test.YtgaodfjmehofgacEvW
import Derived.Test.YtgaodfjmehofgacEvBB
import Derived.Test.YtgaodfjmehofgacEvB
import Derived.Test.YtgaodfjmehofgacState8
import Derived.Test.YtgaodfjmehofgacStAt
import Derived.Test.YtgaodfjmehofgacAcBC
import Derived.Test.YtgaodfjmehofgacAcD
import Derived.Test.YtgaodfjmehofgacAcL
import Derived.Test.YtgaodfjmehofgacDrawAA
import Derived.Test.YtgaodfjmehofgacDrawA3
import Derived.Test.YtgaodfjmehofgacDrawAd
import Derived.Test.YtgaodfjmehofgacPieceI1
import Derived.Test.YtgaodfjmehofgacEvC
import Derived.Test.YtgaodfjmehofgacEvC1
import Derived.Test.YtgaodfjmehofgacEvC2
import Derived.Test.YtgaodfjmehofgacEvC3
import Derived.Test.YtgaodfjmehofgacEvD
import Derived.Test.YtgaodfjmehofgacAcQ
import Derived.Test.YtgaodfjmehofgacAcM
import Derived.WalkKit
import Derived.ProofKit
import Derived.OpenShut
import Derived.ShutString
import Derived.ChangeOld
import Derived.Below
namespace Go.Proofs.Ytgaodfjmehofgac.fnAmounts
open Go.ChangeShapes Go.WideShapes Go.ChangeAt Go.RowKit
open Go.ChangeMaps (open_string shut_string)
set_option linter.unusedVariables false

theorem own : ownKnob Try.prog.godebug = none := by kernel_rfl
theorem laidOut : laidOutB Try.prog = true := by kernel_rfl

/-- WHAT THE WALK IS TOLD OF A SLICE OF INTEGERS THAT CAME IN: it is nil; or it leads to a row of 'cap' cells, the numbers 'zs' (the first 'len' are its elements, the rest its spare room), each fitting its kind. -/
def IsRow (k : IntKind) (w : World) (a : Option Addr) (len cap : Nat) (zs : List Int) : Prop :=
  (a = none ∧ len = 0 ∧ cap = 0 ∧ zs = []) ∨
  ∃ x, a = some x ∧ len ≤ cap ∧ cap ≤ maxLen ∧ zs.length = cap ∧ (∀ i, i < zs.length → w.cell? (x.add i) = some (.int k (zs.getD i 0))) ∧ ∀ n ∈ zs, (Lit.int k n).wf = true

theorem am_4 (n : Int) : amA (⟨4, 0, 0, 0, 0, false, none, 0, 0, 0, fun _ => zE⟩ : Ac) n = tw (up n 2147483647) := by unfold amA; simp
theorem am_5 (n : Int) : amA (⟨5, 0, 0, 0, 0, false, none, 0, 0, 0, fun _ => zE⟩ : Ac) n = hf (up n 2147483647) := by unfold amA; simp
theorem am_1 (n : Int) : amA (⟨1, 0, 0, 0, 0, false, none, 0, 0, 0, fun _ => zE⟩ : Ac) n = 0 := by unfold amA; simp
theorem up_rng (n : Int) : 0 ≤ up n 2147483647 ∧ up n 2147483647 ≤ 2147483647 := by unfold up upt; (repeat' split) <;> omega
theorem am_rng (t : Ac) (n : Int) (h : okAc t = true) : 0 ≤ amA t n ∧ amA t n ≤ 2147483647 := by
  have hu := up_rng n
  unfold amA
  generalize up n 2147483647 = u at hu
  split
  · omega
  split
  · rename_i h1 h3
    have hp : 1 ≤ t.nn := by unfold okAc ib at h; simp [h3] at h; exact h.2.1
    unfold pl
    have e1 : bnd u = u := by unfold bnd; (repeat' split) <;> omega
    rw [e1]
    have e2 : 1 ≤ bnd t.nn := by unfold bnd; (repeat' split) <;> omega
    have e3 := bnd_rng t.nn
    unfold bnd at *
    (repeat' split) <;> omega
  split
  · unfold tw bnd; (repeat' split) <;> omega
  split
  · unfold hf
    have e1 : bnd u = u := by unfold bnd; (repeat' split) <;> omega
    rw [e1, Int.tdiv_eq_ediv_of_nonneg (by omega)]; omega
  · exact hu
theorem am_more (t : Ac) (n : Int) (h3 : t.kd = 3) (h : okAc t = true) : up n 2147483647 < amA t n ∨ (¬ up n 2147483647 < amA t n ∧ up n 2147483647 = 2147483647 ∧ amA t n = up n 2147483647) := by
  have hu := up_rng n
  have hp : 1 ≤ t.nn := by unfold okAc ib at h; simp [h3] at h; exact h.2.1
  have e0 : amA t n = pl (up n 2147483647) t.nn := by unfold amA; simp [h3]
  rw [e0]
  generalize up n 2147483647 = u at hu
  unfold pl
  have e1 : bnd u = u := by unfold bnd; (repeat' split) <;> omega
  rw [e1]
  have e2 : 1 ≤ bnd t.nn := by unfold bnd; (repeat' split) <;> omega
  generalize bnd t.nn = m at e2
  unfold bnd
  (repeat' split) <;> omega
theorem am_back (n : Int) : tw (up n 2147483647) = 2147483647 ∨ (¬ tw (up n 2147483647) = 2147483647 ∧ hf (up (tw (up n 2147483647)) 2147483647) = up n 2147483647) := by
  have hu := up_rng n
  generalize up n 2147483647 = u at hu
  unfold tw
  have e1 : bnd u = u := by unfold bnd; (repeat' split) <;> omega
  rw [e1]
  by_cases h : bnd (2 * u) = 2147483647
  · exact .inl h
  · refine .inr ⟨h, ?_⟩
    have e2 : bnd (2 * u) = 2 * u := by unfold bnd at h ⊢; (repeat' split at h) <;> (repeat' split) <;> omega
    rw [e2] at h ⊢
    have h' : 2 * u < 2147483647 := by unfold bnd at e2; (repeat' split at e2) <;> omega
    have e3 : up (2 * u) 2147483647 = 2 * u := by unfold up upt; (repeat' split) <;> omega
    rw [e3]
    unfold hf
    have e4 : bnd (2 * u) = 2 * u := e2
    rw [e4, Int.tdiv_eq_ediv_of_nonneg (by omega)]
    omega
set_option maxRecDepth 100000 in
set_option maxHeartbeats 4000000 in
theorem walk (a0 : Option Addr) (len0 cap0 : Nat) (z0 : List Int) (w : World) (w0 : IsRow .u8 w a0 len0 cap0 z0) :
    Calls Try.prog 6 #[.slice a0 len0 cap0] w fun e w' => e = .returned (.bool true) ∧ Below w.heap.size w w' := by
  have hc : Code w a0 len0 w.heap.size := code_of_row w0
  clear w0
  by_cases hbig : (1048576 : Int) < (len0 : Int)
  · go_enter Try.func6, Try.ntmps6
    go_wp2_with (go_at_call 7; refine (big_any _ _ _ _).mono ?_; rintro e w' ⟨rfl, rfl⟩)
    go_ret
    exact ⟨rfl, Below.refl _ _⟩
  · go_enter Try.func6, Try.ntmps6
    try simp only [List.append_eq, List.cons_append, List.nil_append]
    go_wp2_with fail
    refine (big_any _ _ _ _).mono ?_
    rintro e w' ⟨rfl, rfl⟩
    have hB := Below.refl w'.heap.size w'
    go_wp2_with fail
    refine (drawAmount_any _ _ _ _ ((hc.below hB).mono hB.size (Nat.le_refl _))).mono ?_
    rintro e u1 ⟨t, n, h_t, l_t, hn, rfl, hb⟩
    replace hB := below_app hB hb hB.size
    clear hb
    have b_t := boxR_new u1 57 #[.int .i64 t.kd, .int .i64 t.nn, .int .i64 t.pi, .int .i64 t.si, .int .i64 t.zo, .bool t.be, .slice t.la t.ln t.lcap]
    have hb := below_new2'' u1 (.cells #[.int .i64 t.kd, .int .i64 t.nn, .int .i64 t.pi, .int .i64 t.si, .int .i64 t.zo, .bool t.be, .slice t.la t.ln t.lcap] 57)
    generalize hV : u1.alloc (.cells #[.int .i64 t.kd, .int .i64 t.nn, .int .i64 t.pi, .int .i64 t.si, .int .i64 t.zo, .bool t.be, .slice t.la t.ln t.lcap] 57) = V at hb b_t
    replace h_t := act_grew h_t hb
    replace hB := below_app hB hb hB.size
    clear hb
    have n_t : t.ln ≤ 1048577 := by omega
    have HA : Hid (okAc t = true → 0 ≤ amA t n ∧ amA t n ≤ 2147483647) := am_rng t n
    have HM : Hid (t.kd = 3 → okAc t = true → up n 2147483647 < amA t n ∨ (¬ up n 2147483647 < amA t n ∧ up n 2147483647 = 2147483647 ∧ amA t n = up n 2147483647)) := am_more t n
    have HT : Hid (tw (up n 2147483647) = 2147483647 ∨ (¬ tw (up n 2147483647) = 2147483647 ∧ hf (up (tw (up n 2147483647)) 2147483647) = up n 2147483647)) := am_back n
    have I1 : Hid (∀ w : World, Calls Try.prog 34 #[(.agg #[.int .i64 t.kd, .int .i64 t.nn, .int .i64 t.pi, .int .i64 t.si, .int .i64 t.zo, .bool t.be, .slice t.la t.ln t.lcap]), .int .i64 n] w fun e w' => e = .returned (.int .i64 (amA t n)) ∧ Below w.heap.size w w') := fun w => implAmount_any t n w
    have S1 : Hid (∀ w : World, Calls Try.prog 35 #[(.agg #[.int .i64 t.kd, .int .i64 t.nn, .int .i64 t.pi, .int .i64 t.si, .int .i64 t.zo, .bool t.be, .slice t.la t.ln t.lcap]), .int .i64 n] w fun e w' => e = .returned (.int .i64 (amA t n)) ∧ Below w.heap.size w w') := fun w => specAmount_any t n w
    have I4 : Hid (∀ w : World, Calls Try.prog 34 #[(.agg #[.int .i64 4, .int .i64 0, .int .i64 0, .int .i64 0, .int .i64 0, .bool false, .slice none 0 0]), .int .i64 n] w fun e w' => e = .returned (.int .i64 (tw (up n 2147483647))) ∧ Below w.heap.size w w') := fun w => by have := implAmount_any (⟨4, 0, 0, 0, 0, false, none, 0, 0, 0, fun _ => zE⟩ : Ac) n w; rw [am_4] at this; exact this
    have I5 : Hid (∀ w : World, Calls Try.prog 34 #[(.agg #[.int .i64 5, .int .i64 0, .int .i64 0, .int .i64 0, .int .i64 0, .bool false, .slice none 0 0]), .int .i64 (tw (up n 2147483647))] w fun e w' => e = .returned (.int .i64 (hf (up (tw (up n 2147483647)) 2147483647))) ∧ Below w.heap.size w w') := fun w => by have := implAmount_any (⟨5, 0, 0, 0, 0, false, none, 0, 0, 0, fun _ => zE⟩ : Ac) (tw (up n 2147483647)) w; rw [am_5] at this; exact this
    have I6 : Hid (∀ w : World, Calls Try.prog 34 #[(.agg #[.int .i64 1, .int .i64 0, .int .i64 0, .int .i64 0, .int .i64 0, .bool false, .slice none 0 0]), .int .i64 n] w fun e w' => e = .returned (.int .i64 0) ∧ Below w.heap.size w w') := fun w => by have := implAmount_any (⟨1, 0, 0, 0, 0, false, none, 0, 0, 0, fun _ => zE⟩ : Ac) n w; rw [am_1] at this; exact this
    have U1 : Hid (∀ w : World, Calls Try.prog 37 #[.int .i64 n, .int .i64 2147483647] w fun e w' => e = .returned (.int .i64 (up n 2147483647)) ∧ w' = w) := fun w => implUpto_b n 2147483647 w
    generalize hf (up (tw (up n 2147483647)) 2147483647) = H_ at HT I5
    generalize tw (up n 2147483647) = T_ at HT I4 I5
    generalize amA t n = X_ at HA HM I1 S1
    generalize up n 2147483647 = U_ at HM HT U1
    have c0 := b_t.cell 0
    have c1 := b_t.cell 1
    have c2 := b_t.cell 2
    have c3 := b_t.cell 3
    have c4 := b_t.cell 4
    have c5 := b_t.cell 5
    have c6 := b_t.cell 6
    simp at c0 c1 c2 c3 c4 c5 c6
    go_wp2_with fail
    refine (I1.out _).mono ?_
    rintro e u2 ⟨rfl, hb⟩
    clear c0 c1 c2 c3 c4 c5 c6
    replace b_t := b_t.grew hb
    replace h_t := act_grew h_t hb
    replace hB := below_app hB hb hB.size
    clear hb
    have c0 := b_t.cell 0
    have c1 := b_t.cell 1
    have c2 := b_t.cell 2
    have c3 := b_t.cell 3
    have c4 := b_t.cell 4
    have c5 := b_t.cell 5
    have c6 := b_t.cell 6
    simp at c0 c1 c2 c3 c4 c5 c6
    clear hV
    go_wp2_with fail
    refine (S1.out _).mono ?_
    rintro e u3 ⟨rfl, hb⟩
    clear c0 c1 c2 c3 c4 c5 c6
    replace b_t := b_t.grew hb
    replace h_t := act_grew h_t hb
    replace hB := below_app hB hb hB.size
    clear hb
    have c0 := b_t.cell 0
    have c1 := b_t.cell 1
    have c2 := b_t.cell 2
    have c3 := b_t.cell 3
    have c4 := b_t.cell 4
    have c5 := b_t.cell 5
    have c6 := b_t.cell 6
    simp at c0 c1 c2 c3 c4 c5 c6
    cases hk : okAc t
    case false =>
      have O1 : Hid (∀ w : World, t.ok w → Calls Try.prog 36 #[(.agg #[.int .i64 t.kd, .int .i64 t.nn, .int .i64 t.pi, .int .i64 t.si, .int .i64 t.zo, .bool t.be, .slice t.la t.ln t.lcap])] w fun e w' => e = .returned (.bool false) ∧ Below w.heap.size w w') := fun w hw => by have := implActOk_any t w hw n_t; rw [hk] at this; exact this
      clear hk HA
      go_wp2_with fail
      refine (O1.out _ h_t).mono ?_
      rintro e u4 ⟨rfl, hb⟩
      clear c0 c1 c2 c3 c4 c5 c6
      replace b_t := b_t.grew hb
      replace h_t := act_grew h_t hb
      replace hB := below_app hB hb hB.size
      clear hb
      have c0 := b_t.cell 0
      have c1 := b_t.cell 1
      have c2 := b_t.cell 2
      have c3 := b_t.cell 3
      have c4 := b_t.cell 4
      have c5 := b_t.cell 5
      have c6 := b_t.cell 6
      simp at c0 c1 c2 c3 c4 c5 c6
      as_aux_lemma =>
        go_wp2_with fail
        refine (U1.out _).mono ?_
        rintro e u5 ⟨rfl, rfl⟩
        go_wp2_with fail
        refine (I4.out _).mono ?_
        rintro e u6 ⟨rfl, hb⟩
        clear c0 c1 c2 c3 c4 c5 c6
        replace b_t := b_t.grew hb
        replace h_t := act_grew h_t hb
        replace hB := below_app hB hb hB.size
        clear hb
        have c0 := b_t.cell 0
        have c1 := b_t.cell 1
        have c2 := b_t.cell 2
        have c3 := b_t.cell 3
        have c4 := b_t.cell 4
        have c5 := b_t.cell 5
        have c6 := b_t.cell 6
        simp at c0 c1 c2 c3 c4 c5 c6
        go_wp2_with fail
        refine (I5.out _).mono ?_
        rintro e u7 ⟨rfl, hb⟩
        clear c0 c1 c2 c3 c4 c5 c6
        replace b_t := b_t.grew hb
        replace h_t := act_grew h_t hb
        replace hB := below_app hB hb hB.size
        clear hb
        have c0 := b_t.cell 0
        have c1 := b_t.cell 1
        have c2 := b_t.cell 2
        have c3 := b_t.cell 3
        have c4 := b_t.cell 4
        have c5 := b_t.cell 5
        have c6 := b_t.cell 6
        simp at c0 c1 c2 c3 c4 c5 c6
        as_aux_lemma =>
          cases q3 : (t.kd == 3)
          case false =>
            have q4 : (t.kd != 3) = true := by rw [bne, q3]; rfl
            clear HM
            rcases HT.out with h | ⟨h, h'⟩
            · have q0 : (T_ == 2147483647) = true := by simpa using h
              clear h
              as_aux_lemma =>
                go_wp2_with fail
                refine (I6.out _).mono ?_
                rintro e u99 ⟨rfl, hb⟩
                clear c0 c1 c2 c3 c4 c5 c6
                replace b_t := b_t.grew hb
                replace h_t := act_grew h_t hb
                replace hB := below_app hB hb hB.size
                clear hb
                go_wp2
                go_ret
                exact ⟨rfl, hB⟩
            · have q0 : (T_ == 2147483647) = false := by simpa using h
              subst h'
              clear h
              as_aux_lemma =>
                go_wp2_with fail
                refine (I6.out _).mono ?_
                rintro e u99 ⟨rfl, hb⟩
                clear c0 c1 c2 c3 c4 c5 c6
                replace b_t := b_t.grew hb
                replace h_t := act_grew h_t hb
                replace hB := below_app hB hb hB.size
                clear hb
                go_wp2
                go_ret
                exact ⟨rfl, hB⟩
          case true =>
            have q4 : (t.kd != 3) = false := by rw [bne, q3]; rfl
            clear HM
            go_wp2_with fail
            refine (O1.out _ h_t).mono ?_
            rintro e u8 ⟨rfl, hb⟩
            clear c0 c1 c2 c3 c4 c5 c6
            replace b_t := b_t.grew hb
            replace h_t := act_grew h_t hb
            replace hB := below_app hB hb hB.size
            clear hb
            have c0 := b_t.cell 0
            have c1 := b_t.cell 1
            have c2 := b_t.cell 2
            have c3 := b_t.cell 3
            have c4 := b_t.cell 4
            have c5 := b_t.cell 5
            have c6 := b_t.cell 6
            simp at c0 c1 c2 c3 c4 c5 c6
            rcases HT.out with h | ⟨h, h'⟩
            · have q0 : (T_ == 2147483647) = true := by simpa using h
              clear h
              as_aux_lemma =>
                go_wp2_with fail
                refine (I6.out _).mono ?_
                rintro e u99 ⟨rfl, hb⟩
                clear c0 c1 c2 c3 c4 c5 c6
                replace b_t := b_t.grew hb
                replace h_t := act_grew h_t hb
                replace hB := below_app hB hb hB.size
                clear hb
                go_wp2
                go_ret
                exact ⟨rfl, hB⟩
            · have q0 : (T_ == 2147483647) = false := by simpa using h
              subst h'
              clear h
              as_aux_lemma =>
                go_wp2_with fail
                refine (I6.out _).mono ?_
                rintro e u99 ⟨rfl, hb⟩
                clear c0 c1 c2 c3 c4 c5 c6
                replace b_t := b_t.grew hb
                replace h_t := act_grew h_t hb
                replace hB := below_app hB hb hB.size
                clear hb
                go_wp2
                go_ret
                exact ⟨rfl, hB⟩
    case true =>
      have O1 : Hid (∀ w : World, t.ok w → Calls Try.prog 36 #[(.agg #[.int .i64 t.kd, .int .i64 t.nn, .int .i64 t.pi, .int .i64 t.si, .int .i64 t.zo, .bool t.be, .slice t.la t.ln t.lcap])] w fun e w' => e = .returned (.bool true) ∧ Below w.heap.size w w') := fun w hw => by have := implActOk_any t w hw n_t; rw [hk] at this; exact this
      obtain ⟨x0, x1⟩ := HA.out hk
      have y0 : ¬ X_ < 0 := by omega
      have y1 : ¬ (2147483647 : Int) < X_ := by omega
      replace HM : Hid (t.kd = 3 → U_ < X_ ∨ (X_ ≤ U_ ∧ U_ = 2147483647 ∧ X_ = U_)) := fun h => (HM.out h hk).imp id (fun k => ⟨by have := k.1; omega, k.2⟩)
      clear hk HA
      go_wp2_with fail
      refine (O1.out _ h_t).mono ?_
      rintro e u4 ⟨rfl, hb⟩
      clear c0 c1 c2 c3 c4 c5 c6
      replace b_t := b_t.grew hb
      replace h_t := act_grew h_t hb
      replace hB := below_app hB hb hB.size
      clear hb
      have c0 := b_t.cell 0
      have c1 := b_t.cell 1
      have c2 := b_t.cell 2
      have c3 := b_t.cell 3
      have c4 := b_t.cell 4
      have c5 := b_t.cell 5
      have c6 := b_t.cell 6
      simp at c0 c1 c2 c3 c4 c5 c6
      as_aux_lemma =>
        go_wp2_with fail
        refine (U1.out _).mono ?_
        rintro e u5 ⟨rfl, rfl⟩
        clear x0 x1 y0 y1
        go_wp2_with fail
        refine (I4.out _).mono ?_
        rintro e u6 ⟨rfl, hb⟩
        clear c0 c1 c2 c3 c4 c5 c6
        replace b_t := b_t.grew hb
        replace h_t := act_grew h_t hb
        replace hB := below_app hB hb hB.size
        clear hb
        have c0 := b_t.cell 0
        have c1 := b_t.cell 1
        have c2 := b_t.cell 2
        have c3 := b_t.cell 3
        have c4 := b_t.cell 4
        have c5 := b_t.cell 5
        have c6 := b_t.cell 6
        simp at c0 c1 c2 c3 c4 c5 c6
        go_wp2_with fail
        refine (I5.out _).mono ?_
        rintro e u7 ⟨rfl, hb⟩
        clear c0 c1 c2 c3 c4 c5 c6
        replace b_t := b_t.grew hb
        replace h_t := act_grew h_t hb
        replace hB := below_app hB hb hB.size
        clear hb
        have c0 := b_t.cell 0
        have c1 := b_t.cell 1
        have c2 := b_t.cell 2
        have c3 := b_t.cell 3
        have c4 := b_t.cell 4
        have c5 := b_t.cell 5
        have c6 := b_t.cell 6
        simp at c0 c1 c2 c3 c4 c5 c6
        as_aux_lemma =>
          cases q3 : (t.kd == 3)
          case false =>
            have q4 : (t.kd != 3) = true := by rw [bne, q3]; rfl
            clear HM
            rcases HT.out with h | ⟨h, h'⟩
            · have q0 : (T_ == 2147483647) = true := by simpa using h
              clear h
              as_aux_lemma =>
                go_wp2_with fail
                refine (I6.out _).mono ?_
                rintro e u99 ⟨rfl, hb⟩
                clear c0 c1 c2 c3 c4 c5 c6
                replace b_t := b_t.grew hb
                replace h_t := act_grew h_t hb
                replace hB := below_app hB hb hB.size
                clear hb
                go_wp2
                go_ret
                exact ⟨rfl, hB⟩
            · have q0 : (T_ == 2147483647) = false := by simpa using h
              subst h'
              clear h
              as_aux_lemma =>
                go_wp2_with fail
                refine (I6.out _).mono ?_
                rintro e u99 ⟨rfl, hb⟩
                clear c0 c1 c2 c3 c4 c5 c6
                replace b_t := b_t.grew hb
                replace h_t := act_grew h_t hb
                replace hB := below_app hB hb hB.size
                clear hb
                go_wp2
                go_ret
                exact ⟨rfl, hB⟩
          case true =>
            have q4 : (t.kd != 3) = false := by rw [bne, q3]; rfl
            rcases HM.out (by simpa using q3) with hm | ⟨hm, hm1, hm2⟩
            · clear HM
              clear q3
              go_wp2_with fail
              refine (O1.out _ h_t).mono ?_
              rintro e u8 ⟨rfl, hb⟩
              clear c0 c1 c2 c3 c4 c5 c6
              replace b_t := b_t.grew hb
              replace h_t := act_grew h_t hb
              replace hB := below_app hB hb hB.size
              clear hb
              have c0 := b_t.cell 0
              have c1 := b_t.cell 1
              have c2 := b_t.cell 2
              have c3 := b_t.cell 3
              have c4 := b_t.cell 4
              have c5 := b_t.cell 5
              have c6 := b_t.cell 6
              simp at c0 c1 c2 c3 c4 c5 c6
              rcases HT.out with h | ⟨h, h'⟩
              · have q0 : (T_ == 2147483647) = true := by simpa using h
                clear h
                as_aux_lemma =>
                  go_wp2_with fail
                  refine (I6.out _).mono ?_
                  rintro e u99 ⟨rfl, hb⟩
                  clear c0 c1 c2 c3 c4 c5 c6
                  replace b_t := b_t.grew hb
                  replace h_t := act_grew h_t hb
                  replace hB := below_app hB hb hB.size
                  clear hb
                  go_wp2
                  go_ret
                  exact ⟨rfl, hB⟩
              · have q0 : (T_ == 2147483647) = false := by simpa using h
                subst h'
                clear h
                as_aux_lemma =>
                  go_wp2_with fail
                  refine (I6.out _).mono ?_
                  rintro e u99 ⟨rfl, hb⟩
                  clear c0 c1 c2 c3 c4 c5 c6
                  replace b_t := b_t.grew hb
                  replace h_t := act_grew h_t hb
                  replace hB := below_app hB hb hB.size
                  clear hb
                  go_wp2
                  go_ret
                  exact ⟨rfl, hB⟩
            · clear HM
              clear q3
              have z1 : (U_ == 2147483647) = true := by simpa using hm1
              subst hm2
              clear hm1
              go_wp2_with fail
              refine (O1.out _ h_t).mono ?_
              rintro e u9 ⟨rfl, hb⟩
              clear c0 c1 c2 c3 c4 c5 c6
              replace b_t := b_t.grew hb
              replace h_t := act_grew h_t hb
              replace hB := below_app hB hb hB.size
              clear hb
              have c0 := b_t.cell 0
              have c1 := b_t.cell 1
              have c2 := b_t.cell 2
              have c3 := b_t.cell 3
              have c4 := b_t.cell 4
              have c5 := b_t.cell 5
              have c6 := b_t.cell 6
              simp at c0 c1 c2 c3 c4 c5 c6
              rcases HT.out with h | ⟨h, h'⟩
              · have q0 : (T_ == 2147483647) = true := by simpa using h
                clear h
                as_aux_lemma =>
                  go_wp2_with fail
                  refine (I6.out _).mono ?_
                  rintro e u99 ⟨rfl, hb⟩
                  clear c0 c1 c2 c3 c4 c5 c6
                  replace b_t := b_t.grew hb
                  replace h_t := act_grew h_t hb
                  replace hB := below_app hB hb hB.size
                  clear hb
                  go_wp2
                  go_ret
                  exact ⟨rfl, hB⟩
              · have q0 : (T_ == 2147483647) = false := by simpa using h
                subst h'
                clear h
                as_aux_lemma =>
                  go_wp2_with fail
                  refine (I6.out _).mono ?_
                  rintro e u99 ⟨rfl, hb⟩
                  clear c0 c1 c2 c3 c4 c5 c6
                  replace b_t := b_t.grew hb
                  replace h_t := act_grew h_t hb
                  replace hB := below_app hB hb hB.size
                  clear hb
                  go_wp2
                  go_ret
                  exact ⟨rfl, hB⟩

set_option maxRecDepth 100000 in
theorem lifted (os : Os) (started : os.Started) (H : Type) (enc : TypeId × Value → H) :
    ReturnsInHanded {} Try.checked os 6 .any (Rows.fnAmountsSpec.pre6 enc Try.prog Try.f6 Rows.fnAmountsRow.domain false) (Rows.fnAmountsSpec.post enc Try.prog Try.f6 false true false false) := by
  refine returnsInHanded_of_change (C := Try.checked) own started (by kernel_rfl) Try.func6
    (ChangeSpec.witness6 (enc := enc) (C := Try.checked) false ⟨#[], #[.slice none 0 0], []⟩ 8 (by kernel_rfl) (by kernel_rfl) (by kernel_rfl) (by kernel_rfl)) ?_
  intro W base args ds gs before hval0 hW hcnd _
  have hval : ∀ (j : Nat) t v, Try.f6.params[j]? = some t → args[j]? = some v → Value.okWide Try.prog W .any base t v := hval0
  have hW' := hW
  obtain ⟨p, q, hA0, hV, rfl, hfz, hnd⟩ := hW
  have hA : DataW.TrodAll enc Try.prog W 0 (fun _ => true) true Try.f6.params.toList args.toList ds p := hA0
  rw [Try.params6] at hA hval
  obtain ⟨v0, vs0, d0, ds0, p0, q0, hargs, rfl, rfl, h0, r0⟩ := trodAll_cons hA
  obtain ⟨rfl, rfl, rfl⟩ := trodAll_nil r0
  obtain rfl : args = #[v0] := by cases args; simp_all
  obtain ⟨rfl, rfl⟩ := trodVars_none hV
  obtain ⟨a0, len0, cap0, rfl⟩ := okWide_slice Try.underlying22 (hval 0 22 v0 rfl rfl)
  have k0 := h0
  have lt0 : ∀ x ∈ p0, x.block < W.heap.size := by obtain ⟨m, hm⟩ := k0; exact DataW.trod_lt m _ _ _ hm
  obtain ⟨z0, w0⟩ : ∃ zs, IsRow .u8 W a0 len0 cap0 zs := by
    obtain ⟨fuel, hf⟩ := h0
    rcases open_ints Try.underlying22 Try.underlying5 (by kernel_rfl) hf with ⟨hcs, _⟩ | ⟨x, l, c, zs, hcs, _, hl, hm, hz, _, hcell, hwz⟩
    · simp [Value.cells] at hcs
      obtain ⟨rfl, rfl, rfl⟩ := hcs
      exact ⟨[], .inl ⟨rfl, rfl, rfl, rfl⟩⟩
    · simp [Value.cells] at hcs
      obtain ⟨rfl, rfl, rfl⟩ := hcs
      exact ⟨zs, .inr ⟨_, rfl, hl, hm, by simpa using hz, hcell, hwz⟩⟩
  clear hA0 hval0
  refine (walk a0 len0 cap0 z0 W w0).mono fun e W' ⟨he, bel⟩ => ?_
  subst he
  exact ⟨_, rfl, _, _, _, [], _, [], hW', trodAll_mk1 (shut_bool Try.underlying4 _), (trodAll_cons_mk (Below.trod laidOut (by kernel_rfl) (of_decide_eq_true (by kernel_rfl)) k0 bel lt0) trodAll_mk0), rfl, bel.frame _, fun h => by cases h⟩

theorem over : Rows.fnAmountsRow.holds Try.pinned (OpenSpec.ofChange Rows.fnAmountsSpec) :=
  OpenClaim.holds_of_wide 6 Try.f6 rfl rfl rfl rfl rfl rfl rfl ⟨rfl, rfl, rfl, rfl, rfl⟩ rfl rfl rfl rfl rfl (by kernel_rfl) Try.func6 (by kernel_rfl)
    (of_decide_eq_true (by kernel_rfl)) (by unfold Func.isWrapper; first | (rw [if_pos (by decide +kernel)]; kernel_rfl) | (rw [if_neg (by decide +kernel)]; exact ⟨rfl, rfl⟩))
    (fun os started H enc _ => lifted os started H enc)

theorem proved : Rows.FnAmountsSaid := over
#print axioms proved
end Go.Proofs.Ytgaodfjmehofgac.fnAmounts
