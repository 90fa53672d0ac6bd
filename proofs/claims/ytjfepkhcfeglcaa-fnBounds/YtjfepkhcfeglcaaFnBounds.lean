/-
  What is proved: at every code (every slice of bytes, of whatever length), the law FnBounds answers true: of the amounts that it draws what is added stays within bounds and is as the specification has it; and the argument reads afterwards as before; no condition.
-/
import Derived.Test.YtjfepkhcfeglcaaRows
import Derived.Test.YtjfepkhcfeglcaaNum
import Derived.Test.YtjfepkhcfeglcaaCur
import Derived.Test.YtjfepkhcfeglcaaCur2
import Derived.Test.YtjfepkhcfeglcaaCur3
import Derived.Test.YtjfepkhcfeglcaaCurLaw
import Derived.WalkKit
import Derived.BigGuardPart
import Derived.ProofKit
import Derived.OpenShut
import Derived.ShutString
import Derived.ChangeOld
import Derived.Below
namespace Go.Proofs.Ytjfepkhcfeglcaa.fnBounds
open Go.ChangeShapes Go.WideShapes Go.ChangeAt Go.RowKit
open Go.ChangeMaps (open_string shut_string)
set_option linter.unusedVariables false

theorem own : ownKnob Try.prog.godebug = none := by kernel_rfl
theorem laidOut : laidOutB Try.prog = true := by kernel_rfl

/-- WHAT THE WALK IS TOLD OF A SLICE OF INTEGERS THAT CAME IN: it is nil; or it leads to a row of 'cap' cells, the numbers 'zs' (the first 'len' are its elements, the rest its spare room), each fitting its kind. -/
def IsRow (k : IntKind) (w : World) (a : Option Addr) (len cap : Nat) (zs : List Int) : Prop :=
  (a = none ∧ len = 0 ∧ cap = 0 ∧ zs = []) ∨
  ∃ x, a = some x ∧ len ≤ cap ∧ cap ≤ maxLen ∧ zs.length = cap ∧ (∀ i, i < zs.length → w.cell? (x.add i) = some (.int k (zs.getD i 0))) ∧ ∀ n ∈ zs, (Lit.int k n).wf = true

theorem bd_rng (a : Int) : -2147483647 ≤ bd a ∧ bd a ≤ 2147483647 := bnd_rng a
theorem pl_rng (a b : Int) : -2147483647 ≤ pl a b ∧ pl a b ≤ 2147483647 := bnd_rng _
theorem tw_rng (a : Int) : -2147483647 ≤ tw a ∧ tw a ≤ 2147483647 := bnd_rng _
theorem bnd_in (a : Int) (h1 : -2147483647 ≤ a) (h2 : a ≤ 2147483647) : bnd a = a := by unfold bnd; (repeat' split) <;> omega
theorem bd_pl (a b : Int) : bd (pl a b) = pl a b := bnd_in _ (pl_rng a b).1 (pl_rng a b).2
theorem pl_comm (a b : Int) : pl b a = pl a b := by unfold pl; rw [Int.add_comm]
theorem ls_mid (a b : Int) (h1 : ls a b ≠ 2147483647) (h2 : ls a b ≠ -2147483647) : pl (ls a b) b = bd a := by
  have ra := bnd_rng a
  have rb := bnd_rng b
  have e : ls a b = bnd a - bnd b := by
    revert h1 h2
    unfold ls
    generalize bnd a - bnd b = d
    intro h1 h2
    unfold bnd at *
    (repeat' split) <;> simp_all <;> omega
  have rl : -2147483647 ≤ ls a b ∧ ls a b ≤ 2147483647 := bnd_rng _
  have e2 : bnd (ls a b) = bnd a - bnd b := by rw [bnd_in _ rl.1 rl.2, e]
  show bnd (bnd (ls a b) + bnd b) = bnd a
  rw [e2]
  exact (congrArg bnd (by omega)).trans (bnd_in (bnd a) ra.1 ra.2)
theorem tdiv2 (d : Int) : (0 ≤ d ∧ d.tdiv 2 = d / 2) ∨ (d < 0 ∧ d.tdiv 2 = -((-d) / 2)) := by
  rcases Int.lt_or_le d 0 with h | h
  · right
    refine ⟨h, ?_⟩
    have e : d.tdiv 2 = (-(-d)).tdiv 2 := by rw [Int.neg_neg]
    rw [e, Int.neg_tdiv, Int.tdiv_eq_ediv_of_nonneg (by omega)]
  · exact .inl ⟨h, Int.tdiv_eq_ediv_of_nonneg h⟩
theorem hf_tw (n : Int) : bd n - tw (hf n) ≤ 1 ∧ tw (hf n) - bd n ≤ 1 := by
  have rn := bnd_rng n
  have hd := tdiv2 (bnd n)
  have h : -1073741823 ≤ (bnd n).tdiv 2 ∧ (bnd n).tdiv 2 ≤ 1073741823 := by omega
  have e : tw (hf n) = 2 * (bnd n).tdiv 2 := by
    show bnd (2 * bnd ((bnd n).tdiv 2)) = _
    rw [bnd_in ((bnd n).tdiv 2) (by omega) (by omega), bnd_in _ (by omega) (by omega)]
  rw [e]
  show bnd n - _ ≤ 1 ∧ _ - bnd n ≤ 1
  omega
theorem up_pos (u m : Int) : 0 ≤ up u m := by unfold up upt; (repeat' split) <;> omega
theorem up_le (u m : Int) (h1 : 0 ≤ u) (h2 : 0 ≤ m) : up u m ≤ u ∧ up u m ≤ m := by unfold up upt; (repeat' split) <;> omega
set_option maxHeartbeats 1000000 in
theorem walk (a0 : Option Addr) (len0 cap0 : Nat) (z0 : List Int) (w : World) (w0 : IsRow .u8 w a0 len0 cap0 z0) :
    Calls Try.prog 3 #[.slice a0 len0 cap0] w fun e w' => e = .returned (.bool true) ∧ Below w.heap.size w w' := by
  have hc : Code w a0 len0 w.heap.size := code_of_row w0
  clear w0
  by_cases hbig : (1048576 : Int) < (len0 : Int)
  · go_enter Try.func3, Try.ntmps3
    go_wp2_with (go_at_call 4; refine (big_any _ _ _ _).mono ?_; rintro e w' ⟨rfl, rfl⟩)
    go_ret
    exact ⟨rfl, Below.refl _ _⟩
  · go_enter Try.func3, Try.ntmps3
    simp only [List.append_eq, List.cons_append, List.nil_append]
    go_wp2_with fail
    refine (big_any _ _ _ _).mono ?_
    rintro e w' ⟨rfl, rfl⟩
    go_wp2_with fail
    refine (drawPlus_any _ _ _ _ hc).mono ?_
    rintro e w1 ⟨a, b, ha, hb0, rfl, hb⟩
    have hs : w'.heap.size ≤ w1.heap.size := hb.size
    clear ha hb0
    go_wp2_with fail
    refine (implPlus_b _ _ hb hs).mono ?_
    clear hb hs
    rintro e w2 ⟨rfl, hb, hs⟩
    go_wp2_with fail
    refine (implLess_b _ _ hb hs).mono ?_
    clear hb hs
    rintro e w3 ⟨rfl, hb, hs⟩
    go_wp2_with fail
    refine (drawHalf_any _ _ _ _ ((hc.below hb).mono hs (Nat.le_refl _))).mono ?_
    rintro e w4 ⟨n, hn, rfl, hb4⟩
    have hb5 := hb.trans (hb4.mono hs)
    have hs5 := hb5.size
    clear hb hs hb4 hn
    go_wp2_with fail
    refine (implHalf_b _ _).mono ?_
    rintro e w5 ⟨rfl, rfl⟩
    go_wp2_with fail
    refine (drawUpto_any _ _ _ _ ((hc.below hb5).mono hs5 (Nat.le_refl _))).mono ?_
    rintro e w6 ⟨u, m, hu, hm, rfl, hb6⟩
    have hb := hb5.trans (hb6.mono hs5)
    have hs := hb.size
    clear hb5 hs5 hb6 hu hm
    obtain ⟨p1, p2⟩ := pl_rng a b
    have p3 := bd_pl a b
    have p4 := pl_comm a b
    obtain ⟨n1, n2⟩ := hf_tw n
    obtain ⟨n3, n4⟩ := bd_rng n
    obtain ⟨n5, n6⟩ := tw_rng (hf n)
    have x0 := up_pos u m
    have hq : (ls a b == 2147483647) = true ∨ ((ls a b == 2147483647) = false ∧ (ls a b == -2147483647) = true) ∨ (((ls a b == 2147483647) = false) ∧ ((ls a b == -2147483647) = false) ∧ pl (ls a b) b = bd a) := by
      by_cases e1 : ls a b = 2147483647
      · exact .inl (by simpa using e1)
      · by_cases e2 : ls a b = -2147483647
        · exact .inr (.inl ⟨by simpa using e1, by simpa using e2⟩)
        · exact .inr (.inr ⟨by simpa using e1, by simpa using e2, ls_mid a b e1 e2⟩)
    have hx : u < 0 ∨ (0 ≤ u ∧ m < 0) ∨ (0 ≤ u ∧ 0 ≤ m ∧ up u m ≤ u ∧ up u m ≤ m) := by
      by_cases e1 : u < 0
      · exact .inl e1
      · by_cases e2 : m < 0
        · exact .inr (.inl ⟨by omega, e2⟩)
        · exact .inr (.inr ⟨by omega, by omega, (up_le u m (by omega) (by omega)).1, (up_le u m (by omega) (by omega)).2⟩)
    go_wp2_with fail
    refine (implUpto_b _ _ _).mono ?_
    rintro e w' ⟨rfl, rfl⟩
    go_wp2_with fail
    refine (specPlus_b _ _ _).mono ?_
    rintro e w' ⟨rfl, rfl⟩
    go_wp2_with fail
    refine (specLess_b _ _ _).mono ?_
    rintro e w' ⟨rfl, rfl⟩
    go_wp2_with fail
    refine (implTwice_b _ hb hs).mono ?_
    clear hb hs
    rintro e w' ⟨rfl, hb, hs⟩
    go_wp2_with fail
    refine (specTwice_b _ _).mono ?_
    rintro e w' ⟨rfl, rfl⟩
    go_wp2_with fail
    refine (specUpto_b _ _ _).mono ?_
    rintro e w' ⟨rfl, rfl⟩
    go_wp2_with fail
    refine (implBound_b _ _).mono ?_
    rintro e w' ⟨rfl, rfl⟩
    go_wp2_with fail
    refine (specBound_b _ _).mono ?_
    rintro e w' ⟨rfl, rfl⟩
    go_wp2_with fail
    refine (implPlus_b _ _ hb hs).mono ?_
    clear hb hs
    rintro e w' ⟨rfl, hb, hs⟩
    go_wp2_with fail
    refine (implTwice_b _ hb hs).mono ?_
    clear hb hs
    rintro e w' ⟨rfl, hb, hs⟩
    go_wp2_with fail
    refine (implBound_b _ _).mono ?_
    rintro e w' ⟨rfl, rfl⟩
    rcases hq with q1 | ⟨q1, q2⟩ | ⟨q1, q2, q3⟩
    · go_wp2_with fail
      refine (implBound_b _ _).mono ?_
      rintro e w' ⟨rfl, rfl⟩
      go_wp2_with fail
      refine (implBound_b _ _).mono ?_
      rintro e w' ⟨rfl, rfl⟩
      rcases hx with hx | ⟨x1, x2⟩ | ⟨x1, x2, x3, x4⟩
      all_goals
        go_wp2
        all_goals go_ret
        all_goals exact ⟨rfl, hb⟩
    · go_wp2_with fail
      refine (implBound_b _ _).mono ?_
      rintro e w' ⟨rfl, rfl⟩
      go_wp2_with fail
      refine (implBound_b _ _).mono ?_
      rintro e w' ⟨rfl, rfl⟩
      rcases hx with hx | ⟨x1, x2⟩ | ⟨x1, x2, x3, x4⟩
      all_goals
        go_wp2
        all_goals go_ret
        all_goals exact ⟨rfl, hb⟩
    · go_wp2_with fail
      refine (implPlus_b _ _ hb hs).mono ?_
      clear hb hs
      rintro e w' ⟨rfl, hb, hs⟩
      go_wp2_with fail
      refine (implBound_b _ _).mono ?_
      rintro e w' ⟨rfl, rfl⟩
      go_wp2_with fail
      refine (implBound_b _ _).mono ?_
      rintro e w' ⟨rfl, rfl⟩
      go_wp2_with fail
      refine (implBound_b _ _).mono ?_
      rintro e w' ⟨rfl, rfl⟩
      rcases hx with hx | ⟨x1, x2⟩ | ⟨x1, x2, x3, x4⟩
      all_goals
        go_wp2
        all_goals go_ret
        all_goals exact ⟨rfl, hb⟩

set_option maxRecDepth 100000 in
theorem lifted (os : Os) (started : os.Started) (H : Type) (enc : TypeId × Value → H) :
    ReturnsInHanded {} Try.checked os 3 .any (Rows.fnBoundsSpec.pre6 enc Try.prog Try.f3 Rows.fnBoundsRow.domain false) (Rows.fnBoundsSpec.post enc Try.prog Try.f3 false true false false) := by
  refine returnsInHanded_of_change (C := Try.checked) own started (by kernel_rfl) Try.func3
    (ChangeSpec.witness6 (enc := enc) (C := Try.checked) false ⟨#[], #[.slice none 0 0], []⟩ 8 (by kernel_rfl) (by kernel_rfl) (by kernel_rfl) (by kernel_rfl)) ?_
  intro W base args ds gs before hval0 hW hcnd _
  have hval : ∀ (j : Nat) t v, Try.f3.params[j]? = some t → args[j]? = some v → Value.okWide Try.prog W .any base t v := hval0
  have hW' := hW
  obtain ⟨p, q, hA0, hV, rfl, hfz, hnd⟩ := hW
  have hA : DataW.TrodAll enc Try.prog W 0 (fun _ => true) true Try.f3.params.toList args.toList ds p := hA0
  rw [Try.params3] at hA hval
  obtain ⟨v0, vs0, d0, ds0, p0, q0, hargs, rfl, rfl, h0, r0⟩ := trodAll_cons hA
  obtain ⟨rfl, rfl, rfl⟩ := trodAll_nil r0
  obtain rfl : args = #[v0] := by cases args; simp_all
  obtain ⟨rfl, rfl⟩ := trodVars_none hV
  obtain ⟨a0, len0, cap0, rfl⟩ := okWide_slice Try.underlying22 (hval 0 22 v0 rfl rfl)
  have k0 := h0
  have lt0 : ∀ x ∈ p0, x.block < W.heap.size := by obtain ⟨m, hm⟩ := k0; exact DataW.trod_lt m _ _ _ hm
  obtain ⟨z0, w0⟩ : ∃ zs, IsRow .u8 W a0 len0 cap0 zs := by
    obtain ⟨fuel, hf⟩ := h0
    rcases open_ints Try.underlying22 Try.underlying5 (by kernel_rfl) hf with ⟨hcs, _⟩ | ⟨x, l, c, zs, hcs, _, hl, hm, hz, _, hcell, hwz⟩
    · simp [Value.cells] at hcs
      obtain ⟨rfl, rfl, rfl⟩ := hcs
      exact ⟨[], .inl ⟨rfl, rfl, rfl, rfl⟩⟩
    · simp [Value.cells] at hcs
      obtain ⟨rfl, rfl, rfl⟩ := hcs
      exact ⟨zs, .inr ⟨_, rfl, hl, hm, by simpa using hz, hcell, hwz⟩⟩
  clear hA0 hval0
  refine (walk a0 len0 cap0 z0 W w0).mono fun e W' ⟨he, bel⟩ => ?_
  subst he
  exact ⟨_, rfl, _, _, _, [], _, [], hW', trodAll_mk1 (shut_bool Try.underlying4 _), (trodAll_cons_mk (Below.trod laidOut (by kernel_rfl) (of_decide_eq_true (by kernel_rfl)) k0 bel lt0) trodAll_mk0), rfl, bel.frame _, fun h => by cases h⟩

theorem over : Rows.fnBoundsRow.holds Try.pinned (OpenSpec.ofChange Rows.fnBoundsSpec) :=
  OpenClaim.holds_of_wide 3 Try.f3 rfl rfl rfl rfl rfl rfl rfl ⟨rfl, rfl, rfl, rfl, rfl⟩ rfl rfl rfl rfl rfl (by kernel_rfl) Try.func3 (by kernel_rfl)
    (of_decide_eq_true (by kernel_rfl)) (by unfold Func.isWrapper; first | (rw [if_pos (by decide +kernel)]; kernel_rfl) | (rw [if_neg (by decide +kernel)]; exact ⟨rfl, rfl⟩))
    (fun os started H enc _ => lifted os started H enc)

theorem proved : Rows.FnBoundsSaid := over
#print axioms proved
end Go.Proofs.Ytjfepkhcfeglcaa.fnBounds
