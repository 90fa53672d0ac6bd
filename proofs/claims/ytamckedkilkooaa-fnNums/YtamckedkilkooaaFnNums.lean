/-
  What is proved: at every code (every slice of bytes, of whatever length), the law FnNums answers true: a number that PutNum lays behind drawn bytes comes back by GetNum, and what GetNum reads of drawn bytes is what the specification reads, its bytes those that PutNum lays; and the argument reads afterwards as before; no condition.
-/
import Derived.Test.YtamckedkilkooaaRows
import Derived.Test.YtamckedkilkooaaNum
import Derived.Test.YtamckedkilkooaaCur
import Derived.Test.YtamckedkilkooaaCur2
import Derived.Test.YtamckedkilkooaaCur3
import Derived.Test.YtamckedkilkooaaCurLaw
import Derived.Test.YtamckedkilkooaaRow
import Derived.Test.YtamckedkilkooaaRowLaw
import Derived.Test.YtamckedkilkooaaBytes
import Derived.Test.YtamckedkilkooaaBytes2
import Derived.Test.YtamckedkilkooaaBytes3
import Derived.Test.YtamckedkilkooaaDrawB
import Derived.Test.YtamckedkilkooaaDrawB2
import Derived.Test.YtamckedkilkooaaNums
import Derived.Test.YtamckedkilkooaaSeg
import Derived.WalkKit
import Derived.BigGuardPart
import Derived.BigQuiet
import Derived.Deep.RegionWith
import Derived.ProofKit
import Derived.OpenShut
import Derived.ShutString
import Derived.ChangeOld
import Derived.Below
namespace Go.Proofs.Ytamckedkilkooaa.fnNums
open Go.ChangeShapes Go.WideShapes Go.ChangeAt Go.RowKit
open Go.ChangeMaps (open_string shut_string)
set_option linter.unusedVariables false

theorem own : ownKnob Try.prog.godebug = none := by kernel_rfl
theorem laidOut : laidOutB Try.prog = true := by kernel_rfl

/-- WHAT THE WALK IS TOLD OF A SLICE OF INTEGERS THAT CAME IN: it is nil; or it leads to a row of 'cap' cells, the numbers 'zs' (the first 'len' are its elements, the rest its spare room), each fitting its kind. -/
def IsRow (k : IntKind) (w : World) (a : Option Addr) (len cap : Nat) (zs : List Int) : Prop :=
  (a = none ∧ len = 0 ∧ cap = 0 ∧ zs = []) ∨
  ∃ x, a = some x ∧ len ≤ cap ∧ cap ≤ maxLen ∧ zs.length = cap ∧ (∀ i, i < zs.length → w.cell? (x.add i) = some (.int k (zs.getD i 0))) ∧ ∀ n ∈ zs, (Lit.int k n).wf = true

theorem segs58 {P : Program} {Q : Exit → Act → World → Prop} {o0 o1 o2 o3 o4 o5 o6 o7 o8 o9 o10 o11 o12 o13 o14 o15 o16 o17 o18 o19 o20 o21 o22 o23 o24 o25 o26 o27 o28 o29 o30 o31 o32 o33 o34 o35 o36 o37 o38 o39 o40 o41 o42 o43 o44 o45 o46 o47 o48 o49 o50 o51 o52 o53 o54 o55 o56 o57 : Oper} {id : Nat} {a : Act} {w : World} (hm : P.follows .mixedOrders = true) (hB : segsB #[o0, o1, o2, o3, o4, o5, o6, o7, o8, o9, o10, o11, o12, o13, o14, o15, o16, o17, o18, o19, o20, o21, o22, o23, o24, o25, o26, o27, o28, o29, o30, o31, o32, o33, o34, o35, o36, o37, o38, o39, o40, o41, o42, o43, o44, o45, o46, o47, o48, o49, o50, o51, o52, o53, o54, o55, o56, o57] [0, 1, 2, 3, 4, 5, 6, 7, 8, 9, 10, 11, 12, 13, 14, 15, 16, 17, 18, 19, 20, 21, 22, 25, 23, 24, 26, 27, 28, 29, 30, 31, 32, 33, 34, 35, 36, 37, 38, 39, 40, 41, 42, 43, 44, 45, 46, 48, 50, 51, 52] 53 [47, 49, 54, 55, 56, 57] = true) (hQ : ∀ c (d : Option Tmp) v a w, Q (.panic c) (a.put d v) w → Q (.panic c) a w)
    (h : wpList P #[o0, o1, o2, o3, o4, o5, o6, o7, o8, o9, o10, o11, o12, o13, o14, o15, o16, o17, o18, o19, o20, o21, o22, o23, o24, o25, o26, o27, o28, o29, o30, o31, o32, o33, o34, o35, o36, o37, o38, o39, o40, o41, o42, o43, o44, o45, o46, o47, o48, o49, o50, o51, o52, o53, o54, o55, o56, o57] (Exit.then (fun a' w' => ∃ v, Yields P #[o0, o1, o2, o3, o4, o5, o6, o7, o8, o9, o10, o11, o12, o13, o14, o15, o16, o17, o18, o19, o20, o21, o22, o23, o24, o25, o26, o27, o28, o29, o30, o31, o32, o33, o34, o35, o36, o37, o38, o39, o40, o41, o42, o43, o44, o45, o46, o47, o48, o49, o50, o51, o52, o53, o54, o55, o56, o57] o53 v a' ∧ wpList P #[o0, o1, o2, o3, o4, o5, o6, o7, o8, o9, o10, o11, o12, o13, o14, o15, o16, o17, o18, o19, o20, o21, o22, o23, o24, o25, o26, o27, o28, o29, o30, o31, o32, o33, o34, o35, o36, o37, o38, o39, o40, o41, o42, o43, o44, o45, o46, o47, o48, o49, o50, o51, o52, o53, o54, o55, o56, o57] Q [o47, o49, o54, o55, o56, o57] (a'.put o53.dst v) w') Q) [o0, o1, o2, o3, o4, o5, o6, o7, o8, o9, o10, o11, o12, o13, o14, o15, o16, o17, o18, o19, o20, o21, o22, o25, o23, o24, o26, o27, o28, o29, o30, o31, o32, o33, o34, o35, o36, o37, o38, o39, o40, o41, o42, o43, o44, o45, o46, o48, o50, o51, o52] a w.drew) : (Code.region id #[o0, o1, o2, o3, o4, o5, o6, o7, o8, o9, o10, o11, o12, o13, o14, o15, o16, o17, o18, o19, o20, o21, o22, o23, o24, o25, o26, o27, o28, o29, o30, o31, o32, o33, o34, o35, o36, o37, o38, o39, o40, o41, o42, o43, o44, o45, o46, o47, o48, o49, o50, o51, o52, o53, o54, o55, o56, o57] true).wp P Q a w :=
  wp_region_segs hm [0, 1, 2, 3, 4, 5, 6, 7, 8, 9, 10, 11, 12, 13, 14, 15, 16, 17, 18, 19, 20, 21, 22, 25, 23, 24, 26, 27, 28, 29, 30, 31, 32, 33, 34, 35, 36, 37, 38, 39, 40, 41, 42, 43, 44, 45, 46, 48, 50, 51, 52] 53 [47, 49, 54, 55, 56, 57] hB [o0, o1, o2, o3, o4, o5, o6, o7, o8, o9, o10, o11, o12, o13, o14, o15, o16, o17, o18, o19, o20, o21, o22, o25, o23, o24, o26, o27, o28, o29, o30, o31, o32, o33, o34, o35, o36, o37, o38, o39, o40, o41, o42, o43, o44, o45, o46, o48, o50, o51, o52] [o47, o49, o54, o55, o56, o57] o53 rfl rfl rfl hQ h
set_option maxHeartbeats 4000000 in
theorem walk (a0 : Option Addr) (len0 cap0 : Nat) (z0 : List Int) (w : World) (w0 : IsRow .u8 w a0 len0 cap0 z0) :
    Calls Try.prog 4 #[.slice a0 len0 cap0] w fun e w' => e = .returned (.bool true) ∧ Below w.heap.size w w' := by
  have hc : Code w a0 len0 w.heap.size := code_of_row w0
  clear w0
  by_cases hbig : (1048576 : Int) < (len0 : Int)
  · go_enter Try.func4, Try.ntmps4
    go_wp2_with (go_at_call 6; refine (big_any _ _ _ _).mono ?_; rintro e w' ⟨rfl, rfl⟩)
    go_ret
    exact ⟨rfl, Below.refl _ _⟩
  · go_enter Try.func4, Try.ntmps4
    go_wp2_with fail
    refine (big_any _ _ _ _).mono ?_
    rintro e w' ⟨rfl, rfl⟩
    go_wp2_with fail
    refine (drawPutNum_any _ _ _ _ hc).mono ?_
    rintro e u1 ⟨q1, m, c1, f1, x, rfl, hx, hm, hcp1, hu1, o1, hB⟩
    clear hx
    go_wp2_with fail
    refine (implPutNum_cap x _ q1 m c1 f1 _ (by omega) o1.rd).mono ?_
    rintro e u2 ⟨q2, c2, rfl, hcp2, hb, o2⟩
    replace o1 := o1.grew hb
    replace hB := below_app hB hb hB.size
    clear hb
    go_wp2_with fail
    refine (implGetNum_back _ q2 m c2 x f1 _ (by omega) hcp2 hu1 o2.rd).mono ?_
    rintro e u3 ⟨rfl, hb⟩
    replace o1 := o1.grew hb
    replace o2 := o2.grew hb
    replace hB := below_app hB hb hB.size
    clear hb
    go_wp2_with fail
    refine (drawGetNum_any _ _ _ _ ((hc.below hB).mono hB.size (Nat.le_refl _))).mono ?_
    rintro e u4 ⟨q4, n, c4, f4, at', rfl, ha, hn, hcp4, hu4, o4, hb⟩
    replace o1 := o1.grew hb
    replace o2 := o2.grew hb
    replace hB := below_app hB hb hB.size
    clear hb
    go_wp2_with fail
    refine (implGetNum_any _ q4 n c4 at' f4 _ (by omega) hcp4 ha hu4 o4.rd).mono ?_
    rintro e u5 ⟨rfl, hb⟩
    replace o1 := o1.grew hb
    replace o2 := o2.grew hb
    replace o4 := o4.grew hb
    replace hB := below_app hB hb hB.size
    clear hb
    go_wp2_with fail
    refine (specGetNum_any _ q4 n c4 at' f4 _ (by omega) hu4 o4.rd).mono ?_
    rintro e u6 ⟨rfl, hb⟩
    replace o1 := o1.grew hb
    replace o2 := o2.grew hb
    replace o4 := o4.grew hb
    replace hB := below_app hB hb hB.size
    clear hb
    have r2 : Rd .u8 u6 q2 (some ⟨q2, 0, none⟩) m f1 := (o2.rd.first (by omega)).congr (fun i hi => by unfold cat; rw [if_pos hi])
    clear o2
    cases hgk : gok n f4 at' with
    | false =>
      clear o4
      go_wp2
      go_quiet (first | (go_at_call 19; exact Calls.quiet_of_same (implBound_b _ _)) | (go_at_call 26; exact Calls.quiet_of_same (same_any _ _ q2 q1 m _ _ f1 _ r2 o1.rd)))
      go_wp2
      go_ret
      exact ⟨rfl, below_drewN hB _⟩
    | true =>
      obtain ⟨i, rfl, hi4, hnx, henc⟩ := enc_back hu4 hgk
      have HE : Hid (∀ j, j < 4 → enc (gnum n f4 i) j = f4 (i + j)) := henc
      have r4 := o4.rd.off (m := 4) (i := i) hi4
      rw [Nat.zero_add] at r4
      clear henc o4 ha hu4 hu1
      go_wp2
      refine segs58 (by kernel_rfl) (by kernel_rfl) (by intro c d v a w h; cases d <;> exact h) ?_
      go_wp2_with fail
      refine (implBound_b _ _).mono ?_
      rintro e w' ⟨rfl, rfl⟩
      go_wp2_with fail
      refine (same_any _ _ q2 q1 m _ _ f1 u6.drew r2 o1.rd).mono ?_
      rintro e u7 ⟨rfl, hu7⟩
      have HU : Hid (u7 = u6.drew) := hu7
      clear hu7
      go_wp2_with fail
      have y1 : (0 : Int) ≤ (i : Int) := by omega
      have y2 : (i : Int) ≤ (i : Int) + 4 := by omega
      have y3 : (i : Int) + 4 ≤ (c4 : Int) := by omega
      refine ⟨.slice (some ⟨q4, i, none⟩) 4 (c4 - i), .inl ⟨?_, fun w => ?_⟩, ?_⟩
      · rfl
      · go_simp
        constructor <;> omega
      · have r4' : Rd .u8 u7 q4 (some ⟨q4, i, none⟩) 4 (fun j => f4 (i + j)) := by rw [HU.out]; exact r4
        have hB7 : Below w'.heap.size w' u7 := by rw [HU.out]; exact hB.drew
        have hb8 : Below u7.heap.size u7 (u7.alloc (.cells #[] 5)) := below_new _ _
        replace r4' := r4'.grew hb8
        replace hB7 := below_app hB7 hb8 hB7.size
        clear r4 hB hb8 r2 o1 y1 y2
        go_wp2_with fail
        refine (implPutNum_any (gnum n f4 i) _ 0 0 0 (fun _ => 0) _ (by omega) (.inl rfl)).mono ?_
        rintro e u8 ⟨g8, c8, rfl, hb, o8⟩
        replace r4' := r4'.grew hb
        replace hB7 := below_app hB7 hb hB7.size
        have r8 : Rd .u8 u8 g8 (some ⟨g8, 0, none⟩) 4 (fun j => f4 (i + j)) := o8.rd.congr (fun j hj => by unfold cat; rw [if_neg (by omega), Nat.sub_zero]; exact HE.out j (by omega))
        clear hb o8
        go_wp2_with fail
        refine (same_any _ _ g8 q4 4 _ _ (fun j => f4 (i + j)) u8 r8 r4').mono ?_
        rintro e u9 ⟨rfl, hu9⟩
        have HU9 : Hid (u9 = u8) := hu9
        clear hu9
        go_wp2
        go_ret
        exact ⟨rfl, by rw [HU9.out]; exact hB7⟩

set_option maxRecDepth 100000 in
theorem lifted (os : Os) (started : os.Started) (H : Type) (enc : TypeId × Value → H) :
    ReturnsInHanded {} Try.checked os 4 .any (Rows.fnNumsSpec.pre6 enc Try.prog Try.f4 Rows.fnNumsRow.domain false) (Rows.fnNumsSpec.post enc Try.prog Try.f4 false true false false) := by
  refine returnsInHanded_of_change (C := Try.checked) own started (by kernel_rfl) Try.func4
    (ChangeSpec.witness6 (enc := enc) (C := Try.checked) false ⟨#[], #[.slice none 0 0], []⟩ 8 (by kernel_rfl) (by kernel_rfl) (by kernel_rfl) (by kernel_rfl)) ?_
  intro W base args ds gs before hval0 hW hcnd _
  have hval : ∀ (j : Nat) t v, Try.f4.params[j]? = some t → args[j]? = some v → Value.okWide Try.prog W .any base t v := hval0
  have hW' := hW
  obtain ⟨p, q, hA0, hV, rfl, hfz, hnd⟩ := hW
  have hA : DataW.TrodAll enc Try.prog W 0 (fun _ => true) true Try.f4.params.toList args.toList ds p := hA0
  rw [Try.params4] at hA hval
  obtain ⟨v0, vs0, d0, ds0, p0, q0, hargs, rfl, rfl, h0, r0⟩ := trodAll_cons hA
  obtain ⟨rfl, rfl, rfl⟩ := trodAll_nil r0
  obtain rfl : args = #[v0] := by cases args; simp_all
  obtain ⟨rfl, rfl⟩ := trodVars_none hV
  obtain ⟨a0, len0, cap0, rfl⟩ := okWide_slice Try.underlying22 (hval 0 22 v0 rfl rfl)
  have k0 := h0
  have lt0 : ∀ x ∈ p0, x.block < W.heap.size := by obtain ⟨m, hm⟩ := k0; exact DataW.trod_lt m _ _ _ hm
  obtain ⟨z0, w0⟩ : ∃ zs, IsRow .u8 W a0 len0 cap0 zs := by
    obtain ⟨fuel, hf⟩ := h0
    rcases open_ints Try.underlying22 Try.underlying5 (by kernel_rfl) hf with ⟨hcs, _⟩ | ⟨x, l, c, zs, hcs, _, hl, hm, hz, _, hcell, hwz⟩
    · simp [Value.cells] at hcs
      obtain ⟨rfl, rfl, rfl⟩ := hcs
      exact ⟨[], .inl ⟨rfl, rfl, rfl, rfl⟩⟩
    · simp [Value.cells] at hcs
      obtain ⟨rfl, rfl, rfl⟩ := hcs
      exact ⟨zs, .inr ⟨_, rfl, hl, hm, by simpa using hz, hcell, hwz⟩⟩
  clear hA0 hval0
  refine (walk a0 len0 cap0 z0 W w0).mono fun e W' ⟨he, bel⟩ => ?_
  subst he
  exact ⟨_, rfl, _, _, _, [], _, [], hW', trodAll_mk1 (shut_bool Try.underlying4 _), (trodAll_cons_mk (Below.trod laidOut (by kernel_rfl) (of_decide_eq_true (by kernel_rfl)) k0 bel lt0) trodAll_mk0), rfl, bel.frame _, fun h => by cases h⟩

theorem over : Rows.fnNumsRow.holds Try.pinned (OpenSpec.ofChange Rows.fnNumsSpec) :=
  OpenClaim.holds_of_wide 4 Try.f4 rfl rfl rfl rfl rfl rfl rfl ⟨rfl, rfl, rfl, rfl, rfl⟩ rfl rfl rfl rfl rfl (by kernel_rfl) Try.func4 (by kernel_rfl)
    (of_decide_eq_true (by kernel_rfl)) (by unfold Func.isWrapper; first | (rw [if_pos (by decide +kernel)]; kernel_rfl) | (rw [if_neg (by decide +kernel)]; exact ⟨rfl, rfl⟩))
    (fun os started H enc _ => lifted os started H enc)

theorem proved : Rows.FnNumsSaid := over
#print axioms proved
end Go.Proofs.Ytamckedkilkooaa.fnNums
