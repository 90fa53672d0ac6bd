/-
  What is proved: at every act, the law FnExactActText answers true (the program's ActText and the specification's answer alike), and the argument reads afterwards as before; the library's tables that the road reads hold what the program's text lays (the card ties them).
-/
import Derived.Test.YtgaodfjmehofgasDoorCards
import Derived.Test.YtgaodfjmehofgasDoorTie
import Derived.Test.YtgaodfjmehofgasDoorAcTX
import Derived.Test.YtgaodfjmehofgasDoorRegCut
import Derived.Test.YtgaodfjmehofgasDoorStLaw
import Derived.Deep.RegionHeld
import Derived.WalkKit
import Derived.ProofKit
import Derived.OpenShut
import Derived.Deep.DeepHandedRow
import Derived.Lib.LaidTab
import Derived.Stop.LaidErr
import Derived.ChangeOld
import Derived.Below
namespace Go.Proofs.YtgaodfjmehofgasDoor.fnExactActText
open Go.ChangeShapes Go.WideShapes Go.ChangeAt Go.RowKit
set_option maxRecDepth 100000
set_option linter.unusedVariables false

theorem own : ownKnob Tryd.prog.godebug = none := by kernel_rfl
theorem laidOut : laidOutB Tryd.prog = true := by kernel_rfl
theorem table {W : World} (h : laidMetH Tryd.prog Rows.fnExactActTextRow.laid W) : Pow W :=
  Lib.tabIs_of_head (rest := []) gTab gTabType Tryd.underlying69 Tryd.underlying59 cells1 cellsTab (show laidMet Tryd.prog [("internal/strconv.uint64pow10", Lib.tabData .u64 Lib.pow10Tab)] W from laidMet.tail (laidMet.tail h))

set_option maxHeartbeats 4000000 in
theorem walk (p0 : Ac) (w : World) (w0 : p0.ok w) (htab : Pow w) :
    Calls Tryd.prog 3 #[(.agg #[.int .i64 p0.kd, .int .i64 p0.nn, .int .i64 p0.pi, .int .i64 p0.si, .int .i64 p0.zo, .bool p0.be, .slice p0.la p0.ln p0.lcap])] w fun e w' => e = .returned (.bool true) ∧ Below w.heap.size w w' := by
  have HT : Hid (∀ u : World, Below w.heap.size w u → Pow u) := fun u hu => htab.below hu
  clear htab
  have m_ : Tryd.prog.follows Departure.mixedOrders = true := by kernel_rfl
  have hBw := (Below.refl _ w).alloc (Nat.le_refl _) (.cells #[.int .i64 p0.kd, .int .i64 p0.nn, .int .i64 p0.pi, .int .i64 p0.si, .int .i64 p0.zo, .bool p0.be, .slice p0.la p0.ln p0.lcap] 24)
  have b_c0 := boxR_new w 24 #[.int .i64 p0.kd, .int .i64 p0.nn, .int .i64 p0.pi, .int .i64 p0.si, .int .i64 p0.zo, .bool p0.be, .slice p0.la p0.ln p0.lcap]
  generalize hW : w.alloc (.cells #[.int .i64 p0.kd, .int .i64 p0.nn, .int .i64 p0.pi, .int .i64 p0.si, .int .i64 p0.zo, .bool p0.be, .slice p0.la p0.ln p0.lcap] 24) = W at hBw b_c0
  have l_c0 := b_c0.lt
  have hsz : w.heap.size ≤ W.heap.size := hBw.size
  have k_c0 := act_grew w0 hBw
  have hB := Below.refl W.heap.size W
  have hmx : p0.ln ≤ 9223372036854775807 := by have := k_c0.1; have := k_c0.2.1; unfold maxLen at *; omega
  by_cases z : (1048576 : Int) - (p0.ln : Int) < 0
  · have Z : Hid (szN p0.ln 1048576 = -1) := by show szN p0.ln 1048576 = -1; unfold szN; rw [if_pos z]
    go_enter Tryd.func3, Tryd.ntmps3
    have c_c0_0 : W.cell? ⟨w.heap.size, 0, none⟩ = some (.int .i64 p0.kd) := b_c0.cell 0
    have c_c0_1 : W.cell? ⟨w.heap.size, 1, none⟩ = some (.int .i64 p0.nn) := b_c0.cell 1
    have c_c0_2 : W.cell? ⟨w.heap.size, 2, none⟩ = some (.int .i64 p0.pi) := b_c0.cell 2
    have c_c0_3 : W.cell? ⟨w.heap.size, 3, none⟩ = some (.int .i64 p0.si) := b_c0.cell 3
    have c_c0_4 : W.cell? ⟨w.heap.size, 4, none⟩ = some (.int .i64 p0.zo) := b_c0.cell 4
    have c_c0_5 : W.cell? ⟨w.heap.size, 5, none⟩ = some (.bool p0.be) := b_c0.cell 5
    have c_c0_6 : W.cell? ⟨w.heap.size, 6, none⟩ = some (.slice p0.la p0.ln p0.lcap) := b_c0.cell 6
    go_wp2_with fail
    refine (szAct_any p0 1048576 _ hmx (by omega)).mono ?_
    rintro e y1_ ⟨rfl, hb⟩
    clear c_c0_0 c_c0_1 c_c0_2 c_c0_3 c_c0_4 c_c0_5 c_c0_6
    try clear hW
    replace b_c0 := b_c0.grew hb
    replace hB := below_app hB hb hB.size
    clear hb
    rw [Z.out]
    go_wp2
    go_ret
    exact ⟨rfl, below_app hBw hB hsz⟩
  have n_c0 : p0.ln ≤ 1048576 := by omega
  have Y : Hid (szN p0.ln 1048576 = 1048576 - (p0.ln : Int)) := by show szN p0.ln 1048576 = _; unfold szN; rw [if_neg z]
  have y0 : 0 ≤ 1048576 - (p0.ln : Int) := by omega
  clear z
  go_enter Tryd.func3, Tryd.ntmps3
  have c_c0_0 : W.cell? ⟨w.heap.size, 0, none⟩ = some (.int .i64 p0.kd) := b_c0.cell 0
  have c_c0_1 : W.cell? ⟨w.heap.size, 1, none⟩ = some (.int .i64 p0.nn) := b_c0.cell 1
  have c_c0_2 : W.cell? ⟨w.heap.size, 2, none⟩ = some (.int .i64 p0.pi) := b_c0.cell 2
  have c_c0_3 : W.cell? ⟨w.heap.size, 3, none⟩ = some (.int .i64 p0.si) := b_c0.cell 3
  have c_c0_4 : W.cell? ⟨w.heap.size, 4, none⟩ = some (.int .i64 p0.zo) := b_c0.cell 4
  have c_c0_5 : W.cell? ⟨w.heap.size, 5, none⟩ = some (.bool p0.be) := b_c0.cell 5
  have c_c0_6 : W.cell? ⟨w.heap.size, 6, none⟩ = some (.slice p0.la p0.ln p0.lcap) := b_c0.cell 6
  go_wp2_with fail
  refine (szAct_any p0 1048576 _ hmx (by omega)).mono ?_
  rintro e y1_ ⟨rfl, hb⟩
  clear c_c0_0 c_c0_1 c_c0_2 c_c0_3 c_c0_4 c_c0_5 c_c0_6
  try clear hW
  replace b_c0 := b_c0.grew hb
  replace hB := below_app hB hb hB.size
  clear hb
  rw [Y.out]
  clear hmx
  have c_c0_0 : y1_.cell? ⟨w.heap.size, 0, none⟩ = some (.int .i64 p0.kd) := b_c0.cell 0
  have c_c0_1 : y1_.cell? ⟨w.heap.size, 1, none⟩ = some (.int .i64 p0.nn) := b_c0.cell 1
  have c_c0_2 : y1_.cell? ⟨w.heap.size, 2, none⟩ = some (.int .i64 p0.pi) := b_c0.cell 2
  have c_c0_3 : y1_.cell? ⟨w.heap.size, 3, none⟩ = some (.int .i64 p0.si) := b_c0.cell 3
  have c_c0_4 : y1_.cell? ⟨w.heap.size, 4, none⟩ = some (.int .i64 p0.zo) := b_c0.cell 4
  have c_c0_5 : y1_.cell? ⟨w.heap.size, 5, none⟩ = some (.bool p0.be) := b_c0.cell 5
  have c_c0_6 : y1_.cell? ⟨w.heap.size, 6, none⟩ = some (.slice p0.la p0.ln p0.lcap) := b_c0.cell 6
  go_wp2_with fail
  refine (toAct_ans p0 _ (act_grew k_c0 hB) n_c0).mono ?_
  rintro e y2_ ⟨t_y, rfl, hb, o_y, e_y⟩
  clear c_c0_0 c_c0_1 c_c0_2 c_c0_3 c_c0_4 c_c0_5 c_c0_6
  have d_c0_y : w.heap.size ≠ t_y.lb := by have h1 := b_c0.lt; have h2 := o_y.2.2.1; omega
  have f_y : W.heap.size ≤ t_y.lb := by have := o_y.2.2.1; have := hB.size; omega
  replace b_c0 := b_c0.grew hb
  replace hB := below_app hB hb hB.size
  clear hb
  go_wp2_with fail
  refine (specActText_al o_y e_y k_c0 n_c0).mono ?_
  rintro e y3_ ⟨rfl, hb⟩
  replace o_y := o_y.grew hb
  replace b_c0 := b_c0.grew hb
  replace hB := below_app hB hb hB.size
  clear hb
  clear o_y
  have c_c0_0 : y3_.cell? ⟨w.heap.size, 0, none⟩ = some (.int .i64 p0.kd) := b_c0.cell 0
  have c_c0_1 : y3_.cell? ⟨w.heap.size, 1, none⟩ = some (.int .i64 p0.nn) := b_c0.cell 1
  have c_c0_2 : y3_.cell? ⟨w.heap.size, 2, none⟩ = some (.int .i64 p0.pi) := b_c0.cell 2
  have c_c0_3 : y3_.cell? ⟨w.heap.size, 3, none⟩ = some (.int .i64 p0.si) := b_c0.cell 3
  have c_c0_4 : y3_.cell? ⟨w.heap.size, 4, none⟩ = some (.int .i64 p0.zo) := b_c0.cell 4
  have c_c0_5 : y3_.cell? ⟨w.heap.size, 5, none⟩ = some (.bool p0.be) := b_c0.cell 5
  have c_c0_6 : y3_.cell? ⟨w.heap.size, 6, none⟩ = some (.slice p0.la p0.ln p0.lcap) := b_c0.cell 6
  go_wp2_with fail
  refine (toAct_ans p0 _ (act_grew k_c0 hB) n_c0).mono ?_
  rintro e y4_ ⟨t_x, rfl, hb, o_x, e_x⟩
  clear c_c0_0 c_c0_1 c_c0_2 c_c0_3 c_c0_4 c_c0_5 c_c0_6
  have d_c0_x : w.heap.size ≠ t_x.lb := by have h1 := b_c0.lt; have h2 := o_x.2.2.1; omega
  have f_x : W.heap.size ≤ t_x.lb := by have := o_x.2.2.1; have := hB.size; omega
  replace b_c0 := b_c0.grew hb
  replace hB := below_app hB hb hB.size
  clear hb
  have hb := (Below.refl _ y4_).alloc (Nat.le_refl _) (.cells #[.int .i64 t_x.kd, .int .i64 t_x.nn, .int .i64 t_x.pi, .int .i64 t_x.si, .int .i64 t_x.zo, .bool t_x.be, .slice t_x.la t_x.ln t_x.lcap] 29)
  have b_x := boxR_new y4_ 29 #[.int .i64 t_x.kd, .int .i64 t_x.nn, .int .i64 t_x.pi, .int .i64 t_x.si, .int .i64 t_x.zo, .bool t_x.be, .slice t_x.la t_x.ln t_x.lcap]
  have d_x_x : y4_.heap.size ≠ t_x.lb := by have h1 := o_x.2.2.2.1; omega
  generalize hVx : y4_.alloc (.cells #[.int .i64 t_x.kd, .int .i64 t_x.nn, .int .i64 t_x.pi, .int .i64 t_x.si, .int .i64 t_x.zo, .bool t_x.be, .slice t_x.la t_x.ln t_x.lcap] 29) = y5_ at hb b_x
  replace o_x := o_x.grew hb
  replace b_c0 := b_c0.grew hb
  replace hB := below_app hB hb hB.size
  clear hb
  have c_x_0 : y5_.cell? ⟨y4_.heap.size, 0, none⟩ = some (.int .i64 t_x.kd) := b_x.cell 0
  have c_x_1 : y5_.cell? ⟨y4_.heap.size, 1, none⟩ = some (.int .i64 t_x.nn) := b_x.cell 1
  have c_x_2 : y5_.cell? ⟨y4_.heap.size, 2, none⟩ = some (.int .i64 t_x.pi) := b_x.cell 2
  have c_x_3 : y5_.cell? ⟨y4_.heap.size, 3, none⟩ = some (.int .i64 t_x.si) := b_x.cell 3
  have c_x_4 : y5_.cell? ⟨y4_.heap.size, 4, none⟩ = some (.int .i64 t_x.zo) := b_x.cell 4
  have c_x_5 : y5_.cell? ⟨y4_.heap.size, 5, none⟩ = some (.bool t_x.be) := b_x.cell 5
  have c_x_6 : y5_.cell? ⟨y4_.heap.size, 6, none⟩ = some (.slice t_x.la t_x.ln t_x.lcap) := b_x.cell 6
  go_wp2_with fail
  refine (implActText_al o_x e_x k_c0 n_c0 (HT.out _ (below_app hBw hB hsz))).mono ?_
  rintro e y6_ ⟨rfl, hb⟩
  clear c_x_0 c_x_1 c_x_2 c_x_3 c_x_4 c_x_5 c_x_6
  replace o_x := o_x.grew hb
  replace b_c0 := b_c0.grew hb
  replace b_x := b_x.grew hb
  replace hB := below_app hB hb hB.size
  clear hb
  generalize txA p0 = X_
  go_wp2_with fail
  refine wp_cutT (fun t : Ac => [(22, (.agg #[.int .i64 t_x.kd, .int .i64 t_x.nn, .int .i64 t_x.pi, .int .i64 t_x.si, .int .i64 t_x.zo, .bool t_x.be, .slice t_x.la t_x.ln t_x.lcap])), (23, (.agg #[.int .i64 p0.kd, .int .i64 p0.nn, .int .i64 p0.pi, .int .i64 p0.si, .int .i64 p0.zo, .bool p0.be, .slice p0.la p0.ln p0.lcap])), (24, (.agg #[.int .i64 t.kd, .int .i64 t.nn, .int .i64 t.pi, .int .i64 t.si, .int .i64 t.zo, .bool t.be, .slice t.la t.ln t.lcap])), (25, .bool true), (26, .bool false)]) (fun _ u => Below y6_.heap.size y6_ u) ?_ ?_
  · have tb : Calls Tryd.prog 6 #[(.agg #[.int .i64 p0.kd, .int .i64 p0.nn, .int .i64 p0.pi, .int .i64 p0.si, .int .i64 p0.zo, .bool p0.be, .slice p0.la p0.ln p0.lcap])] y6_.drew fun e v => ∃ t : Ac, e = .returned (.agg #[.int .i64 t.kd, .int .i64 t.nn, .int .i64 t.pi, .int .i64 t.si, .int .i64 t.zo, .bool t.be, .slice t.la t.ln t.lcap]) ∧ Below y6_.heap.size y6_ v ∧ OwnA v y6_.heap.size t ∧ AlikeA t p0 ∧ OwnA v _ t_x ∧ v.cell? ⟨y4_.heap.size, 0, none⟩ = some (.int .i64 t_x.kd) ∧ v.cell? ⟨y4_.heap.size, 1, none⟩ = some (.int .i64 t_x.nn) ∧ v.cell? ⟨y4_.heap.size, 2, none⟩ = some (.int .i64 t_x.pi) ∧ v.cell? ⟨y4_.heap.size, 3, none⟩ = some (.int .i64 t_x.si) ∧ v.cell? ⟨y4_.heap.size, 4, none⟩ = some (.int .i64 t_x.zo) ∧ v.cell? ⟨y4_.heap.size, 5, none⟩ = some (.bool t_x.be) ∧ v.cell? ⟨y4_.heap.size, 6, none⟩ = some (.slice t_x.la t_x.ln t_x.lcap) := (toAct_ans p0 y6_.drew (show p0.ok y6_.drew from act_grew k_c0 hB.drew) n_c0).mono (by rintro e v ⟨t, h1, h2, h3, h4⟩; have h5 : Below y6_.heap.size y6_ v := ((Below.refl _ y6_).drew).trans h2; have b := b_x.grew h5; exact ⟨t, h1, h5, h3, h4, o_x.grew h5, b.cell 0, b.cell 1, b.cell 2, b.cell 3, b.cell 4, b.cell 5, b.cell 6⟩)
    have c_x_0 : y6_.cell? ⟨y4_.heap.size, 0, none⟩ = some (.int .i64 t_x.kd) := b_x.cell 0
    have c_x_1 : y6_.cell? ⟨y4_.heap.size, 1, none⟩ = some (.int .i64 t_x.nn) := b_x.cell 1
    have c_x_2 : y6_.cell? ⟨y4_.heap.size, 2, none⟩ = some (.int .i64 t_x.pi) := b_x.cell 2
    have c_x_3 : y6_.cell? ⟨y4_.heap.size, 3, none⟩ = some (.int .i64 t_x.si) := b_x.cell 3
    have c_x_4 : y6_.cell? ⟨y4_.heap.size, 4, none⟩ = some (.int .i64 t_x.zo) := b_x.cell 4
    have c_x_5 : y6_.cell? ⟨y4_.heap.size, 5, none⟩ = some (.bool t_x.be) := b_x.cell 5
    have c_x_6 : y6_.cell? ⟨y4_.heap.size, 6, none⟩ = some (.slice t_x.la t_x.ln t_x.lcap) := b_x.cell 6
    have c_c0_0 : y6_.cell? ⟨w.heap.size, 0, none⟩ = some (.int .i64 p0.kd) := b_c0.cell 0
    have c_c0_1 : y6_.cell? ⟨w.heap.size, 1, none⟩ = some (.int .i64 p0.nn) := b_c0.cell 1
    have c_c0_2 : y6_.cell? ⟨w.heap.size, 2, none⟩ = some (.int .i64 p0.pi) := b_c0.cell 2
    have c_c0_3 : y6_.cell? ⟨w.heap.size, 3, none⟩ = some (.int .i64 p0.si) := b_c0.cell 3
    have c_c0_4 : y6_.cell? ⟨w.heap.size, 4, none⟩ = some (.int .i64 p0.zo) := b_c0.cell 4
    have c_c0_5 : y6_.cell? ⟨w.heap.size, 5, none⟩ = some (.bool p0.be) := b_c0.cell 5
    have c_c0_6 : y6_.cell? ⟨w.heap.size, 6, none⟩ = some (.slice p0.la p0.ln p0.lcap) := b_c0.cell 6
    go_region_with_o (first | (go_at_call 6; refine tb.mono ?_; rintro e v1 ⟨t1, rfl, hb1, ot, et, ox, r0, r1, r2, r3, r4, r5, r6⟩) | (go_at_call 8; refine (eqAct_alike t_x t1 p0 _ ox ot e_x et (by omega)).mono ?_; rintro e v2 ⟨rfl, hb2⟩))
    all_goals exact ⟨t1, rfl, below_app hb1 hb2 hb1.size⟩
  rintro t_ y7_ hb
  simp only [puts, List.foldl, Act.put, List.setIfInBounds_toArray, List.set_cons_zero, List.set_cons_succ]
  replace o_x := o_x.grew hb
  replace b_c0 := b_c0.grew hb
  replace b_x := b_x.grew hb
  replace hB := below_app hB hb hB.size
  clear hb
  go_wp2
  go_ret
  exact ⟨rfl, below_app hBw hB hsz⟩

theorem contract (H : Type) (enc : TypeId × Value → H) (W : World) (base : Nat) (args : Array Value) (ds gs : List (DataW H)) (before : List MemPlace)
    (hval : ∀ (j : Nat) t v, Tryd.f3.params[j]? = some t → args[j]? = some v → Value.okWide Tryd.prog W .any base t v)
    (hW : DataW.Whole enc Tryd.prog Tryd.f3.params.toList Rows.fnExactActTextSpec.vars false W args.toList ds gs before) (hL : laidMetH Tryd.prog Rows.fnExactActTextRow.laid W) :
    Calls Tryd.prog 3 args W fun e W' => ∃ v, e = .returned v ∧ Rows.fnExactActTextSpec.post enc Tryd.prog Tryd.f3 false true false false W args v W' := by
  have hW' := hW
  obtain ⟨p, q, hA0, hV, rfl, hfz, hnd⟩ := hW
  have hA : DataW.TrodAll enc Tryd.prog W 0 (fun _ => true) true Tryd.f3.params.toList args.toList ds p := hA0
  rw [Tryd.params3] at hA hval
  obtain ⟨v0, vs0, d0, ds0, p0, q0, hargs, rfl, rfl, h0, r0⟩ := trodAll_cons hA
  obtain ⟨rfl, rfl, rfl⟩ := trodAll_nil r0
  obtain rfl : args = #[v0] := by cases args; simp_all
  obtain ⟨rfl, rfl⟩ := trodVars_none hV
  have k0 := h0
  have lt0 : ∀ x ∈ p0, x.block < W.heap.size := by obtain ⟨m, hm⟩ := k0; exact DataW.trod_lt m _ _ _ hm
  obtain ⟨v, rfl, w0⟩ := open_act (hval 0 24 v0 rfl rfl) h0
  clear hA0
  simp only [List.append_nil] at hW'
  refine (walk v W w0 (table hL)).mono fun e W' ⟨he, bel⟩ => ?_
  subst he
  exact ⟨_, rfl, _, _, _, [], _, [], hW', trodAll_mk1 (shut_bool Tryd.underlying4 _), trodAll_cons_mk (Below.trod laidOut (by kernel_rfl) (of_decide_eq_true (by kernel_rfl)) k0 bel lt0) trodAll_mk0, rfl, bel.frame _, fun h => by cases h⟩

theorem laid_met (os : Os) : laidMet Tryd.prog Rows.fnExactActTextRow.laid (({ World.holding Tryd.prog os ⟨#[], #[], []⟩ with heap := laidHeap (World.holding Tryd.prog os ⟨#[], #[], []⟩).heap } : World).forCall (fun _ _ => 0) ⟨#[], #[.agg #[.int .i64 0, .int .i64 0, .int .i64 0, .int .i64 0, .int .i64 0, .bool false, .slice none 0 0]], []⟩).memory :=
  laidMet_of_run' 8 (by kernel_rfl) (by kernel_rfl)
theorem reads (os : Os) {H : Type} (enc : TypeId × Value → H) : ∃ d places, DataW.whole enc Tryd.prog (({ World.holding Tryd.prog os ⟨#[], #[], []⟩ with heap := laidHeap (World.holding Tryd.prog os ⟨#[], #[], []⟩).heap } : World).forCall (fun _ _ => 0) ⟨#[], #[.agg #[.int .i64 0, .int .i64 0, .int .i64 0, .int .i64 0, .int .i64 0, .bool false, .slice none 0 0]], []⟩).memory Tryd.f3.params.toList Rows.fnExactActTextSpec.vars false #[Value.agg #[.int .i64 0, .int .i64 0, .int .i64 0, .int .i64 0, .int .i64 0, .bool false, .slice none 0 0]].toList 8 = some ([d], [], places) :=
  ⟨.agg [.lit (.int .i64 0), .lit (.int .i64 0), .lit (.int .i64 0), .lit (.int .i64 0), .lit (.int .i64 0), .lit (.bool false), .nil], [], by kernel_rfl⟩

set_option maxRecDepth 100000 in
theorem lifted (os : Os) (started : os.Started) (H : Type) (enc : TypeId × Value → H) (F : Stop.Interp) :
    ReturnsInHanded {} Tryd.checked os 3 .any ((OpenSpec.ofChange Rows.fnExactActTextSpec).preRow enc Tryd.prog Tryd.f3 Rows.fnExactActTextRow.domain false Rows.fnExactActTextRow.laid) (((OpenSpec.ofChange Rows.fnExactActTextSpec).at F).post enc Tryd.prog Tryd.f3 false true false false) := by
  obtain ⟨d, places, hx⟩ := reads os enc
  refine returnsInHanded_of_row (C := Tryd.checked) (s := OpenSpec.ofChange Rows.fnExactActTextSpec) own started (by kernel_rfl) Tryd.func3
    (witness_row_at (enc := enc) (C := Tryd.checked) false { World.holding Tryd.prog os ⟨#[], #[], []⟩ with heap := laidHeap (World.holding Tryd.prog os ⟨#[], #[], []⟩).heap } #[.agg #[.int .i64 0, .int .i64 0, .int .i64 0, .int .i64 0, .int .i64 0, .bool false, .slice none 0 0]] rfl (by kernel_rfl) (by kernel_rfl) (by kernel_rfl)
      (OpenSpec.preRow_of_cond 8 hx (by kernel_rfl) (fun k hk => by cases hk) (by kernel_rfl) (laid_met os))) ?_
  intro W base args ds gs before hval hW _ _ _ hL _ _
  exact contract H enc W base args ds gs before hval hW hL

theorem said : Rows.FnExactActTextSaid :=
  OpenClaim.holds_of_cond 3 Tryd.f3 rfl rfl rfl rfl rfl rfl rfl ⟨rfl, rfl, rfl, rfl, rfl⟩ rfl rfl rfl rfl rfl (by kernel_rfl) Tryd.func3 (by kernel_rfl)
    (of_decide_eq_true (by kernel_rfl)) (by unfold Func.isWrapper; first | (rw [if_pos (by decide +kernel)]; kernel_rfl) | (rw [if_neg (by decide +kernel)]; exact ⟨rfl, rfl⟩))
    (fun os started H enc _ F => by rw [OpenClaim.pre_eq_preRow]; exact lifted os started H enc F)

theorem plain (f : FuncId) (fn : Func) (hf : Tryd.pinned.checked.prog.funcNamed "loop.example/g00486/laws.FnExactActText" = some f) (hfn : Tryd.pinned.checked.prog.funcs[f]? = some fn) :
    true = Tryd.pinned.checked.prog.looks [] ∧ ∀ (j : Nat) t, fn.params[j]? = some t → Tryd.pinned.checked.prog.wantsStandIn t = false := by
  obtain rfl : f = 3 := Option.some.inj ((show Tryd.prog.funcNamed "loop.example/g00486/laws.FnExactActText" = some 3 by kernel_rfl).symm.trans hf) |>.symm
  obtain rfl : fn = Tryd.f3 := (Option.some.inj (Tryd.func3.symm.trans hfn)).symm
  refine ⟨by kernel_rfl, fun j t ht => ?_⟩
  rw [Tryd.params3] at ht
  obtain rfl : t = 24 := by simpa using Array.mem_of_getElem? ht
  exact (show Tryd.prog.wantsStandIn 24 = false by kernel_rfl)

theorem card : Rows.FnExactActTextCardSaid :=
  Claim7.holds_tied_plain_at .later [] _ _ _ _ said (fun _ h => by cases h) (by kernel_rfl) (fun _ h => by cases h) fnExactActText_row_tie rfl ⟨rfl, rfl⟩ (by kernel_rfl) rfl plain (by kernel_rfl)
#print axioms card
end Go.Proofs.YtgaodfjmehofgasDoor.fnExactActText
