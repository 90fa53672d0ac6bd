/-
  What is proved: at every thing, the law FnExactEventText answers true (the program's EventText and the specification's answer alike), and the argument reads afterwards as before; the library's tables that the road reads hold what the program's text lays (the card ties them).
-/
import Derived.Test.YtjpimkolkhbflaqDoorCards
import Derived.Test.YtjpimkolkhbflaqDoorTie
import Derived.Test.YtjpimkolkhbflaqDoorEvT3
import Derived.WalkKit
import Derived.ProofKit
import Derived.OpenShut
import Derived.Deep.DeepHandedRow
import Derived.Lib.LaidTab
import Derived.Stop.LaidErr
import Derived.ChangeOld
import Derived.Below
namespace Go.Proofs.YtjpimkolkhbflaqDoor.fnExactEventText
open Go.ChangeShapes Go.WideShapes Go.ChangeAt Go.RowKit
set_option maxRecDepth 100000
set_option linter.unusedVariables false

theorem own : ownKnob Tryd.prog.godebug = none := by kernel_rfl
theorem laidOut : laidOutB Tryd.prog = true := by kernel_rfl
theorem table {W : World} (h : laidMetH Tryd.prog Rows.fnExactEventTextRow.laid W) : Pow W :=
  Lib.tabIs_of_head (rest := []) gTab gTabType Tryd.underlying66 Tryd.underlying59 cells1 cellsTab (show laidMet Tryd.prog [("internal/strconv.uint64pow10", Lib.tabData .u64 Lib.pow10Tab)] W from laidMet.tail (laidMet.tail h))

set_option maxHeartbeats 2000000 in
theorem walk (p0 : Ev) (w0 : p0.wf) (w : World) (htab : Pow w) :
    Calls Tryd.prog 3 #[(.agg #[.int .i64 p0.kd, .int .i64 p0.sr, .int .i64 p0.pi, .int .i64 p0.si, .int .i64 p0.nn, .int .i64 p0.zo, .bool p0.be])] w fun e w' => e = .returned (.bool true) ∧ Below w.heap.size w w' := by
  have HW : Hid (wf64 p0) := w0.in64
  have bx := boxE_new w 23 p0
  have hB := (Below.refl _ w).alloc (Nat.le_refl _) (.cells #[.int .i64 p0.kd, .int .i64 p0.sr, .int .i64 p0.pi, .int .i64 p0.si, .int .i64 p0.nn, .int .i64 p0.zo, .bool p0.be] 23)
  generalize hW : w.alloc (.cells #[.int .i64 p0.kd, .int .i64 p0.sr, .int .i64 p0.pi, .int .i64 p0.si, .int .i64 p0.nn, .int .i64 p0.zo, .bool p0.be] 23) = W at bx hB
  have HT : Hid (∀ u : World, Below w.heap.size w u → Pow u) := fun u hu => htab.below hu
  clear htab w0
  obtain ⟨k0, k1, k2, k3, k4, k5, k6⟩ : Cells7 _ _ _ := bx.cells
  go_enter Tryd.func3, Tryd.ntmps3
  go_wp2_with fail
  refine (toEvent_any p0 _).mono ?_
  rintro e u1 ⟨rfl, hb⟩
  replace bx := bx.grew hb
  replace hB := below_app hB hb hB.size
  clear hb
  go_wp2_with fail
  refine (specEventText_any p0 HW.out _).mono ?_
  rintro e u2 ⟨rfl, hb⟩
  replace bx := bx.grew hb
  replace hB := below_app hB hb hB.size
  clear hb k0 k1 k2 k3 k4 k5 k6 hW
  obtain ⟨k0, k1, k2, k3, k4, k5, k6⟩ : Cells7 _ _ _ := bx.cells
  go_wp2_with fail
  refine (toEvent_any p0 _).mono ?_
  rintro e u3 ⟨rfl, hb⟩
  replace hB := below_app hB hb hB.size
  clear hb
  go_wp2_with fail
  refine (implEventText_any p0 HW.out _ (HT.out _ hB)).mono ?_
  rintro e u4 ⟨rfl, hb⟩
  replace hB := below_app hB hb hB.size
  clear hb k0 k1 k2 k3 k4 k5 k6
  generalize txE p0 = X
  go_wp2
  go_ret
  exact ⟨rfl, hB⟩

theorem contract (H : Type) (enc : TypeId × Value → H) (W : World) (base : Nat) (args : Array Value) (ds gs : List (DataW H)) (before : List MemPlace)
    (hval : ∀ (j : Nat) t v, Tryd.f3.params[j]? = some t → args[j]? = some v → Value.okWide Tryd.prog W .any base t v)
    (hW : DataW.Whole enc Tryd.prog Tryd.f3.params.toList Rows.fnExactEventTextSpec.vars false W args.toList ds gs before) (hL : laidMetH Tryd.prog Rows.fnExactEventTextRow.laid W) :
    Calls Tryd.prog 3 args W fun e W' => ∃ v, e = .returned v ∧ Rows.fnExactEventTextSpec.post enc Tryd.prog Tryd.f3 false true false false W args v W' := by
  have hW' := hW
  obtain ⟨p, q, hA0, hV, rfl, hfz, hnd⟩ := hW
  have hA : DataW.TrodAll enc Tryd.prog W 0 (fun _ => true) true Tryd.f3.params.toList args.toList ds p := hA0
  rw [Tryd.params3] at hA hval
  obtain ⟨v0, vs0, d0, ds0, p0, q0, hargs, rfl, rfl, h0, r0⟩ := trodAll_cons hA
  obtain ⟨rfl, rfl, rfl⟩ := trodAll_nil r0
  obtain rfl : args = #[v0] := by cases args; simp_all
  obtain ⟨rfl, rfl⟩ := trodVars_none hV
  have k0 := h0
  have lt0 : ∀ x ∈ p0, x.block < W.heap.size := by obtain ⟨m, hm⟩ := k0; exact DataW.trod_lt m _ _ _ hm
  obtain ⟨v, rfl, w0⟩ := open_event (hval 0 23 v0 rfl rfl) h0
  clear hA0
  simp only [List.append_nil] at hW'
  refine (walk v w0 W (table hL)).mono fun e W' ⟨he, bel⟩ => ?_
  subst he
  exact ⟨_, rfl, _, _, _, [], _, [], hW', trodAll_mk1 (shut_bool Tryd.underlying4 _), trodAll_cons_mk (Below.trod laidOut (by kernel_rfl) (of_decide_eq_true (by kernel_rfl)) k0 bel lt0) trodAll_mk0, rfl, bel.frame _, fun h => by cases h⟩

theorem laid_met (os : Os) : laidMet Tryd.prog Rows.fnExactEventTextRow.laid (({ World.holding Tryd.prog os ⟨#[], #[], []⟩ with heap := laidHeap (World.holding Tryd.prog os ⟨#[], #[], []⟩).heap } : World).forCall (fun _ _ => 0) ⟨#[], #[.agg #[.int .i64 0, .int .i64 0, .int .i64 0, .int .i64 0, .int .i64 0, .int .i64 0, .bool false]], []⟩).memory :=
  laidMet_of_run' 8 (by kernel_rfl) (by kernel_rfl)
theorem reads (os : Os) {H : Type} (enc : TypeId × Value → H) : ∃ d places, DataW.whole enc Tryd.prog (({ World.holding Tryd.prog os ⟨#[], #[], []⟩ with heap := laidHeap (World.holding Tryd.prog os ⟨#[], #[], []⟩).heap } : World).forCall (fun _ _ => 0) ⟨#[], #[.agg #[.int .i64 0, .int .i64 0, .int .i64 0, .int .i64 0, .int .i64 0, .int .i64 0, .bool false]], []⟩).memory Tryd.f3.params.toList Rows.fnExactEventTextSpec.vars false #[Value.agg #[.int .i64 0, .int .i64 0, .int .i64 0, .int .i64 0, .int .i64 0, .int .i64 0, .bool false]].toList 8 = some ([d], [], places) :=
  ⟨.agg [.lit (.int .i64 0), .lit (.int .i64 0), .lit (.int .i64 0), .lit (.int .i64 0), .lit (.int .i64 0), .lit (.int .i64 0), .lit (.bool false)], [], by kernel_rfl⟩

set_option maxRecDepth 100000 in
theorem lifted (os : Os) (started : os.Started) (H : Type) (enc : TypeId × Value → H) (F : Stop.Interp) :
    ReturnsInHanded {} Tryd.checked os 3 .any ((OpenSpec.ofChange Rows.fnExactEventTextSpec).preRow enc Tryd.prog Tryd.f3 Rows.fnExactEventTextRow.domain false Rows.fnExactEventTextRow.laid) (((OpenSpec.ofChange Rows.fnExactEventTextSpec).at F).post enc Tryd.prog Tryd.f3 false true false false) := by
  obtain ⟨d, places, hx⟩ := reads os enc
  refine returnsInHanded_of_row (C := Tryd.checked) (s := OpenSpec.ofChange Rows.fnExactEventTextSpec) own started (by kernel_rfl) Tryd.func3
    (witness_row_at (enc := enc) (C := Tryd.checked) false { World.holding Tryd.prog os ⟨#[], #[], []⟩ with heap := laidHeap (World.holding Tryd.prog os ⟨#[], #[], []⟩).heap } #[.agg #[.int .i64 0, .int .i64 0, .int .i64 0, .int .i64 0, .int .i64 0, .int .i64 0, .bool false]] rfl (by kernel_rfl) (by kernel_rfl) (by kernel_rfl)
      (OpenSpec.preRow_of_cond 8 hx (by kernel_rfl) (fun k hk => by cases hk) (by kernel_rfl) (laid_met os))) ?_
  intro W base args ds gs before hval hW _ _ _ hL _ _
  exact contract H enc W base args ds gs before hval hW hL

theorem said : Rows.FnExactEventTextSaid :=
  OpenClaim.holds_of_cond 3 Tryd.f3 rfl rfl rfl rfl rfl rfl rfl ⟨rfl, rfl, rfl, rfl, rfl⟩ rfl rfl rfl rfl rfl (by kernel_rfl) Tryd.func3 (by kernel_rfl)
    (of_decide_eq_true (by kernel_rfl)) (by unfold Func.isWrapper; first | (rw [if_pos (by decide +kernel)]; kernel_rfl) | (rw [if_neg (by decide +kernel)]; exact ⟨rfl, rfl⟩))
    (fun os started H enc _ F => by rw [OpenClaim.pre_eq_preRow]; exact lifted os started H enc F)

theorem plain (f : FuncId) (fn : Func) (hf : Tryd.pinned.checked.prog.funcNamed "loop.example/g00486/laws.FnExactEventText" = some f) (hfn : Tryd.pinned.checked.prog.funcs[f]? = some fn) :
    true = Tryd.pinned.checked.prog.looks [] ∧ ∀ (j : Nat) t, fn.params[j]? = some t → Tryd.pinned.checked.prog.wantsStandIn t = false := by
  obtain rfl : f = 3 := Option.some.inj ((show Tryd.prog.funcNamed "loop.example/g00486/laws.FnExactEventText" = some 3 by kernel_rfl).symm.trans hf) |>.symm
  obtain rfl : fn = Tryd.f3 := (Option.some.inj (Tryd.func3.symm.trans hfn)).symm
  refine ⟨by kernel_rfl, fun j t ht => ?_⟩
  rw [Tryd.params3] at ht
  obtain rfl : t = 23 := by simpa using Array.mem_of_getElem? ht
  exact (show Tryd.prog.wantsStandIn 23 = false by kernel_rfl)

theorem card : Rows.FnExactEventTextCardSaid :=
  Claim7.holds_tied_plain_at .later [] _ _ _ _ said (fun _ h => by cases h) (by kernel_rfl) (fun _ h => by cases h) fnExactEventText_row_tie rfl ⟨rfl, rfl⟩ (by kernel_rfl) rfl plain (by kernel_rfl)
#print axioms card
end Go.Proofs.YtjpimkolkhbflaqDoor.fnExactEventText
