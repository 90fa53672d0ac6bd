/-
  What is proved: at every code (every slice of bytes, of whatever length), the law FnDigits answers true: amounts come back of their digits, and texts that are read are their own digits; and the argument reads afterwards as before; the library's tables that the road reads hold what the program's text lays (the card ties them).
-/
import Derived.Test.YtjfepkhcfeglcaaDoorCards
import Derived.Test.YtjfepkhcfeglcaaDoorTie
import Derived.Test.YtjfepkhcfeglcaaDoorNum
import Derived.Test.YtjfepkhcfeglcaaDoorParse4
import Derived.Test.YtjfepkhcfeglcaaDoorDigText
import Derived.Test.YtjfepkhcfeglcaaDoorCurStr
import Derived.Test.YtjfepkhcfeglcaaDoorDoorText
import Derived.WalkKit
import Derived.ProofKit
import Derived.OpenShut
import Derived.Deep.DeepHandedRow
import Derived.Lib.LaidTab
import Derived.Stop.LaidErr
import Derived.ChangeOld
import Derived.Below
namespace Go.Proofs.YtjfepkhcfeglcaaDoor.fnDigits
open Go.ChangeShapes Go.WideShapes Go.ChangeAt Go.RowKit

theorem own : ownKnob Tryd.prog.godebug = none := by kernel_rfl
theorem laidOut : laidOutB Tryd.prog = true := by kernel_rfl
theorem table {W : World} (h : laidMetH Tryd.prog Rows.fnDigitsRow.laid W) : Pow W :=
  Lib.tabIs_of_head (rest := []) gTab gTabType Tryd.underlying54 Tryd.underlying47 cells1 cellsTab (show laidMet Tryd.prog [("internal/strconv.uint64pow10", Lib.tabData .u64 Lib.pow10Tab)] W from laidMet.tail (laidMet.tail h))

def pN (s : ByteArray) : Int := psN s.data.toList
def pOk (s : ByteArray) : Bool := psOk s.data.toList
theorem implParse_b (s : ByteArray) (w : World) (hs : s.size ≤ maxLen) :
    Calls Tryd.prog 7 #[.string s] w fun e w' => e = .returned (.tuple #[.int .i64 (pN s), .bool (pOk s)]) ∧ Below w.heap.size w w' :=
  (implParseNum_any s w hs).mono fun _ _ h => ⟨h.1, h.2.2⟩
theorem specParse_b (s : ByteArray) (w : World) (hs : s.size ≤ maxLen) :
    Calls Tryd.prog 9 #[.string s] w fun e w' => e = .returned (.tuple #[.int .i64 (pN s), .bool (pOk s)]) ∧ w' = w := specParseNum_any s w hs
theorem tx_list (n : Int) : (tx n).data.toList = Lib.itoa n := by simp [tx]
theorem pOk_tx (n : Int) (h : inI64 n) : pOk (tx n) = (decide (-2147483647 ≤ n) && decide (n ≤ 2147483647)) ∧ (pOk (tx n) = true → pN (tx n) = n) := by
  unfold pOk pN
  rw [tx_list]
  exact ps_itoa n h.1 h.2
theorem tx_pN (t : ByteArray) (h : pOk t = true) : tx (pN t) = t ∧ -2147483647 ≤ pN t ∧ pN t ≤ 2147483647 := by
  obtain ⟨a, b⟩ := itoa_ps t.data.toList h
  refine ⟨?_, b⟩
  show (⟨(Lib.itoa (psN t.data.toList)).toArray⟩ : ByteArray) = t
  rw [a]
theorem tx_size (n : Int) (h : inI64 n) : (tx n).size ≤ 21 := by
  show (Lib.itoa n).toArray.size ≤ 21
  simpa using itoa_len n h.1 h.2
theorem bd_in (a : Int) (h1 : -2147483647 ≤ a) (h2 : a ≤ 2147483647) : bd a = a := by unfold bd bnd; (repeat' split) <;> omega

set_option maxHeartbeats 4000000 in
theorem walk (a0 : Option Addr) (len0 cap0 : Nat) (w : World) (hc : Code w a0 len0 w.heap.size) (ht : Pow w) :
    Calls Tryd.prog 3 #[.slice a0 len0 cap0] w fun e w' => e = .returned (.bool true) ∧ Below w.heap.size w w' := by
  by_cases hbig : (1048576 : Int) < (len0 : Int)
  · go_enter Tryd.func3, Tryd.ntmps3
    go_wp2_with (go_at_call 4; refine (big_any _ _ _ _).mono ?_; rintro e w' ⟨rfl, rfl⟩)
    go_ret
    exact ⟨rfl, Below.refl _ _⟩
  · go_enter Tryd.func3, Tryd.ntmps3
    go_wp2_with fail
    refine (big_any _ _ _ _).mono ?_
    rintro e w' ⟨rfl, rfl⟩
    go_wp2_with fail
    refine (drawNumText_any _ _ _ _ hc).mono ?_
    rintro e w1 ⟨n, hn, rfl, hb1⟩
    go_wp2_with fail
    refine (implNumText_any _ _ hn.1 hn.2 (ht.below hb1)).mono ?_
    rintro e w2 ⟨rfl, hb2⟩
    have hb := hb1.trans (hb2.mono hb1.size)
    clear hb1 hb2
    go_wp2_with fail
    refine (implParse_b _ _ (by have := tx_size n hn; unfold maxLen; omega)).mono ?_
    rintro e w3 ⟨rfl, hb3⟩
    have hb3 := hb.trans (hb3.mono hb.size)
    clear hb
    go_wp2_with fail
    refine (drawParseNum_any _ _ _ _ ((hc.below hb3).mono hb3.size (Nat.le_refl _))).mono ?_
    rintro e w4 ⟨t, hts, rfl, hb4⟩
    have hb4 := hb3.trans (hb4.mono hb3.size)
    clear hb3
    go_wp2_with fail
    refine (implParse_b _ _ (by unfold maxLen; omega)).mono ?_
    rintro e w5 ⟨rfl, hb5⟩
    have hb5 := hb4.trans (hb5.mono hb4.size)
    clear hb4
    go_wp2_with fail
    refine (specParse_b _ _ (by unfold maxLen; omega)).mono ?_
    rintro e w6 ⟨rfl, rfl⟩
    go_wp2_with fail
    refine (specNumText_b _ _ hn.1 hn.2).mono ?_
    rintro e w7 ⟨rfl, hb7⟩
    have hb := hb5.trans (hb7.mono hb5.size)
    have ht7 := ht.below hb
    clear hb5 hb7
    have hself : ((tx n).toList == (tx n).toList) = true := by simp
    have hcase : ((-2147483647 ≤ n ∧ n ≤ 2147483647) ∧ pOk (tx n) = true ∧ pN (tx n) = n) ∨ (n < -2147483647 ∧ pOk (tx n) = false) ∨ ((-2147483647 ≤ n ∧ decide (n ≤ 2147483647) = false) ∧ pOk (tx n) = false) := by
      obtain ⟨e1, e2⟩ := pOk_tx n hn
      by_cases h1 : -2147483647 ≤ n
      · by_cases h2 : n ≤ 2147483647
        · have h3 : pOk (tx n) = true := by rw [e1]; simp [h1, h2]
          exact .inl ⟨⟨h1, h2⟩, h3, e2 h3⟩
        · exact .inr (.inr ⟨⟨h1, by simpa using h2⟩, by rw [e1]; simp; omega⟩)
      · exact .inr (.inl ⟨by omega, by rw [e1]; simp; omega⟩)
    have hrest : pOk t = false ∨ (pOk t = true ∧ (-2147483647 ≤ pN t ∧ pN t ≤ 2147483647) ∧ ((tx (pN t)).toList == t.toList) = true ∧ bd (pN t) = pN t) := by
      cases e : pOk t with
      | false => exact .inl rfl
      | true =>
        obtain ⟨a, b, c⟩ := tx_pN t e
        exact .inr ⟨rfl, ⟨b, c⟩, by rw [a]; simp, bd_in _ b c⟩
    rcases hcase with ⟨⟨n1, n2⟩, n3, n4⟩ | ⟨n1, n3⟩ | ⟨⟨n1, n2⟩, n3⟩
    all_goals
      rcases hrest with t1 | ⟨t1, ⟨t2, t3⟩, t4, t5⟩
      · go_wp2
        all_goals go_ret
        all_goals exact ⟨rfl, hb⟩
      · go_wp2_with fail
        refine (implNumText_any _ _ (by omega) (by omega) ht7).mono ?_
        rintro e w8 ⟨rfl, hb8⟩
        have hb9 := hb.trans (hb8.mono hb.size)
        go_wp2_with fail
        refine (implBound_b _ _).mono ?_
        rintro e w9 ⟨rfl, rfl⟩
        go_wp2
        all_goals go_ret
        all_goals exact ⟨rfl, hb9⟩

/-- the row that came in, as the guide's frame has it -/
def IsRow (k : IntKind) (w : World) (a : Option Addr) (len cap : Nat) (zs : List Int) : Prop :=
  (a = none ∧ len = 0 ∧ cap = 0 ∧ zs = []) ∨
  ∃ x, a = some x ∧ len ≤ cap ∧ cap ≤ maxLen ∧ zs.length = cap ∧ (∀ i, i < zs.length → w.cell? (x.add i) = some (.int k (zs.getD i 0))) ∧ ∀ n ∈ zs, (Lit.int k n).wf = true

theorem contract (H : Type) (enc : TypeId × Value → H) (W : World) (base : Nat) (args : Array Value) (ds gs : List (DataW H)) (before : List MemPlace)
    (hval : ∀ (j : Nat) t v, Tryd.f3.params[j]? = some t → args[j]? = some v → Value.okWide Tryd.prog W .any base t v)
    (hW : DataW.Whole enc Tryd.prog Tryd.f3.params.toList Rows.fnDigitsSpec.vars false W args.toList ds gs before) (hL : laidMetH Tryd.prog Rows.fnDigitsRow.laid W) :
    Calls Tryd.prog 3 args W fun e W' => ∃ v, e = .returned v ∧ Rows.fnDigitsSpec.post enc Tryd.prog Tryd.f3 false true false false W args v W' := by
  have hW' := hW
  obtain ⟨p, q, hA0, hV, rfl, hfz, hnd⟩ := hW
  have hA : DataW.TrodAll enc Tryd.prog W 0 (fun _ => true) true Tryd.f3.params.toList args.toList ds p := hA0
  rw [Tryd.params3] at hA hval
  obtain ⟨v0, vs0, d0, ds0, p0, q0, hargs, rfl, rfl, h0, r0⟩ := trodAll_cons hA
  obtain ⟨rfl, rfl, rfl⟩ := trodAll_nil r0
  obtain rfl : args = #[v0] := by cases args; simp_all
  obtain ⟨rfl, rfl⟩ := trodVars_none hV
  obtain ⟨a0, len0, cap0, rfl⟩ := okWide_slice Tryd.underlying22 (hval 0 22 v0 rfl rfl)
  have k0 := h0
  have lt0 : ∀ x ∈ p0, x.block < W.heap.size := by obtain ⟨m, hm⟩ := k0; exact DataW.trod_lt m _ _ _ hm
  obtain ⟨z0, w0⟩ : ∃ zs, IsRow .u8 W a0 len0 cap0 zs := by
    obtain ⟨fuel, hf⟩ := h0
    rcases open_ints Tryd.underlying22 Tryd.underlying5 (by kernel_rfl) hf with ⟨hcs, _⟩ | ⟨x, l, c, zs, hcs, _, hl, hm, hz, _, hcell, hwz⟩
    · simp [Value.cells] at hcs
      obtain ⟨rfl, rfl, rfl⟩ := hcs
      exact ⟨[], .inl ⟨rfl, rfl, rfl, rfl⟩⟩
    · simp [Value.cells] at hcs
      obtain ⟨rfl, rfl, rfl⟩ := hcs
      exact ⟨zs, .inr ⟨_, rfl, hl, hm, by simpa using hz, hcell, hwz⟩⟩
  clear hA0
  refine (walk a0 len0 cap0 W (code_of_row w0) (table hL)).mono fun e W' ⟨he, bel⟩ => ?_
  subst he
  exact ⟨_, rfl, _, _, _, [], _, [], hW', trodAll_mk1 (shut_bool Tryd.underlying4 _), (trodAll_cons_mk (Below.trod laidOut (by kernel_rfl) (of_decide_eq_true (by kernel_rfl)) k0 bel lt0) trodAll_mk0), rfl, bel.frame _, fun h => by cases h⟩

theorem laid_met (os : Os) : laidMet Tryd.prog Rows.fnDigitsRow.laid (({ World.holding Tryd.prog os ⟨#[], #[], []⟩ with heap := laidHeap (World.holding Tryd.prog os ⟨#[], #[], []⟩).heap } : World).forCall (fun _ _ => 0) ⟨#[], #[.slice none 0 0], []⟩).memory :=
  laidMet_of_run' 8 (by kernel_rfl) (by kernel_rfl)
theorem reads (os : Os) {H : Type} (enc : TypeId × Value → H) : ∃ d places, DataW.whole enc Tryd.prog (({ World.holding Tryd.prog os ⟨#[], #[], []⟩ with heap := laidHeap (World.holding Tryd.prog os ⟨#[], #[], []⟩).heap } : World).forCall (fun _ _ => 0) ⟨#[], #[.slice none 0 0], []⟩).memory Tryd.f3.params.toList Rows.fnDigitsSpec.vars false #[Value.slice none 0 0].toList 8 = some ([d], [], places) :=
  ⟨.nil, [], by kernel_rfl⟩

set_option maxRecDepth 100000 in
theorem lifted (os : Os) (started : os.Started) (H : Type) (enc : TypeId × Value → H) (F : Stop.Interp) :
    ReturnsInHanded {} Tryd.checked os 3 .any ((OpenSpec.ofChange Rows.fnDigitsSpec).preRow enc Tryd.prog Tryd.f3 Rows.fnDigitsRow.domain false Rows.fnDigitsRow.laid) (((OpenSpec.ofChange Rows.fnDigitsSpec).at F).post enc Tryd.prog Tryd.f3 false true false false) := by
  obtain ⟨d, places, hx⟩ := reads os enc
  refine returnsInHanded_of_row (C := Tryd.checked) (s := OpenSpec.ofChange Rows.fnDigitsSpec) own started (by kernel_rfl) Tryd.func3
    (witness_row_at (enc := enc) (C := Tryd.checked) false { World.holding Tryd.prog os ⟨#[], #[], []⟩ with heap := laidHeap (World.holding Tryd.prog os ⟨#[], #[], []⟩).heap } #[.slice none 0 0] rfl (by kernel_rfl) (by kernel_rfl) (by kernel_rfl)
      (OpenSpec.preRow_of_cond 8 hx (by kernel_rfl) (fun k hk => by cases hk) (by kernel_rfl) (laid_met os))) ?_
  intro W base args ds gs before hval hW _ _ _ hL _ _
  exact contract H enc W base args ds gs before hval hW hL

theorem said : Rows.FnDigitsSaid :=
  OpenClaim.holds_of_cond 3 Tryd.f3 rfl rfl rfl rfl rfl rfl rfl ⟨rfl, rfl, rfl, rfl, rfl⟩ rfl rfl rfl rfl rfl (by kernel_rfl) Tryd.func3 (by kernel_rfl)
    (of_decide_eq_true (by kernel_rfl)) (by unfold Func.isWrapper; first | (rw [if_pos (by decide +kernel)]; kernel_rfl) | (rw [if_neg (by decide +kernel)]; exact ⟨rfl, rfl⟩))
    (fun os started H enc _ F => by rw [OpenClaim.pre_eq_preRow]; exact lifted os started H enc F)

theorem plain (f : FuncId) (fn : Func) (hf : Tryd.pinned.checked.prog.funcNamed "loop.example/g00486/laws.FnDigits" = some f) (hfn : Tryd.pinned.checked.prog.funcs[f]? = some fn) :
    false = Tryd.pinned.checked.prog.looks [] ∧ ∀ (j : Nat) t, fn.params[j]? = some t → Tryd.pinned.checked.prog.wantsStandIn t = false := by
  obtain rfl : f = 3 := Option.some.inj ((show Tryd.prog.funcNamed "loop.example/g00486/laws.FnDigits" = some 3 by kernel_rfl).symm.trans hf) |>.symm
  obtain rfl : fn = Tryd.f3 := (Option.some.inj (Tryd.func3.symm.trans hfn)).symm
  refine ⟨by kernel_rfl, fun j t ht => ?_⟩
  rw [Tryd.params3] at ht
  obtain rfl : t = 22 := by simpa using Array.mem_of_getElem? ht
  exact (show Tryd.prog.wantsStandIn 22 = false by kernel_rfl)

theorem card : Rows.FnDigitsCardSaid :=
  Claim7.holds_tied_plain_at .later [] _ _ _ _ said (fun _ h => by cases h) (by kernel_rfl) (fun _ h => by cases h) fnDigits_row_tie rfl ⟨rfl, rfl⟩ (by kernel_rfl) rfl plain (by kernel_rfl)
#print axioms card
end Go.Proofs.YtjfepkhcfeglcaaDoor.fnDigits
