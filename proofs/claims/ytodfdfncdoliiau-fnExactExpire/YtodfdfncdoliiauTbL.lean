/-
  Chapter 11, the program: list. Written by tools/tai.gen.py. Own work.
-/
import Derived.Test.YtodfdfncdoliiauTbB
import Derived.Deep.DeepCutAuto
import Derived.Deep.CutBlock
import Derived.Deep.RegionHeld
import Derived.Deep.RegionHeldLaw
import Derived.Deep.MidRow
import Derived.Laws.OwnMore
namespace Go.Proofs.Ytodfdfncdoliiau
open Go.ChangeShapes Go.WideShapes Go.ChangeAt Go.RowKit
set_option maxRecDepth 100000
set_option linter.unusedVariables false
set_option linter.unusedSimpArgs false

set_option maxHeartbeats 4000000 in
theorem list_any (M : Int × Int → Option Ef) (g : Nat → Int × Int) (d : Ef) (mb ob : Nat) (p : Option Addr) (n cap : Nat) (w : World) (hm : MapB encMk w mb (valM M)) (ho : RdE mkC 2 w ob p n g) (hn : n ≤ 1048578) (hf : ∀ i, i < n → ∀ x, M (g i) = some x → x.okW w ∧ x.ac.ln ≤ 1048577) :
    Calls Try.prog 41 #[.agg #[.map (some mb), .slice p n cap]] w fun e w' => ∃ v g', e = .returned v ∧ Below w.heap.size w w' ∧ BuildT w' w.heap.size v (selE M g n).length g' (selF d (selE M g n)) := by
  obtain ⟨ie, hie, hz0, hz1, hz2⟩ := info_parts Try.infoEf
  have R0 := boxR_new w 80 #[.map (some mb), .slice p n cap]
  have hb0 := below_new2'' w (.cells #[.map (some mb), .slice p n cap] 80)
  have M0 := hm.grew hb0
  have O0 := ho.grew mkC_ne hb0
  have hWs : (w.alloc (.cells #[.map (some mb), .slice p n cap] 80)).heap.size = w.heap.size + 1 := by simp
  go_enter Try.func41, Try.ntmps41
  go_upto_region 1 with fail
  generalize hW : w.alloc (.cells #[.map (some mb), .slice p n cap] 80) = W at R0 hb0 M0 O0 hWs ⊢
  clear hW hm ho
  replace hWs : Hid (W.heap.size = w.heap.size + 1) := hWs
  have hown0 : (W.alloc (.cells #[] 49)).ownsRow W.heap.size 49 22 (.slice (some ⟨W.heap.size, 0, none⟩) 0 0) 0 [] := World.ownsRow_lit W #[] 0 (Nat.le_refl _) (by decide) rfl
  have hb1 := below_new2'' W (.cells #[] 49)
  have R1 := R0.alloc (.cells #[] 49)
  have B0 : BuildT (W.alloc (.cells #[] 49)) W.heap.size (.slice (some ⟨W.heap.size, 0, none⟩) 0 0) (selE M g 0).length (fun _ => d) (selF d (selE M g 0)) := ⟨hown0, by simp, fun i hi => absurd hi (Nat.not_lt_zero i), fun i j _ hj => absurd hj (Nat.not_lt_zero j)⟩
  clear hown0
  have k1 : (W.alloc (.cells #[] 49)).cell? ⟨w.heap.size, 1, none⟩ = some (.slice p n cap) := by have := R1.cell 1; simpa using this
  go_upto_region 3 with fail
  generalize W.alloc (.cells #[] 49) = W0 at hb1 B0 R1 k1 ⊢
  clear R1 k1
  go_loopw [3, 12] (fun v i wr => ∃ (k : Nat) (g' : Nat → Ef), k ≤ n ∧ i = .int .i64 k ∧ Below W.heap.size W wr ∧ BuildT wr W.heap.size v (selE M g k).length g' (selF d (selE M g k))) (fun _ i _ => n - (intOf i).toNat)
  case atStart => exact ⟨0, fun _ => d, Nat.zero_le _, rfl, hb1, B0⟩
  case round =>
    clear hb1 B0
    obtain ⟨k, g', hk, rfl, hb, hB⟩ := hrel
    by_cases hlt : k < n
    · rcases O0.grew mkC_ne hb with h3 | ⟨o1, rfl, h3⟩
      · omega
      have ra : wr.rangeAt ob (o1 + k * 2) (mkC (g k)) := fun j v hv => h3 k hlt j v hv
      have mm := M0.grew hb
      have rr := R0.grew hb
      have y1 : (0 : Int) ≤ (k : Int) := by omega
      have y2 : (k : Int) < (n : Int) := by omega
      have hln := selE_len M g k
      have HS := fun x h => selE_some (M := M) (g := g) (k := k) (x := x) h
      have HN := fun h => selE_none (M := M) (g := g) (k := k) h
      have hx := hf k hlt
      have HX := fun x => selF_snoc d (selE M g k) x
      obtain ⟨m, hme⟩ : ∃ m, g k = m := ⟨_, rfl⟩
      rw [hme] at ra hx HS HN
      clear h3 hf hme
      have z0 := boxR_new wr 84 #[.int .i64 0, .int .i64 0]
      have zb := below_setRow (below_new2'' wr (.cells #[.int .i64 0, .int .i64 0] 84)) (Nat.le_refl _) (#[.int .i64 m.1, .int .i64 m.2] : Array Value)
      have z1 : BoxR ((wr.alloc (.cells #[.int .i64 0, .int .i64 0] 84)).setRow wr.heap.size #[.int .i64 m.1, .int .i64 m.2]) wr.heap.size 84 #[.int .i64 m.1, .int .i64 m.2] := setRow_heap _ _ _ _ _ _ z0
      go_upto_region 5 with first | (refine wpList_load_mid rfl 84 _ rfl ob (o1 + k * 2) (by rfl) [.int .i64 m.1, .int .i64 m.2] _ ra Try.underlying84 rfl (by kernel_rfl) ?_) | (refine wpList_store_row rfl 84 (.tmp 5) _ rfl wr.heap.size _ (by rfl) (by rfl) _ _ z0 (by kernel_rfl) (by rfl) (by simp [Value.oneCell']) ?_)
      generalize hU : (wr.alloc (.cells #[.int .i64 0, .int .i64 0] 84)).setRow wr.heap.size #[.int .i64 m.1, .int .i64 m.2] = U at zb z1 ⊢
      replace mm := mm.grew zb
      replace rr := rr.grew zb
      replace hB := hB.grew zb
      replace hb := below_app hb zb hb.size
      generalize wr.heap.size = gb at z1 ⊢
      clear z0 zb hU ra
      have c0 : U.cell? ⟨w.heap.size, 0, none⟩ = some (.map (some mb)) := by have := rr.cell 0; simpa using this
      cases hM : M m
      case none =>
        have hV1 : (valM M m).getD (.agg #[.int .i64 0, .int .i64 0, .int .i64 0, .int .i64 0, .int .i64 0, .int .i64 0, .int .i64 0, .int .i64 0, .int .i64 0, .int .i64 0, .int .i64 0, .int .i64 0, .int .i64 0, .int .i64 0, .int .i64 0, .int .i64 0, .int .i64 0, .int .i64 0, .bool false, .slice none 0 0, .int .i64 0, .int .i64 0]) = (.agg #[.int .i64 0, .int .i64 0, .int .i64 0, .int .i64 0, .int .i64 0, .int .i64 0, .int .i64 0, .int .i64 0, .int .i64 0, .int .i64 0, .int .i64 0, .int .i64 0, .int .i64 0, .int .i64 0, .int .i64 0, .int .i64 0, .int .i64 0, .int .i64 0, .bool false, .slice none 0 0, .int .i64 0, .int .i64 0]) := by unfold valM; rw [hM]; rfl
        have hV2 : (valM M m).isSome = false := by unfold valM; rw [hM]; rfl
        have y0 := boxR_new U 49 #[.int .i64 0, .int .i64 0, .int .i64 0, .int .i64 0, .int .i64 0, .int .i64 0, .int .i64 0, .int .i64 0, .int .i64 0, .int .i64 0, .int .i64 0, .int .i64 0, .int .i64 0, .int .i64 0, .int .i64 0, .int .i64 0, .int .i64 0, .int .i64 0, .bool false, .slice none 0 0, .int .i64 0, .int .i64 0]
        have yb := below_setRow (below_new2'' U (.cells #[.int .i64 0, .int .i64 0, .int .i64 0, .int .i64 0, .int .i64 0, .int .i64 0, .int .i64 0, .int .i64 0, .int .i64 0, .int .i64 0, .int .i64 0, .int .i64 0, .int .i64 0, .int .i64 0, .int .i64 0, .int .i64 0, .int .i64 0, .int .i64 0, .bool false, .slice none 0 0, .int .i64 0, .int .i64 0] 49)) (Nat.le_refl _) (#[.int .i64 0, .int .i64 0, .int .i64 0, .int .i64 0, .int .i64 0, .int .i64 0, .int .i64 0, .int .i64 0, .int .i64 0, .int .i64 0, .int .i64 0, .int .i64 0, .int .i64 0, .int .i64 0, .int .i64 0, .int .i64 0, .int .i64 0, .int .i64 0, .bool false, .slice none 0 0, .int .i64 0, .int .i64 0] : Array Value)
        have y9 : BoxR ((U.alloc (.cells #[.int .i64 0, .int .i64 0, .int .i64 0, .int .i64 0, .int .i64 0, .int .i64 0, .int .i64 0, .int .i64 0, .int .i64 0, .int .i64 0, .int .i64 0, .int .i64 0, .int .i64 0, .int .i64 0, .int .i64 0, .int .i64 0, .int .i64 0, .int .i64 0, .bool false, .slice none 0 0, .int .i64 0, .int .i64 0] 49)).setRow U.heap.size #[.int .i64 0, .int .i64 0, .int .i64 0, .int .i64 0, .int .i64 0, .int .i64 0, .int .i64 0, .int .i64 0, .int .i64 0, .int .i64 0, .int .i64 0, .int .i64 0, .int .i64 0, .int .i64 0, .int .i64 0, .int .i64 0, .int .i64 0, .int .i64 0, .bool false, .slice none 0 0, .int .i64 0, .int .i64 0]) U.heap.size 49 #[.int .i64 0, .int .i64 0, .int .i64 0, .int .i64 0, .int .i64 0, .int .i64 0, .int .i64 0, .int .i64 0, .int .i64 0, .int .i64 0, .int .i64 0, .int .i64 0, .int .i64 0, .int .i64 0, .int .i64 0, .int .i64 0, .int .i64 0, .int .i64 0, .bool false, .slice none 0 0, .int .i64 0, .int .i64 0] := setRow_heap _ _ _ _ _ _ y0
        go_upto_region 6 with first | (refine wpList_load_row rfl 84 _ rfl gb (by rfl) _ _ _ _ z1 Try.underlying84 rfl (by kernel_rfl) ?_) | (refine wpList_lookM _ rfl (.tmp 18) (.tmp 19) 77 rfl keyM Try.underlying77 (zeroEf _) rfl mm m rfl ?_; rw [hV1, hV2]) | (refine wpList_store_row rfl 49 (.tmp 6) _ rfl U.heap.size _ (by rfl) (by rfl) _ _ y0 (by kernel_rfl) (by rfl) (by simp [Value.oneCell']) ?_)
        generalize hV : (U.alloc (.cells #[.int .i64 0, .int .i64 0, .int .i64 0, .int .i64 0, .int .i64 0, .int .i64 0, .int .i64 0, .int .i64 0, .int .i64 0, .int .i64 0, .int .i64 0, .int .i64 0, .int .i64 0, .int .i64 0, .int .i64 0, .int .i64 0, .int .i64 0, .int .i64 0, .bool false, .slice none 0 0, .int .i64 0, .int .i64 0] 49)).setRow U.heap.size #[.int .i64 0, .int .i64 0, .int .i64 0, .int .i64 0, .int .i64 0, .int .i64 0, .int .i64 0, .int .i64 0, .int .i64 0, .int .i64 0, .int .i64 0, .int .i64 0, .int .i64 0, .int .i64 0, .int .i64 0, .int .i64 0, .int .i64 0, .int .i64 0, .bool false, .slice none 0 0, .int .i64 0, .int .i64 0] = V at yb y9 ⊢
        replace hB := hB.grew yb
        replace hb := below_app hb yb hb.size
        generalize U.heap.size = xb at y9 ⊢
        clear y0 yb hV c0 mm rr z1 hV1 hV2
        have HE := HN hM
        rw [← HE] at hB
        clear HS HN hM hx HX y9 M0 O0 R0 hb0 hWs
        go_wp2
        go_roundw
        case rel => first | exact ⟨k + 1, g', by omega, by go_num, hb, hB⟩ | ((repeat apply Exists.intro); exact ⟨⟨k + 1, g', by omega, by go_num, hb, hB⟩, rfl⟩)
        case measure => simp [intOf]; omega
      case some x =>
        have hV1 : (valM M m).getD (.agg #[.int .i64 0, .int .i64 0, .int .i64 0, .int .i64 0, .int .i64 0, .int .i64 0, .int .i64 0, .int .i64 0, .int .i64 0, .int .i64 0, .int .i64 0, .int .i64 0, .int .i64 0, .int .i64 0, .int .i64 0, .int .i64 0, .int .i64 0, .int .i64 0, .bool false, .slice none 0 0, .int .i64 0, .int .i64 0]) = (.agg #[.int .i64 x.id, .int .i64 x.si, .int .i64 x.sr, .int .i64 x.cl, .int .i64 x.pt.kd, .int .i64 x.pt.wh, .int .i64 x.pt.sr, .int .i64 x.pt.tr, .int .i64 x.pt.pi, .int .i64 x.pt.le, .int .i64 x.pt.zo, .int .i64 x.gd.kd, .int .i64 x.gd.nn, .int .i64 x.ac.kd, .int .i64 x.ac.nn, .int .i64 x.ac.pi, .int .i64 x.ac.si, .int .i64 x.ac.zo, .bool x.ac.be, .slice x.ac.la x.ac.ln x.ac.lcap, .int .i64 x.un, .int .i64 x.le]) := by unfold valM; rw [hM]; rfl
        have hV2 : (valM M m).isSome = true := by unfold valM; rw [hM]; rfl
        have y0 := boxR_new U 49 #[.int .i64 0, .int .i64 0, .int .i64 0, .int .i64 0, .int .i64 0, .int .i64 0, .int .i64 0, .int .i64 0, .int .i64 0, .int .i64 0, .int .i64 0, .int .i64 0, .int .i64 0, .int .i64 0, .int .i64 0, .int .i64 0, .int .i64 0, .int .i64 0, .bool false, .slice none 0 0, .int .i64 0, .int .i64 0]
        have yb := below_setRow (below_new2'' U (.cells #[.int .i64 0, .int .i64 0, .int .i64 0, .int .i64 0, .int .i64 0, .int .i64 0, .int .i64 0, .int .i64 0, .int .i64 0, .int .i64 0, .int .i64 0, .int .i64 0, .int .i64 0, .int .i64 0, .int .i64 0, .int .i64 0, .int .i64 0, .int .i64 0, .bool false, .slice none 0 0, .int .i64 0, .int .i64 0] 49)) (Nat.le_refl _) (#[.int .i64 x.id, .int .i64 x.si, .int .i64 x.sr, .int .i64 x.cl, .int .i64 x.pt.kd, .int .i64 x.pt.wh, .int .i64 x.pt.sr, .int .i64 x.pt.tr, .int .i64 x.pt.pi, .int .i64 x.pt.le, .int .i64 x.pt.zo, .int .i64 x.gd.kd, .int .i64 x.gd.nn, .int .i64 x.ac.kd, .int .i64 x.ac.nn, .int .i64 x.ac.pi, .int .i64 x.ac.si, .int .i64 x.ac.zo, .bool x.ac.be, .slice x.ac.la x.ac.ln x.ac.lcap, .int .i64 x.un, .int .i64 x.le] : Array Value)
        have y9 : BoxR ((U.alloc (.cells #[.int .i64 0, .int .i64 0, .int .i64 0, .int .i64 0, .int .i64 0, .int .i64 0, .int .i64 0, .int .i64 0, .int .i64 0, .int .i64 0, .int .i64 0, .int .i64 0, .int .i64 0, .int .i64 0, .int .i64 0, .int .i64 0, .int .i64 0, .int .i64 0, .bool false, .slice none 0 0, .int .i64 0, .int .i64 0] 49)).setRow U.heap.size #[.int .i64 x.id, .int .i64 x.si, .int .i64 x.sr, .int .i64 x.cl, .int .i64 x.pt.kd, .int .i64 x.pt.wh, .int .i64 x.pt.sr, .int .i64 x.pt.tr, .int .i64 x.pt.pi, .int .i64 x.pt.le, .int .i64 x.pt.zo, .int .i64 x.gd.kd, .int .i64 x.gd.nn, .int .i64 x.ac.kd, .int .i64 x.ac.nn, .int .i64 x.ac.pi, .int .i64 x.ac.si, .int .i64 x.ac.zo, .bool x.ac.be, .slice x.ac.la x.ac.ln x.ac.lcap, .int .i64 x.un, .int .i64 x.le]) U.heap.size 49 #[.int .i64 x.id, .int .i64 x.si, .int .i64 x.sr, .int .i64 x.cl, .int .i64 x.pt.kd, .int .i64 x.pt.wh, .int .i64 x.pt.sr, .int .i64 x.pt.tr, .int .i64 x.pt.pi, .int .i64 x.pt.le, .int .i64 x.pt.zo, .int .i64 x.gd.kd, .int .i64 x.gd.nn, .int .i64 x.ac.kd, .int .i64 x.ac.nn, .int .i64 x.ac.pi, .int .i64 x.ac.si, .int .i64 x.ac.zo, .bool x.ac.be, .slice x.ac.la x.ac.ln x.ac.lcap, .int .i64 x.un, .int .i64 x.le] := setRow_heap _ _ _ _ _ _ y0
        go_upto_region 6 with first | (refine wpList_load_row rfl 84 _ rfl gb (by rfl) _ _ _ _ z1 Try.underlying84 rfl (by kernel_rfl) ?_) | (refine wpList_lookM _ rfl (.tmp 18) (.tmp 19) 77 rfl keyM Try.underlying77 (zeroEf _) rfl mm m rfl ?_; rw [hV1, hV2]) | (refine wpList_store_row rfl 49 (.tmp 6) _ rfl U.heap.size _ (by rfl) (by rfl) _ _ y0 (by kernel_rfl) (by rfl) (by simp [Value.oneCell']) ?_)
        generalize hV : (U.alloc (.cells #[.int .i64 0, .int .i64 0, .int .i64 0, .int .i64 0, .int .i64 0, .int .i64 0, .int .i64 0, .int .i64 0, .int .i64 0, .int .i64 0, .int .i64 0, .int .i64 0, .int .i64 0, .int .i64 0, .int .i64 0, .int .i64 0, .int .i64 0, .int .i64 0, .bool false, .slice none 0 0, .int .i64 0, .int .i64 0] 49)).setRow U.heap.size #[.int .i64 x.id, .int .i64 x.si, .int .i64 x.sr, .int .i64 x.cl, .int .i64 x.pt.kd, .int .i64 x.pt.wh, .int .i64 x.pt.sr, .int .i64 x.pt.tr, .int .i64 x.pt.pi, .int .i64 x.pt.le, .int .i64 x.pt.zo, .int .i64 x.gd.kd, .int .i64 x.gd.nn, .int .i64 x.ac.kd, .int .i64 x.ac.nn, .int .i64 x.ac.pi, .int .i64 x.ac.si, .int .i64 x.ac.zo, .bool x.ac.be, .slice x.ac.la x.ac.ln x.ac.lcap, .int .i64 x.un, .int .i64 x.le] = V at yb y9 ⊢
        replace hB := hB.grew yb
        replace hb := below_app hb yb hb.size
        generalize U.heap.size = xb at y9 ⊢
        clear y0 yb hV c0 mm rr z1 hV1 hV2
        have HE := HS x hM
        have hxx := hx x hM
        have hxw := efw_grew (efw_grew hxx.1 hb0) hb
        have hxl := hxx.2
        replace HX := HX x
        generalize selE M g k = L at hB HX HE hln
        generalize hm : L.length = q at hB hln HX
        clear HS HN hM hx hxx M0 O0 R0 hb0 hWs
        go_wp2_with (refine wpList_load_row rfl 49 _ rfl xb (by rfl) _ _ _ _ y9 Try.underlying49 rfl (by kernel_rfl) ?_)
        refine (fresh_any x _ hxw hxl).mono ?_
        rintro e w3 ⟨y, rfl, hb2, oy, ky⟩
        have hown2 := owns_kept9 hB.1 hb2
        have hb3 := below_app hb hb2 hb.size
        have hvl := hown2.lt
        clear y9
        go_wp2_with (at_builtin; refine wpList_append_own_at _ rfl (.tmp 24) (.tmp 27) 24 rfl W.heap.size 49 ie (.agg #[.int .i64 0, .int .i64 0, .int .i64 0, .int .i64 0, .int .i64 0, .int .i64 0, .int .i64 0, .int .i64 0, .int .i64 0, .int .i64 0, .int .i64 0, .int .i64 0, .int .i64 0, .int .i64 0, .int .i64 0, .int .i64 0, .int .i64 0, .int .i64 0, .bool false, .slice none 0 0, .int .i64 0, .int .i64 0]) 22 192 Try.underlying24 hie hz0 hz1 hz2 rfl (by decide) _ _ _ rfl (hown2.alloc _) ⟨w3.heap.size, 0, none⟩ 1 1 (efC y) rfl rfl (cells_new _ _ _) (fun u hu => efC_one 1 (fun _ => y) u (by simpa [valsE] using hu)) (by unfold maxLen; omega) (by omega) (by have := hb3.size; simp; omega) ?_)
        intro v4 w4 hown4 hgr4 hnil4 hat4
        have HB := hB.snoc (hb2.alloc (by have := hb2.size; omega) (.cells #[.int .i64 y.id, .int .i64 y.si, .int .i64 y.sr, .int .i64 y.cl, .int .i64 y.pt.kd, .int .i64 y.pt.wh, .int .i64 y.pt.sr, .int .i64 y.pt.tr, .int .i64 y.pt.pi, .int .i64 y.pt.le, .int .i64 y.pt.zo, .int .i64 y.gd.kd, .int .i64 y.gd.nn, .int .i64 y.ac.kd, .int .i64 y.ac.nn, .int .i64 y.ac.pi, .int .i64 y.ac.si, .int .i64 y.ac.zo, .bool y.ac.be, .slice y.ac.la y.ac.ln y.ac.lcap, .int .i64 y.un, .int .i64 y.le] 49)) hb.size (OwnF.grew oy (below_new2'' w3 _)) ky hown4 hgr4 (fun e => by first | exact hnil4 e | exact hB.2.1 (hnil4.1 e).1) (by rw [World.size_alloc]; exact hat4)
        have hb4 : Below W.heap.size W w4 := (hb3.alloc hb3.size _).grown hgr4 (by have := hb3.size; simp; omega) (fun q hq => (hvl q hq).1)
        have hlen : (selE M g (k + 1)).length = q + 1 := by rw [HE]; simp [hm]
        replace HB := HB.congr (g' := _) (f' := selF d (selE M g (k + 1))) (fun i hi => rfl) (fun i hi => by rw [HE]; exact HX i hi)
        rw [← hlen] at HB
        clear hown4 hgr4 hnil4 hat4 hown2 hvl hb3 hb2 oy ky hB hb HX HE hlen hm hxw
        go_wp2
        go_roundw
        case rel => first | exact ⟨k + 1, _, by omega, by go_num, hb4, HB⟩ | ((repeat apply Exists.intro); exact ⟨⟨k + 1, _, by omega, by go_num, hb4, HB⟩, rfl⟩)
        case measure => simp [intOf]; omega
    · obtain rfl : k = n := by omega
      clear M0 O0 R0 hf
      go_wp2
      go_ret
      exact ⟨_, g', rfl, below_app hb0 hb hb0.size, hB.down (by have := hWs.out; omega)⟩
end Go.Proofs.Ytodfdfncdoliiau
