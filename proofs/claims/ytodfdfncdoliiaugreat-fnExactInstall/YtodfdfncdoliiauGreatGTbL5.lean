/-
  Chapter 11, the program: list. Written by tools/tai.gen.py. Chapter 11, the program: Drop, Update. Written by tools/tai.gen.py. Chapter 4: the program's between, Moved, asPrinted, SamePiece, HasTrait, withCounters, PowerOf, ToughOf, flagNum. Chapter 6: the program's things behind their interface: thingOf, event, thingOk, rightThing, EventOk. Written by tools/ev.gen.py. Chapter 10, the program: standing, and what it is asked. Written by tools/efi.gen.py. Own work.
-/
import Derived.Test.YtodfdfncdoliiauGreatTbB
import Derived.Deep.DeepCutAuto
import Derived.Deep.CutBlock
import Derived.Deep.RegionHeld
import Derived.Deep.RegionHeldLaw
import Derived.Deep.MidRow
import Derived.Laws.OwnMore
import Derived.Test.YtodfdfncdoliiauGreatTbA
import Derived.Test.YtodfdfncdoliiauGreatGRegBelow3
import Derived.Test.YtodfdfncdoliiauGreatGEvA3
import Derived.Test.YtodfdfncdoliiauGreatGTaF3
namespace Go.Proofs.YtodfdfncdoliiauGreat
open Go.ChangeShapes Go.WideShapes Go.ChangeAt Go.RowKit
set_option maxRecDepth 100000
set_option linter.unusedVariables false
set_option linter.unusedSimpArgs false

set_option maxHeartbeats 4000000 in
theorem list_any (M : Int × Int → Option Ef) (g : Nat → Int × Int) (d : Ef) (mb ob : Nat) (p : Option Addr) (n cap : Nat) (w : World) (hm : MapB encMk w mb (valM M)) (ho : RdE mkC 2 w ob p n g) (hn : n ≤ 1048578) (hf : ∀ i, i < n → ∀ x, M (g i) = some x → x.okW w ∧ x.ac.ln ≤ 1048577) :
    Calls Tryz.prog 31 #[.agg #[.map (some mb), .slice p n cap]] w fun e w' => ∃ v g', e = .returned v ∧ Below w.heap.size w w' ∧ BuildT w' w.heap.size v (selE M g n).length g' (selF d (selE M g n)) := by
  obtain ⟨ie, hie, hz0, hz1, hz2⟩ := info_parts Tryz.infoEf
  have R0 := boxR_new w 61 #[.map (some mb), .slice p n cap]
  have hb0 := below_new2'' w (.cells #[.map (some mb), .slice p n cap] 61)
  have M0 := hm.grew hb0
  have O0 := ho.grew mkC_ne hb0
  have hWs : (w.alloc (.cells #[.map (some mb), .slice p n cap] 61)).heap.size = w.heap.size + 1 := by simp
  go_enter Tryz.func31, Tryz.ntmps31
  go_upto_region 1 with fail
  generalize hW : w.alloc (.cells #[.map (some mb), .slice p n cap] 61) = W at R0 hb0 M0 O0 hWs ⊢
  clear hW hm ho
  replace hWs : Hid (W.heap.size = w.heap.size + 1) := hWs
  have hown0 : (W.alloc (.cells #[] 44)).ownsRow W.heap.size 44 22 (.slice (some ⟨W.heap.size, 0, none⟩) 0 0) 0 [] := World.ownsRow_lit W #[] 0 (Nat.le_refl _) (by decide) rfl
  have hb1 := below_new2'' W (.cells #[] 44)
  have R1 := R0.alloc (.cells #[] 44)
  have B0 : BuildT (W.alloc (.cells #[] 44)) W.heap.size (.slice (some ⟨W.heap.size, 0, none⟩) 0 0) (selE M g 0).length (fun _ => d) (selF d (selE M g 0)) := ⟨hown0, by simp, fun i hi => absurd hi (Nat.not_lt_zero i), fun i j _ hj => absurd hj (Nat.not_lt_zero j)⟩
  clear hown0
  have k1 : (W.alloc (.cells #[] 44)).cell? ⟨w.heap.size, 1, none⟩ = some (.slice p n cap) := by have := R1.cell 1; simpa using this
  go_upto_region 3 with fail
  generalize W.alloc (.cells #[] 44) = W0 at hb1 B0 R1 k1 ⊢
  clear R1 k1
  go_loopw [3, 12] (fun v i wr => ∃ (k : Nat) (g' : Nat → Ef), k ≤ n ∧ i = .int .i64 k ∧ Below W.heap.size W wr ∧ BuildT wr W.heap.size v (selE M g k).length g' (selF d (selE M g k))) (fun _ i _ => n - (intOf i).toNat)
  case atStart => exact ⟨0, fun _ => d, Nat.zero_le _, rfl, hb1, B0⟩
  case round =>
    clear hb1 B0
    obtain ⟨k, g', hk, rfl, hb, hB⟩ := hrel
    by_cases hlt : k < n
    · rcases O0.grew mkC_ne hb with h3 | ⟨o1, rfl, h3⟩
      · omega
      have ra : wr.rangeAt ob (o1 + k * 2) (mkC (g k)) := fun j v hv => h3 k hlt j v hv
      have mm := M0.grew hb
      have rr := R0.grew hb
      have y1 : (0 : Int) ≤ (k : Int) := by omega
      have y2 : (k : Int) < (n : Int) := by omega
      have hln := selE_len M g k
      have HS := fun x h => selE_some (M := M) (g := g) (k := k) (x := x) h
      have HN := fun h => selE_none (M := M) (g := g) (k := k) h
      have hx := hf k hlt
      have HX := fun x => selF_snoc d (selE M g k) x
      obtain ⟨m, hme⟩ : ∃ m, g k = m := ⟨_, rfl⟩
      rw [hme] at ra hx HS HN
      clear h3 hf hme
      have z0 := boxR_new wr 66 #[.int .i64 0, .int .i64 0]
      have zb := below_setRow (below_new2'' wr (.cells #[.int .i64 0, .int .i64 0] 66)) (Nat.le_refl _) (#[.int .i64 m.1, .int .i64 m.2] : Array Value)
      have z1 : BoxR ((wr.alloc (.cells #[.int .i64 0, .int .i64 0] 66)).setRow wr.heap.size #[.int .i64 m.1, .int .i64 m.2]) wr.heap.size 66 #[.int .i64 m.1, .int .i64 m.2] := setRow_heap _ _ _ _ _ _ z0
      go_upto_region 5 with first | (refine wpList_load_mid rfl 66 _ rfl ob (o1 + k * 2) (by rfl) [.int .i64 m.1, .int .i64 m.2] _ ra Tryz.underlying66 rfl (by kernel_rfl) ?_) | (refine wpList_store_row rfl 66 (.tmp 5) _ rfl wr.heap.size _ (by rfl) (by rfl) _ _ z0 (by kernel_rfl) (by rfl) (by simp [Value.oneCell']) ?_)
      generalize hU : (wr.alloc (.cells #[.int .i64 0, .int .i64 0] 66)).setRow wr.heap.size #[.int .i64 m.1, .int .i64 m.2] = U at zb z1 ⊢
      replace mm := mm.grew zb
      replace rr := rr.grew zb
      replace hB := hB.grew zb
      replace hb := below_app hb zb hb.size
      generalize wr.heap.size = gb at z1 ⊢
      clear z0 zb hU ra
      have c0 : U.cell? ⟨w.heap.size, 0, none⟩ = some (.map (some mb)) := by have := rr.cell 0; simpa using this
      cases hM : M m
      case none =>
        have hV1 : (valM M m).getD (.agg #[.int .i64 0, .int .i64 0, .int .i64 0, .int .i64 0, .int .i64 0, .int .i64 0, .int .i64 0, .int .i64 0, .int .i64 0, .int .i64 0, .int .i64 0, .int .i64 0, .int .i64 0, .int .i64 0, .int .i64 0, .int .i64 0, .int .i64 0, .int .i64 0, .bool false, .slice none 0 0, .int .i64 0, .int .i64 0]) = (.agg #[.int .i64 0, .int .i64 0, .int .i64 0, .int .i64 0, .int .i64 0, .int .i64 0, .int .i64 0, .int .i64 0, .int .i64 0, .int .i64 0, .int .i64 0, .int .i64 0, .int .i64 0, .int .i64 0, .int .i64 0, .int .i64 0, .int .i64 0, .int .i64 0, .bool false, .slice none 0 0, .int .i64 0, .int .i64 0]) := by unfold valM; rw [hM]; rfl
        have hV2 : (valM M m).isSome = false := by unfold valM; rw [hM]; rfl
        have y0 := boxR_new U 44 #[.int .i64 0, .int .i64 0, .int .i64 0, .int .i64 0, .int .i64 0, .int .i64 0, .int .i64 0, .int .i64 0, .int .i64 0, .int .i64 0, .int .i64 0, .int .i64 0, .int .i64 0, .int .i64 0, .int .i64 0, .int .i64 0, .int .i64 0, .int .i64 0, .bool false, .slice none 0 0, .int .i64 0, .int .i64 0]
        have yb := below_setRow (below_new2'' U (.cells #[.int .i64 0, .int .i64 0, .int .i64 0, .int .i64 0, .int .i64 0, .int .i64 0, .int .i64 0, .int .i64 0, .int .i64 0, .int .i64 0, .int .i64 0, .int .i64 0, .int .i64 0, .int .i64 0, .int .i64 0, .int .i64 0, .int .i64 0, .int .i64 0, .bool false, .slice none 0 0, .int .i64 0, .int .i64 0] 44)) (Nat.le_refl _) (#[.int .i64 0, .int .i64 0, .int .i64 0, .int .i64 0, .int .i64 0, .int .i64 0, .int .i64 0, .int .i64 0, .int .i64 0, .int .i64 0, .int .i64 0, .int .i64 0, .int .i64 0, .int .i64 0, .int .i64 0, .int .i64 0, .int .i64 0, .int .i64 0, .bool false, .slice none 0 0, .int .i64 0, .int .i64 0] : Array Value)
        have y9 : BoxR ((U.alloc (.cells #[.int .i64 0, .int .i64 0, .int .i64 0, .int .i64 0, .int .i64 0, .int .i64 0, .int .i64 0, .int .i64 0, .int .i64 0, .int .i64 0, .int .i64 0, .int .i64 0, .int .i64 0, .int .i64 0, .int .i64 0, .int .i64 0, .int .i64 0, .int .i64 0, .bool false, .slice none 0 0, .int .i64 0, .int .i64 0] 44)).setRow U.heap.size #[.int .i64 0, .int .i64 0, .int .i64 0, .int .i64 0, .int .i64 0, .int .i64 0, .int .i64 0, .int .i64 0, .int .i64 0, .int .i64 0, .int .i64 0, .int .i64 0, .int .i64 0, .int .i64 0, .int .i64 0, .int .i64 0, .int .i64 0, .int .i64 0, .bool false, .slice none 0 0, .int .i64 0, .int .i64 0]) U.heap.size 44 #[.int .i64 0, .int .i64 0, .int .i64 0, .int .i64 0, .int .i64 0, .int .i64 0, .int .i64 0, .int .i64 0, .int .i64 0, .int .i64 0, .int .i64 0, .int .i64 0, .int .i64 0, .int .i64 0, .int .i64 0, .int .i64 0, .int .i64 0, .int .i64 0, .bool false, .slice none 0 0, .int .i64 0, .int .i64 0] := setRow_heap _ _ _ _ _ _ y0
        go_upto_region 6 with first | (refine wpList_load_row rfl 66 _ rfl gb (by rfl) _ _ _ _ z1 Tryz.underlying66 rfl (by kernel_rfl) ?_) | (refine wpList_lookM _ rfl (.tmp 18) (.tmp 19) 58 rfl keyM Tryz.underlying58 (zeroEf _) rfl mm m rfl ?_; rw [hV1, hV2]) | (refine wpList_store_row rfl 44 (.tmp 6) _ rfl U.heap.size _ (by rfl) (by rfl) _ _ y0 (by kernel_rfl) (by rfl) (by simp [Value.oneCell']) ?_)
        generalize hV : (U.alloc (.cells #[.int .i64 0, .int .i64 0, .int .i64 0, .int .i64 0, .int .i64 0, .int .i64 0, .int .i64 0, .int .i64 0, .int .i64 0, .int .i64 0, .int .i64 0, .int .i64 0, .int .i64 0, .int .i64 0, .int .i64 0, .int .i64 0, .int .i64 0, .int .i64 0, .bool false, .slice none 0 0, .int .i64 0, .int .i64 0] 44)).setRow U.heap.size #[.int .i64 0, .int .i64 0, .int .i64 0, .int .i64 0, .int .i64 0, .int .i64 0, .int .i64 0, .int .i64 0, .int .i64 0, .int .i64 0, .int .i64 0, .int .i64 0, .int .i64 0, .int .i64 0, .int .i64 0, .int .i64 0, .int .i64 0, .int .i64 0, .bool false, .slice none 0 0, .int .i64 0, .int .i64 0] = V at yb y9 ⊢
        replace hB := hB.grew yb
        replace hb := below_app hb yb hb.size
        generalize U.heap.size = xb at y9 ⊢
        clear y0 yb hV c0 mm rr z1 hV1 hV2
        have HE := HN hM
        rw [← HE] at hB
        clear HS HN hM hx HX y9 M0 O0 R0 hb0 hWs
        go_wp2
        go_roundw
        case rel => first | exact ⟨k + 1, g', by omega, by go_num, hb, hB⟩ | ((repeat apply Exists.intro); exact ⟨⟨k + 1, g', by omega, by go_num, hb, hB⟩, rfl⟩)
        case measure => simp [intOf]; omega
      case some x =>
        have hV1 : (valM M m).getD (.agg #[.int .i64 0, .int .i64 0, .int .i64 0, .int .i64 0, .int .i64 0, .int .i64 0, .int .i64 0, .int .i64 0, .int .i64 0, .int .i64 0, .int .i64 0, .int .i64 0, .int .i64 0, .int .i64 0, .int .i64 0, .int .i64 0, .int .i64 0, .int .i64 0, .bool false, .slice none 0 0, .int .i64 0, .int .i64 0]) = (.agg #[.int .i64 x.id, .int .i64 x.si, .int .i64 x.sr, .int .i64 x.cl, .int .i64 x.pt.kd, .int .i64 x.pt.wh, .int .i64 x.pt.sr, .int .i64 x.pt.tr, .int .i64 x.pt.pi, .int .i64 x.pt.le, .int .i64 x.pt.zo, .int .i64 x.gd.kd, .int .i64 x.gd.nn, .int .i64 x.ac.kd, .int .i64 x.ac.nn, .int .i64 x.ac.pi, .int .i64 x.ac.si, .int .i64 x.ac.zo, .bool x.ac.be, .slice x.ac.la x.ac.ln x.ac.lcap, .int .i64 x.un, .int .i64 x.le]) := by unfold valM; rw [hM]; rfl
        have hV2 : (valM M m).isSome = true := by unfold valM; rw [hM]; rfl
        have y0 := boxR_new U 44 #[.int .i64 0, .int .i64 0, .int .i64 0, .int .i64 0, .int .i64 0, .int .i64 0, .int .i64 0, .int .i64 0, .int .i64 0, .int .i64 0, .int .i64 0, .int .i64 0, .int .i64 0, .int .i64 0, .int .i64 0, .int .i64 0, .int .i64 0, .int .i64 0, .bool false, .slice none 0 0, .int .i64 0, .int .i64 0]
        have yb := below_setRow (below_new2'' U (.cells #[.int .i64 0, .int .i64 0, .int .i64 0, .int .i64 0, .int .i64 0, .int .i64 0, .int .i64 0, .int .i64 0, .int .i64 0, .int .i64 0, .int .i64 0, .int .i64 0, .int .i64 0, .int .i64 0, .int .i64 0, .int .i64 0, .int .i64 0, .int .i64 0, .bool false, .slice none 0 0, .int .i64 0, .int .i64 0] 44)) (Nat.le_refl _) (#[.int .i64 x.id, .int .i64 x.si, .int .i64 x.sr, .int .i64 x.cl, .int .i64 x.pt.kd, .int .i64 x.pt.wh, .int .i64 x.pt.sr, .int .i64 x.pt.tr, .int .i64 x.pt.pi, .int .i64 x.pt.le, .int .i64 x.pt.zo, .int .i64 x.gd.kd, .int .i64 x.gd.nn, .int .i64 x.ac.kd, .int .i64 x.ac.nn, .int .i64 x.ac.pi, .int .i64 x.ac.si, .int .i64 x.ac.zo, .bool x.ac.be, .slice x.ac.la x.ac.ln x.ac.lcap, .int .i64 x.un, .int .i64 x.le] : Array Value)
        have y9 : BoxR ((U.alloc (.cells #[.int .i64 0, .int .i64 0, .int .i64 0, .int .i64 0, .int .i64 0, .int .i64 0, .int .i64 0, .int .i64 0, .int .i64 0, .int .i64 0, .int .i64 0, .int .i64 0, .int .i64 0, .int .i64 0, .int .i64 0, .int .i64 0, .int .i64 0, .int .i64 0, .bool false, .slice none 0 0, .int .i64 0, .int .i64 0] 44)).setRow U.heap.size #[.int .i64 x.id, .int .i64 x.si, .int .i64 x.sr, .int .i64 x.cl, .int .i64 x.pt.kd, .int .i64 x.pt.wh, .int .i64 x.pt.sr, .int .i64 x.pt.tr, .int .i64 x.pt.pi, .int .i64 x.pt.le, .int .i64 x.pt.zo, .int .i64 x.gd.kd, .int .i64 x.gd.nn, .int .i64 x.ac.kd, .int .i64 x.ac.nn, .int .i64 x.ac.pi, .int .i64 x.ac.si, .int .i64 x.ac.zo, .bool x.ac.be, .slice x.ac.la x.ac.ln x.ac.lcap, .int .i64 x.un, .int .i64 x.le]) U.heap.size 44 #[.int .i64 x.id, .int .i64 x.si, .int .i64 x.sr, .int .i64 x.cl, .int .i64 x.pt.kd, .int .i64 x.pt.wh, .int .i64 x.pt.sr, .int .i64 x.pt.tr, .int .i64 x.pt.pi, .int .i64 x.pt.le, .int .i64 x.pt.zo, .int .i64 x.gd.kd, .int .i64 x.gd.nn, .int .i64 x.ac.kd, .int .i64 x.ac.nn, .int .i64 x.ac.pi, .int .i64 x.ac.si, .int .i64 x.ac.zo, .bool x.ac.be, .slice x.ac.la x.ac.ln x.ac.lcap, .int .i64 x.un, .int .i64 x.le] := setRow_heap _ _ _ _ _ _ y0
        go_upto_region 6 with first | (refine wpList_load_row rfl 66 _ rfl gb (by rfl) _ _ _ _ z1 Tryz.underlying66 rfl (by kernel_rfl) ?_) | (refine wpList_lookM _ rfl (.tmp 18) (.tmp 19) 58 rfl keyM Tryz.underlying58 (zeroEf _) rfl mm m rfl ?_; rw [hV1, hV2]) | (refine wpList_store_row rfl 44 (.tmp 6) _ rfl U.heap.size _ (by rfl) (by rfl) _ _ y0 (by kernel_rfl) (by rfl) (by simp [Value.oneCell']) ?_)
        generalize hV : (U.alloc (.cells #[.int .i64 0, .int .i64 0, .int .i64 0, .int .i64 0, .int .i64 0, .int .i64 0, .int .i64 0, .int .i64 0, .int .i64 0, .int .i64 0, .int .i64 0, .int .i64 0, .int .i64 0, .int .i64 0, .int .i64 0, .int .i64 0, .int .i64 0, .int .i64 0, .bool false, .slice none 0 0, .int .i64 0, .int .i64 0] 44)).setRow U.heap.size #[.int .i64 x.id, .int .i64 x.si, .int .i64 x.sr, .int .i64 x.cl, .int .i64 x.pt.kd, .int .i64 x.pt.wh, .int .i64 x.pt.sr, .int .i64 x.pt.tr, .int .i64 x.pt.pi, .int .i64 x.pt.le, .int .i64 x.pt.zo, .int .i64 x.gd.kd, .int .i64 x.gd.nn, .int .i64 x.ac.kd, .int .i64 x.ac.nn, .int .i64 x.ac.pi, .int .i64 x.ac.si, .int .i64 x.ac.zo, .bool x.ac.be, .slice x.ac.la x.ac.ln x.ac.lcap, .int .i64 x.un, .int .i64 x.le] = V at yb y9 ⊢
        replace hB := hB.grew yb
        replace hb := below_app hb yb hb.size
        generalize U.heap.size = xb at y9 ⊢
        clear y0 yb hV c0 mm rr z1 hV1 hV2
        have HE := HS x hM
        have hxx := hx x hM
        have hxw := efw_grew (efw_grew hxx.1 hb0) hb
        have hxl := hxx.2
        replace HX := HX x
        generalize selE M g k = L at hB HX HE hln
        generalize hm : L.length = q at hB hln HX
        clear HS HN hM hx hxx M0 O0 R0 hb0 hWs
        go_wp2_with (refine wpList_load_row rfl 44 _ rfl xb (by rfl) _ _ _ _ y9 Tryz.underlying44 rfl (by kernel_rfl) ?_)
        refine (fresh_any x _ hxw hxl).mono ?_
        rintro e w3 ⟨y, rfl, hb2, oy, ky⟩
        have hown2 := owns_kept9 hB.1 hb2
        have hb3 := below_app hb hb2 hb.size
        have hvl := hown2.lt
        clear y9
        go_wp2_with (at_builtin; refine wpList_append_own_at _ rfl (.tmp 24) (.tmp 27) 34 rfl W.heap.size 44 ie (.agg #[.int .i64 0, .int .i64 0, .int .i64 0, .int .i64 0, .int .i64 0, .int .i64 0, .int .i64 0, .int .i64 0, .int .i64 0, .int .i64 0, .int .i64 0, .int .i64 0, .int .i64 0, .int .i64 0, .int .i64 0, .int .i64 0, .int .i64 0, .int .i64 0, .bool false, .slice none 0 0, .int .i64 0, .int .i64 0]) 22 192 Tryz.underlying34 hie hz0 hz1 hz2 rfl (by decide) _ _ _ rfl (hown2.alloc _) ⟨w3.heap.size, 0, none⟩ 1 1 (efC y) rfl rfl (cells_new _ _ _) (fun u hu => efC_one 1 (fun _ => y) u (by simpa [valsE] using hu)) (by unfold maxLen; omega) (by omega) (by have := hb3.size; simp; omega) ?_)
        intro v4 w4 hown4 hgr4 hnil4 hat4
        have HB := hB.snoc (hb2.alloc (by have := hb2.size; omega) (.cells #[.int .i64 y.id, .int .i64 y.si, .int .i64 y.sr, .int .i64 y.cl, .int .i64 y.pt.kd, .int .i64 y.pt.wh, .int .i64 y.pt.sr, .int .i64 y.pt.tr, .int .i64 y.pt.pi, .int .i64 y.pt.le, .int .i64 y.pt.zo, .int .i64 y.gd.kd, .int .i64 y.gd.nn, .int .i64 y.ac.kd, .int .i64 y.ac.nn, .int .i64 y.ac.pi, .int .i64 y.ac.si, .int .i64 y.ac.zo, .bool y.ac.be, .slice y.ac.la y.ac.ln y.ac.lcap, .int .i64 y.un, .int .i64 y.le] 44)) hb.size (OwnF.grew oy (below_new2'' w3 _)) ky hown4 hgr4 (fun e => by first | exact hnil4 e | exact hB.2.1 (hnil4.1 e).1) (by rw [World.size_alloc]; exact hat4)
        have hb4 : Below W.heap.size W w4 := (hb3.alloc hb3.size _).grown hgr4 (by have := hb3.size; simp; omega) (fun q hq => (hvl q hq).1)
        have hlen : (selE M g (k + 1)).length = q + 1 := by rw [HE]; simp [hm]
        replace HB := HB.congr (g' := _) (f' := selF d (selE M g (k + 1))) (fun i hi => rfl) (fun i hi => by rw [HE]; exact HX i hi)
        rw [← hlen] at HB
        clear hown4 hgr4 hnil4 hat4 hown2 hvl hb3 hb2 oy ky hB hb HX HE hlen hm hxw
        go_wp2
        go_roundw
        case rel => first | exact ⟨k + 1, _, by omega, by go_num, hb4, HB⟩ | ((repeat apply Exists.intro); exact ⟨⟨k + 1, _, by omega, by go_num, hb4, HB⟩, rfl⟩)
        case measure => simp [intOf]; omega
    · obtain rfl : k = n := by omega
      clear M0 O0 R0 hf
      go_wp2
      go_ret
      exact ⟨_, g', rfl, below_app hb0 hb hb0.size, hB.down (by have := hWs.out; omega)⟩
end Go.Proofs.YtodfdfncdoliiauGreat
namespace Go.Proofs.YtodfdfncdoliiauGreat
open Go.ChangeShapes Go.WideShapes Go.ChangeAt Go.RowKit
set_option maxRecDepth 100000
set_option linter.unusedVariables false
set_option linter.unusedSimpArgs false

theorem sel_ok {f : Nat → Ef} {n : Nat} {w w' : World} (hf : ∀ i, i < n → (f i).okW w ∧ (f i).ac.ln ≤ 1048577) (hb : Below w.heap.size w w') : ∀ i, i < n → (f i).okW w' ∧ (f i).ac.ln ≤ 1048577 := fun i hi => ⟨efw_grew (hf i hi).1 hb, (hf i hi).2⟩
theorem OwnE.wrote {α : Type} {C : α → List Value} {m : Nat} {w w' : World} {B b c : Nat} {a : Option Addr} {n : Nat} {f : Nat → α} (h : OwnE C m w B b a n f) (W : Wrote w w' c) (hne : b ≠ c) : OwnE C m w' B b a n f := h.same (W.other hne) (Nat.le_of_eq W.size.symm)
theorem OwnE.rebaseT {α : Type} {C : α → List Value} {m : Nat} {w : World} {B B' b : Nat} {a : Option Addr} {n : Nat} {f : Nat → α} (h : OwnE C m w B b a n f) (hB : B' ≤ B) : OwnE C m w B' b a n f := ⟨Nat.le_trans hB h.1, h.2⟩
end Go.Proofs.YtodfdfncdoliiauGreat
namespace Go.Proofs.YtodfdfncdoliiauGreat
open Go.ChangeShapes Go.WideShapes Go.ChangeAt Go.RowKit
set_option maxRecDepth 100000

theorem between_any (x a b : Int) (w : World) : Calls Tryz.prog 61 #[.int .i64 x, .int .i64 a, .int .i64 b] w fun e w' => e = .returned (.bool (ib x a b)) ∧ w' = w := by
  go_enter Tryz.func61, Tryz.ntmps61
  go_wp2
  all_goals go_ret
  all_goals refine ⟨ret_bool' ?_, rfl⟩
  all_goals (unfold ib; simp_all <;> omega)
end Go.Proofs.YtodfdfncdoliiauGreat
namespace Go.Proofs.YtodfdfncdoliiauGreat
open Go.ChangeShapes Go.WideShapes Go.ChangeAt Go.RowKit
set_option maxRecDepth 100000
set_option linter.unusedVariables false
set_option linter.unusedSimpArgs false

theorem run_as_yes {P : Program} {t xT : TypeId} {fs : Array Field} (hu : P.underlying t = some (.struct fs)) (v : Value) (w : World) : (Instr.typeAssert (.iface t v) xT t true).run P w = .ok (.tuple #[v, .bool true]) w := by
  simp [Instr.typeAssert, run_underlying hu]
theorem run_as_no {P : Program} {t u xT : TypeId} {fs : Array Field} {z : Value} (hu : P.underlying u = some (.struct fs)) (hz : (P.info? u).map (·.zero) = some (some z)) (hne : t ≠ u) (v : Value) (w : World) : (Instr.typeAssert (.iface t v) xT u true).run P w = .ok (.tuple #[z, .bool false]) w := by
  obtain ⟨j, hj, hz'⟩ := Option.map_eq_some_iff.1 hz
  simp [Instr.typeAssert, run_underlying hu, hne, zeroValue, typeInfo, hj, hz']
theorem isIdE_any (x : Int) (w : World) : Calls Tryz.prog 43 #[.int .i64 x] w fun r w' => r = .returned (.bool (ib x 1 99)) ∧ w' = w := by
  go_enter Tryz.func43, Tryz.ntmps43
  go_wp2_with (go_at_call 61; refine (between_any x 1 99 _).mono ?_; rintro r w' ⟨rfl, rfl⟩)
  go_ret
  exact ⟨rfl, rfl⟩
theorem isSide_any (x : Int) (w : World) : Calls Tryz.prog 62 #[.int .i64 x] w fun r w' => r = .returned (.bool (ib x 0 2)) ∧ w' = w := by
  go_enter Tryz.func62, Tryz.ntmps62
  go_wp2_with (go_at_call 61; refine (between_any x 0 2 _).mono ?_; rintro r w' ⟨rfl, rfl⟩)
  go_ret
  exact ⟨rfl, rfl⟩
theorem isAmount_any (x : Int) (w : World) : Calls Tryz.prog 75 #[.int .i64 x] w fun r w' => r = .returned (.bool (ib x 0 2147483647)) ∧ w' = w := by
  go_enter Tryz.func75, Tryz.ntmps75
  go_wp2_with (go_at_call 61; refine (between_any x 0 2147483647 _).mono ?_; rintro r w' ⟨rfl, rfl⟩)
  go_ret
  exact ⟨rfl, rfl⟩
/-- whether a piece may go where it goes -/
def enE (z n : Int) (b : Bool) : Bool := if z = 2 then ib n 0 99 else ib z 1 4 && decide (n = 0) && !b
set_option maxHeartbeats 2000000 in
theorem entryOk_any (p z n : Int) (b : Bool) (w : World) : Calls Tryz.prog 97 #[.agg #[.int .i64 p, .int .i64 z, .int .i64 n, .bool b]] w fun r w' => r = .returned (.bool (enE z n b)) ∧ Below w.heap.size w w' := by
  go_enter Tryz.func97, Tryz.ntmps97
  go_wp2_with (go_at_call 61; refine (between_any _ _ _ _).mono ?_; rintro r w' ⟨rfl, rfl⟩)
  all_goals go_ret
  all_goals refine ⟨ret_bool' ?_, (Below.refl _ w).alloc (Nat.le_refl _) _⟩
  all_goals (unfold enE; simp_all)
end Go.Proofs.YtodfdfncdoliiauGreat
namespace Go.Proofs.YtodfdfncdoliiauGreat
open Go.ChangeShapes Go.WideShapes Go.ChangeAt Go.RowKit
set_option maxRecDepth 100000
set_option linter.unusedVariables false
set_option linter.unusedSimpArgs false

set_option maxHeartbeats 2000000 in
theorem standingOf_any (a : Ef) (w : World) : Calls Tryz.prog 42 #[(.agg #[.int .i64 a.id, .int .i64 a.si, .int .i64 a.sr, .int .i64 a.cl, .int .i64 a.pt.kd, .int .i64 a.pt.wh, .int .i64 a.pt.sr, .int .i64 a.pt.tr, .int .i64 a.pt.pi, .int .i64 a.pt.le, .int .i64 a.pt.zo, .int .i64 a.gd.kd, .int .i64 a.gd.nn, .int .i64 a.ac.kd, .int .i64 a.ac.nn, .int .i64 a.ac.pi, .int .i64 a.ac.si, .int .i64 a.ac.zo, .bool a.ac.be, .slice a.ac.la a.ac.ln a.ac.lcap, .int .i64 a.un, .int .i64 a.le])] w fun e w' => e = .returned (.agg #[.int .i64 a.cl, .int .i64 a.sr, .int .i64 a.si, .int .i64 a.pt.kd, .int .i64 a.pt.wh, .int .i64 a.pt.sr, .int .i64 a.pt.tr, .int .i64 a.pt.pi, .int .i64 a.pt.le, .int .i64 a.pt.zo, .int .i64 a.gd.kd, .int .i64 a.gd.nn, .int .i64 a.un, .int .i64 a.le]) ∧ Below w.heap.size w w' := by
  have HB := ((Below.refl _ w).alloc (Nat.le_refl _) (.cells #[.int .i64 a.id, .int .i64 a.si, .int .i64 a.sr, .int .i64 a.cl, .int .i64 a.pt.kd, .int .i64 a.pt.wh, .int .i64 a.pt.sr, .int .i64 a.pt.tr, .int .i64 a.pt.pi, .int .i64 a.pt.le, .int .i64 a.pt.zo, .int .i64 a.gd.kd, .int .i64 a.gd.nn, .int .i64 a.ac.kd, .int .i64 a.ac.nn, .int .i64 a.ac.pi, .int .i64 a.ac.si, .int .i64 a.ac.zo, .bool a.ac.be, .slice a.ac.la a.ac.ln a.ac.lcap, .int .i64 a.un, .int .i64 a.le] 44)).alloc (by simp) (.cells #[.int .i64 0, .int .i64 0, .int .i64 0, .int .i64 0, .int .i64 0, .int .i64 0, .int .i64 0, .int .i64 0, .int .i64 0, .int .i64 0, .int .i64 0, .int .i64 0, .int .i64 0, .int .i64 0] 89)
  have x1 := (boxR_new w 44 #[.int .i64 a.id, .int .i64 a.si, .int .i64 a.sr, .int .i64 a.cl, .int .i64 a.pt.kd, .int .i64 a.pt.wh, .int .i64 a.pt.sr, .int .i64 a.pt.tr, .int .i64 a.pt.pi, .int .i64 a.pt.le, .int .i64 a.pt.zo, .int .i64 a.gd.kd, .int .i64 a.gd.nn, .int .i64 a.ac.kd, .int .i64 a.ac.nn, .int .i64 a.ac.pi, .int .i64 a.ac.si, .int .i64 a.ac.zo, .bool a.ac.be, .slice a.ac.la a.ac.ln a.ac.lcap, .int .i64 a.un, .int .i64 a.le]).alloc (.cells #[.int .i64 0, .int .i64 0, .int .i64 0, .int .i64 0, .int .i64 0, .int .i64 0, .int .i64 0, .int .i64 0, .int .i64 0, .int .i64 0, .int .i64 0, .int .i64 0, .int .i64 0, .int .i64 0] 89)
  have x2 : BoxR ((w.alloc (.cells #[.int .i64 a.id, .int .i64 a.si, .int .i64 a.sr, .int .i64 a.cl, .int .i64 a.pt.kd, .int .i64 a.pt.wh, .int .i64 a.pt.sr, .int .i64 a.pt.tr, .int .i64 a.pt.pi, .int .i64 a.pt.le, .int .i64 a.pt.zo, .int .i64 a.gd.kd, .int .i64 a.gd.nn, .int .i64 a.ac.kd, .int .i64 a.ac.nn, .int .i64 a.ac.pi, .int .i64 a.ac.si, .int .i64 a.ac.zo, .bool a.ac.be, .slice a.ac.la a.ac.ln a.ac.lcap, .int .i64 a.un, .int .i64 a.le] 44)).alloc (.cells #[.int .i64 0, .int .i64 0, .int .i64 0, .int .i64 0, .int .i64 0, .int .i64 0, .int .i64 0, .int .i64 0, .int .i64 0, .int .i64 0, .int .i64 0, .int .i64 0, .int .i64 0, .int .i64 0] 89)) (w.heap.size + 1) 89 #[.int .i64 0, .int .i64 0, .int .i64 0, .int .i64 0, .int .i64 0, .int .i64 0, .int .i64 0, .int .i64 0, .int .i64 0, .int .i64 0, .int .i64 0, .int .i64 0, .int .i64 0, .int .i64 0] := heap_alloc2_new _ _ _
  generalize hW : (w.alloc (.cells #[.int .i64 a.id, .int .i64 a.si, .int .i64 a.sr, .int .i64 a.cl, .int .i64 a.pt.kd, .int .i64 a.pt.wh, .int .i64 a.pt.sr, .int .i64 a.pt.tr, .int .i64 a.pt.pi, .int .i64 a.pt.le, .int .i64 a.pt.zo, .int .i64 a.gd.kd, .int .i64 a.gd.nn, .int .i64 a.ac.kd, .int .i64 a.ac.nn, .int .i64 a.ac.pi, .int .i64 a.ac.si, .int .i64 a.ac.zo, .bool a.ac.be, .slice a.ac.la a.ac.ln a.ac.lcap, .int .i64 a.un, .int .i64 a.le] 44)).alloc (.cells #[.int .i64 0, .int .i64 0, .int .i64 0, .int .i64 0, .int .i64 0, .int .i64 0, .int .i64 0, .int .i64 0, .int .i64 0, .int .i64 0, .int .i64 0, .int .i64 0, .int .i64 0, .int .i64 0] 89) = W at HB x1 x2
  obtain ⟨c0, c1, c2, c3, c4, c5, c6, c7, c8, c9, c10, c11, c12, c13, c14, c15, c16, c17, c18, c19, c20, c21⟩ := x1.cells22
  go_enter Tryz.func42, Tryz.ntmps42
  go_wp2_with (refine wpList_store_row rfl 89 (.tmp 2) _ rfl (w.heap.size + 1) _ (by rfl) (by rfl) _ _ x2 (by kernel_rfl) (by rfl) (by simp [Value.oneCell']) ?_)
  (try simp only [Exit.inBlock, Exit.then]); refine bodyPost_ret (results_cell_row rfl _ _ (w.heap.size + 1) _ _ _ _ rfl (setRow_heap _ _ _ _ _ _ x2) Tryz.underlying89 rfl (by kernel_rfl)) rfl ?_
  exact ⟨rfl, below_setRow HB (by omega) _⟩
theorem BoxR.sub {w : World} {g t : Nat} {cs : Array Value} (h : BoxR w g t cs) (o : Nat) (l : List Value) (hl : (cs.toList.drop o).take l.length = l) : w.rangeAt g o l := fun j v hv => by
  rw [← hl] at hv
  have hj : j < l.length := by
    by_cases hj : j < l.length
    · exact hj
    · rw [List.getElem?_eq_none (by rw [List.length_take]; omega)] at hv
      cases hv
  rw [List.getElem?_take_of_lt hj, List.getElem?_drop] at hv
  have hc := cell_of_row w g (o + j) cs t (0, 0) h
  rw [hc]
  simpa using hv
theorem run_field_or (a : Ef) (w : World) : (Instr.field 89 (.agg #[.int .i64 a.cl, .int .i64 a.sr, .int .i64 a.si, .int .i64 a.pt.kd, .int .i64 a.pt.wh, .int .i64 a.pt.sr, .int .i64 a.pt.tr, .int .i64 a.pt.pi, .int .i64 a.pt.le, .int .i64 a.pt.zo, .int .i64 a.gd.kd, .int .i64 a.gd.nn, .int .i64 a.un, .int .i64 a.le]) 0).run Tryz.prog w = .ok (.agg #[.int .i64 a.cl, .int .i64 a.sr]) w := by kernel_rfl
theorem run_field_sp (a : Ef) (w : World) : (Instr.field 89 (.agg #[.int .i64 a.cl, .int .i64 a.sr, .int .i64 a.si, .int .i64 a.pt.kd, .int .i64 a.pt.wh, .int .i64 a.pt.sr, .int .i64 a.pt.tr, .int .i64 a.pt.pi, .int .i64 a.pt.le, .int .i64 a.pt.zo, .int .i64 a.gd.kd, .int .i64 a.gd.nn, .int .i64 a.un, .int .i64 a.le]) 2).run Tryz.prog w = .ok (.agg #[.int .i64 a.un, .int .i64 a.le]) w := by kernel_rfl
end Go.Proofs.YtodfdfncdoliiauGreat
