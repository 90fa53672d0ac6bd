/-
  Chapter 11, the program: EffectAt by slices.IndexFunc. Written by tools/tai.gen.py. Own work.
-/
import Derived.Test.YtodfdfncdoliiatTaE
import Derived.Deep.DeepCutAuto
import Derived.Deep.CutBlock
import Derived.Deep.RegionHeld
import Derived.Deep.RegionHeldLaw
import Derived.Deep.MidRow
import Derived.Laws.OwnMore
namespace Go.Proofs.Ytodfdfncdoliiat
open Go.ChangeShapes Go.WideShapes Go.ChangeAt Go.RowKit
set_option maxRecDepth 100000
set_option linter.unusedVariables false
set_option linter.unusedSimpArgs false

theorem World.cellI {w w' : World} {a : Addr} {v : Value} (h : w.cell? a = some v) (hb : Below w.heap.size w w') : w'.cell? a = some v := (World.cell?_of_block (w := w) (a := a) (hb.block a.block (World.block_lt_of_cell? w _ h))).trans h
set_option maxHeartbeats 2000000 in
theorem isIdT_any (a : Ef) (q : Nat) (id : Int) (w : World) (hq : w.cell? ⟨q, 0, none⟩ = some (.int .i64 id)) : Calls Try.prog 49 #[(.agg #[.int .i64 a.id, .int .i64 a.si, .int .i64 a.sr, .int .i64 a.cl, .int .i64 a.pt.kd, .int .i64 a.pt.wh, .int .i64 a.pt.sr, .int .i64 a.pt.tr, .int .i64 a.pt.pi, .int .i64 a.pt.le, .int .i64 a.pt.zo, .int .i64 a.gd.kd, .int .i64 a.gd.nn, .int .i64 a.ac.kd, .int .i64 a.ac.nn, .int .i64 a.ac.pi, .int .i64 a.ac.si, .int .i64 a.ac.zo, .bool a.ac.be, .slice a.ac.la a.ac.ln a.ac.lcap, .int .i64 a.un, .int .i64 a.le]), .pointer (some ⟨q, 0, none⟩)] w fun e w' => e = .returned (.bool (decide (a.id = id))) ∧ Below w.heap.size w w' := by
  have z := boxR_new w 41 #[.int .i64 a.id, .int .i64 a.si, .int .i64 a.sr, .int .i64 a.cl, .int .i64 a.pt.kd, .int .i64 a.pt.wh, .int .i64 a.pt.sr, .int .i64 a.pt.tr, .int .i64 a.pt.pi, .int .i64 a.pt.le, .int .i64 a.pt.zo, .int .i64 a.gd.kd, .int .i64 a.gd.nn, .int .i64 a.ac.kd, .int .i64 a.ac.nn, .int .i64 a.ac.pi, .int .i64 a.ac.si, .int .i64 a.ac.zo, .bool a.ac.be, .slice a.ac.la a.ac.ln a.ac.lcap, .int .i64 a.un, .int .i64 a.le]
  have hb := ((Below.refl _ w).alloc (Nat.le_refl _) (.cells #[.int .i64 a.id, .int .i64 a.si, .int .i64 a.sr, .int .i64 a.cl, .int .i64 a.pt.kd, .int .i64 a.pt.wh, .int .i64 a.pt.sr, .int .i64 a.pt.tr, .int .i64 a.pt.pi, .int .i64 a.pt.le, .int .i64 a.pt.zo, .int .i64 a.gd.kd, .int .i64 a.gd.nn, .int .i64 a.ac.kd, .int .i64 a.ac.nn, .int .i64 a.ac.pi, .int .i64 a.ac.si, .int .i64 a.ac.zo, .bool a.ac.be, .slice a.ac.la a.ac.ln a.ac.lcap, .int .i64 a.un, .int .i64 a.le] 41))
  have hq1 := World.cellI hq hb
  have c0 : (w.alloc (.cells #[.int .i64 a.id, .int .i64 a.si, .int .i64 a.sr, .int .i64 a.cl, .int .i64 a.pt.kd, .int .i64 a.pt.wh, .int .i64 a.pt.sr, .int .i64 a.pt.tr, .int .i64 a.pt.pi, .int .i64 a.pt.le, .int .i64 a.pt.zo, .int .i64 a.gd.kd, .int .i64 a.gd.nn, .int .i64 a.ac.kd, .int .i64 a.ac.nn, .int .i64 a.ac.pi, .int .i64 a.ac.si, .int .i64 a.ac.zo, .bool a.ac.be, .slice a.ac.la a.ac.ln a.ac.lcap, .int .i64 a.un, .int .i64 a.le] 41)).cell? ⟨w.heap.size, 0, none⟩ = some (.int .i64 a.id) := (z.cell 0).trans rfl
  go_enter Try.func49, Try.ntmps49
  go_upto_region 1 with fail
  generalize w.alloc (.cells #[.int .i64 a.id, .int .i64 a.si, .int .i64 a.sr, .int .i64 a.cl, .int .i64 a.pt.kd, .int .i64 a.pt.wh, .int .i64 a.pt.sr, .int .i64 a.pt.tr, .int .i64 a.pt.pi, .int .i64 a.pt.le, .int .i64 a.pt.zo, .int .i64 a.gd.kd, .int .i64 a.gd.nn, .int .i64 a.ac.kd, .int .i64 a.ac.nn, .int .i64 a.ac.pi, .int .i64 a.ac.si, .int .i64 a.ac.zo, .bool a.ac.be, .slice a.ac.la a.ac.ln a.ac.lcap, .int .i64 a.un, .int .i64 a.le] 41) = W at hb hq1 c0 ⊢
  clear z hq
  go_wp2
  go_ret
  exact ⟨ret_bool' (by first | rfl | simp), hb⟩
set_option maxHeartbeats 4000000 in
theorem indexFunc_any (t : Tb) (q : Nat) (id : Int) (w : World) (hok : t.okW w) (hq : w.cell? ⟨q, 0, none⟩ = some (.int .i64 id)) : Calls Try.prog 48 #[.slice t.p t.n t.cap, .func (.func 49) #[] #[.pointer (some ⟨q, 0, none⟩)]] w fun e w' => e = .returned (.int .i64 (eaN t.f id t.n)) ∧ Below w.heap.size w w' := by
  have hnm := hok.le
  obtain ⟨p, n, cap, b, f⟩ := t
  obtain ⟨hc1, hc2, h, hf⟩ := hok
  dsimp only at hc1 hc2 h hf hnm ⊢
  clear hf
  go_enter Try.func48, Try.ntmps48
  go_wp2
  go_loopw [5, 8] (fun _ i wr => ∃ k : Nat, k ≤ n ∧ i = .int .i64 k ∧ Below w.heap.size w wr ∧ Hid (∀ j, j < k → (f j).id ≠ id)) (fun _ i _ => n - (intOf i).toNat)
  case atStart => exact ⟨0, Nat.zero_le _, rfl, Below.refl _ _, fun j hj => by omega⟩
  case round =>
    obtain ⟨k, hk, rfl, hb0, hg⟩ := hrel
    by_cases hlt : k < n
    · rcases h.grew efC_ne hb0 with h3 | ⟨o1, rfl, h3⟩
      · omega
      have ra := RdE.rangeD h3 hlt
      have y1 : (0 : Int) ≤ (k : Int) := by omega
      have y2 : (k : Int) < (n : Int) := by omega
      have hq2 := World.cellI hq hb0
      clear h3
      have HH : Hid ((f k).id = id → eaN f id n = (k : Int)) := fun e => eaN_hit hlt hg.out e
      have HA : Hid ((f k).id ≠ id → ∀ j, j < k + 1 → (f j).id ≠ id) := fun he j hj => by
        by_cases e : j = k
        · subst e; exact he
        · exact hg.out j (by omega)
      obtain ⟨x, hxe⟩ : ∃ x, Hid (f k = x) := ⟨f k, (rfl : f k = f k)⟩
      rw [hxe.out] at ra
      by_cases he : x.id = id
      · have HC : Hid (∀ u : World, u.cell? ⟨q, 0, none⟩ = some (.int .i64 id) → Calls Try.prog 49 #[(.agg #[.int .i64 x.id, .int .i64 x.si, .int .i64 x.sr, .int .i64 x.cl, .int .i64 x.pt.kd, .int .i64 x.pt.wh, .int .i64 x.pt.sr, .int .i64 x.pt.tr, .int .i64 x.pt.pi, .int .i64 x.pt.le, .int .i64 x.pt.zo, .int .i64 x.gd.kd, .int .i64 x.gd.nn, .int .i64 x.ac.kd, .int .i64 x.ac.nn, .int .i64 x.ac.pi, .int .i64 x.ac.si, .int .i64 x.ac.zo, .bool x.ac.be, .slice x.ac.la x.ac.ln x.ac.lcap, .int .i64 x.un, .int .i64 x.le]), .pointer (some ⟨q, 0, none⟩)] u fun e w' => e = .returned (.bool true) ∧ Below u.heap.size u w') := fun u hu => by have := isIdT_any x q id u hu; rw [decide_eq_true he] at this; exact this
        have HN : Hid (eaN f id n = (k : Int)) := HH.out (by rw [hxe.out]; exact he)
        clear HH HA he h hg hxe
        go_wp2_with first | (refine wpList_load_mid rfl 41 _ rfl b (o1 + k * 22) (by rfl) [.int .i64 x.id, .int .i64 x.si, .int .i64 x.sr, .int .i64 x.cl, .int .i64 x.pt.kd, .int .i64 x.pt.wh, .int .i64 x.pt.sr, .int .i64 x.pt.tr, .int .i64 x.pt.pi, .int .i64 x.pt.le, .int .i64 x.pt.zo, .int .i64 x.gd.kd, .int .i64 x.gd.nn, .int .i64 x.ac.kd, .int .i64 x.ac.nn, .int .i64 x.ac.pi, .int .i64 x.ac.si, .int .i64 x.ac.zo, .bool x.ac.be, .slice x.ac.la x.ac.ln x.ac.lcap, .int .i64 x.un, .int .i64 x.le] _ ra Try.underlying41 rfl (by kernel_rfl) ?_) | (go_at_call 49; refine (HC.out _ hq2).mono ?_; rintro e w2 ⟨rfl, hb2⟩)
        have hB := below_app hb0 hb2 hb0.size
        go_ret
        rw [HN.out]; first | exact ⟨rfl, hB⟩ | exact ⟨trivial, hB⟩
      · have HC : Hid (∀ u : World, u.cell? ⟨q, 0, none⟩ = some (.int .i64 id) → Calls Try.prog 49 #[(.agg #[.int .i64 x.id, .int .i64 x.si, .int .i64 x.sr, .int .i64 x.cl, .int .i64 x.pt.kd, .int .i64 x.pt.wh, .int .i64 x.pt.sr, .int .i64 x.pt.tr, .int .i64 x.pt.pi, .int .i64 x.pt.le, .int .i64 x.pt.zo, .int .i64 x.gd.kd, .int .i64 x.gd.nn, .int .i64 x.ac.kd, .int .i64 x.ac.nn, .int .i64 x.ac.pi, .int .i64 x.ac.si, .int .i64 x.ac.zo, .bool x.ac.be, .slice x.ac.la x.ac.ln x.ac.lcap, .int .i64 x.un, .int .i64 x.le]), .pointer (some ⟨q, 0, none⟩)] u fun e w' => e = .returned (.bool false) ∧ Below u.heap.size u w') := fun u hu => by have := isIdT_any x q id u hu; rw [decide_eq_false he] at this; exact this
        have HB : Hid (∀ j, j < k + 1 → (f j).id ≠ id) := HA.out (by rw [hxe.out]; exact he)
        clear HH HA he h hg hxe
        go_wp2_with first | (refine wpList_load_mid rfl 41 _ rfl b (o1 + k * 22) (by rfl) [.int .i64 x.id, .int .i64 x.si, .int .i64 x.sr, .int .i64 x.cl, .int .i64 x.pt.kd, .int .i64 x.pt.wh, .int .i64 x.pt.sr, .int .i64 x.pt.tr, .int .i64 x.pt.pi, .int .i64 x.pt.le, .int .i64 x.pt.zo, .int .i64 x.gd.kd, .int .i64 x.gd.nn, .int .i64 x.ac.kd, .int .i64 x.ac.nn, .int .i64 x.ac.pi, .int .i64 x.ac.si, .int .i64 x.ac.zo, .bool x.ac.be, .slice x.ac.la x.ac.ln x.ac.lcap, .int .i64 x.un, .int .i64 x.le] _ ra Try.underlying41 rfl (by kernel_rfl) ?_) | (go_at_call 49; refine (HC.out _ hq2).mono ?_; rintro e w2 ⟨rfl, hb2⟩)
        have hB := below_app hb0 hb2 hb0.size
        clear hb0 hb2 hq2 ra HC
        go_roundw
        case rel => first | exact ⟨k + 1, by omega, by go_num, hB, HB⟩ | ((repeat apply Exists.intro); exact ⟨⟨k + 1, by omega, by go_num, hB, HB⟩, rfl⟩)
        case measure => simp [intOf]; omega
    · obtain rfl : k = n := by omega
      have HE : Hid (eaN f id k = -1) := eaN_miss hg.out
      clear hg h
      go_wp2
      go_ret
      rw [HE.out]; first | exact ⟨rfl, hb0⟩ | exact ⟨trivial, hb0⟩
theorem implEffectAt_any (t : Tb) (id : Int) (w : World) (hok : t.okW w) : Calls Try.prog 26 #[.slice t.p t.n t.cap, .int .i64 id] w fun e w' => e = .returned (.int .i64 (eaN t.f id t.n)) ∧ Below w.heap.size w w' := by
  have z := boxR_new w 3 #[.int .i64 id]
  have hb := ((Below.refl _ w).alloc (Nat.le_refl _) (.cells #[.int .i64 id] 3))
  have c0 : (w.alloc (.cells #[.int .i64 id] 3)).cell? ⟨w.heap.size, 0, none⟩ = some (.int .i64 id) := (z.cell 0).trans rfl
  go_enter Try.func26, Try.ntmps26
  go_wp2_with fail
  generalize w.alloc (.cells #[.int .i64 id] 3) = W at hb c0 ⊢
  clear z
  refine (indexFunc_any t w.heap.size id W (hok.grew hb) c0).mono ?_
  rintro e w2 ⟨rfl, hb2⟩
  clear c0
  go_wp2
  go_ret
  first | exact ⟨rfl, below_app hb hb2 hb.size⟩ | exact ⟨trivial, below_app hb hb2 hb.size⟩
end Go.Proofs.Ytodfdfncdoliiat
