/-
  Chapter 10, the program: Lives. Written by tools/efi.gen.py. Chapter 11, the program: maps.DeleteFunc by Expire's function; Expire. Written by tools/tai.gen.py. Own work.
-/
import Derived.Test.YtodfdfncdoliiadGreatGTbC5
import Derived.Deep.DeepCutAuto
import Derived.Deep.CutBlock
import Derived.Deep.RegionHeld
import Derived.Deep.RegionHeldLaw
import Derived.Deep.MidRow
import Derived.Laws.OwnMore
namespace Go.Proofs.YtodfdfncdoliiadGreat
open Go.ChangeShapes Go.WideShapes Go.ChangeAt Go.RowKit
set_option maxRecDepth 100000
set_option linter.unusedVariables false
set_option linter.unusedSimpArgs false

set_option maxHeartbeats 1000000 in
theorem lives_any (a : Ef) (c : Int) (w : World) : Calls Tryz.prog 54 #[.agg #[.int .i64 a.un, .int .i64 a.le], .int .i64 c] w fun e w' => e = .returned (.bool (lvE a c)) ∧ Below w.heap.size w w' := by
  have HB := (Below.refl _ w).alloc (Nat.le_refl _) (.cells #[.int .i64 a.un, .int .i64 a.le] 85)
  cases h1 : (a.le != 0)
  case false =>
    have HA : Hid (lvE a c = false) := by show _ = _; unfold lvE; simp at h1; simp [h1]
    go_enter Tryz.func54, Tryz.ntmps54
    go_wp2
    go_ret
    exact ⟨ret_bool' HA.out.symm, HB⟩
  case true =>
    cases h2 : (a.un == -1)
    case true =>
      have HA : Hid (lvE a c = true) := by show _ = _; unfold lvE; simp at h1 h2; simp [h1, h2]
      go_enter Tryz.func54, Tryz.ntmps54
      go_wp2
      go_ret
      exact ⟨ret_bool' HA.out.symm, HB⟩
    case false =>
      have HA : Hid (lvE a c = decide (a.un ≥ c)) := by show _ = _; unfold lvE; simp at h1 h2; simp [h1, h2]
      go_enter Tryz.func54, Tryz.ntmps54
      go_wp2
      go_ret
      exact ⟨ret_bool' HA.out.symm, HB⟩
set_option maxHeartbeats 2000000 in
theorem implLives_any (a : Ef) (c : Int) (w : World) : Calls Tryz.prog 18 #[(.agg #[.int .i64 a.id, .int .i64 a.si, .int .i64 a.sr, .int .i64 a.cl, .int .i64 a.pt.kd, .int .i64 a.pt.wh, .int .i64 a.pt.sr, .int .i64 a.pt.tr, .int .i64 a.pt.pi, .int .i64 a.pt.le, .int .i64 a.pt.zo, .int .i64 a.gd.kd, .int .i64 a.gd.nn, .int .i64 a.ac.kd, .int .i64 a.ac.nn, .int .i64 a.ac.pi, .int .i64 a.ac.si, .int .i64 a.ac.zo, .bool a.ac.be, .slice a.ac.la a.ac.ln a.ac.lcap, .int .i64 a.un, .int .i64 a.le]), .int .i64 c] w fun e w' => e = .returned (.bool (lvE a c)) ∧ Below w.heap.size w w' := by
  have HB := (Below.refl _ w).alloc (Nat.le_refl _) (.cells #[.int .i64 a.id, .int .i64 a.si, .int .i64 a.sr, .int .i64 a.cl, .int .i64 a.pt.kd, .int .i64 a.pt.wh, .int .i64 a.pt.sr, .int .i64 a.pt.tr, .int .i64 a.pt.pi, .int .i64 a.pt.le, .int .i64 a.pt.zo, .int .i64 a.gd.kd, .int .i64 a.gd.nn, .int .i64 a.ac.kd, .int .i64 a.ac.nn, .int .i64 a.ac.pi, .int .i64 a.ac.si, .int .i64 a.ac.zo, .bool a.ac.be, .slice a.ac.la a.ac.ln a.ac.lcap, .int .i64 a.un, .int .i64 a.le] 32)
  have bx := boxR_new w 32 #[.int .i64 a.id, .int .i64 a.si, .int .i64 a.sr, .int .i64 a.cl, .int .i64 a.pt.kd, .int .i64 a.pt.wh, .int .i64 a.pt.sr, .int .i64 a.pt.tr, .int .i64 a.pt.pi, .int .i64 a.pt.le, .int .i64 a.pt.zo, .int .i64 a.gd.kd, .int .i64 a.gd.nn, .int .i64 a.ac.kd, .int .i64 a.ac.nn, .int .i64 a.ac.pi, .int .i64 a.ac.si, .int .i64 a.ac.zo, .bool a.ac.be, .slice a.ac.la a.ac.ln a.ac.lcap, .int .i64 a.un, .int .i64 a.le]
  generalize hW : w.alloc (.cells #[.int .i64 a.id, .int .i64 a.si, .int .i64 a.sr, .int .i64 a.cl, .int .i64 a.pt.kd, .int .i64 a.pt.wh, .int .i64 a.pt.sr, .int .i64 a.pt.tr, .int .i64 a.pt.pi, .int .i64 a.pt.le, .int .i64 a.pt.zo, .int .i64 a.gd.kd, .int .i64 a.gd.nn, .int .i64 a.ac.kd, .int .i64 a.ac.nn, .int .i64 a.ac.pi, .int .i64 a.ac.si, .int .i64 a.ac.zo, .bool a.ac.be, .slice a.ac.la a.ac.ln a.ac.lcap, .int .i64 a.un, .int .i64 a.le] 32) = W at HB bx
  go_enter Tryz.func18, Tryz.ntmps18
  go_wp2_with (refine wpList_load_row rfl 32 _ rfl (w.heap.size) (by rfl) _ _ _ _ bx Tryz.underlying32 rfl (by kernel_rfl) ?_)
  refine (standingOf_any a _).mono ?_
  rintro e w1 ⟨rfl, hb⟩
  replace HB := below_app HB hb HB.size
  clear hb hW bx
  have FT := fun v : World => run_field_sp a v
  go_wp2_with fail
  refine (lives_any a c _).mono ?_
  rintro e w2 ⟨rfl, hb⟩
  replace HB := below_app HB hb HB.size
  go_wp2
  go_ret
  exact ⟨rfl, HB⟩
end Go.Proofs.YtodfdfncdoliiadGreat
namespace Go.Proofs.YtodfdfncdoliiadGreat
open Go.ChangeShapes Go.WideShapes Go.ChangeAt Go.RowKit
set_option maxRecDepth 100000
set_option linter.unusedVariables false
set_option linter.unusedSimpArgs false

/-- nothing but the block b, and what is new -/
structure But (b : Nat) (w w' : World) : Prop where
  below : Below b w w'
  other : ∀ k, k < w.heap.size → k ≠ b → w'.heap[k]? = w.heap[k]?
theorem But.size {b : Nat} {w w' : World} (h : But b w w') : w.heap.size ≤ w'.heap.size := h.below.size
theorem But.of {b : Nat} {w w' : World} (h : Below w.heap.size w w') (hb : b ≤ w.heap.size) : But b w w' := ⟨h.mono hb, fun k hk _ => h.block k hk⟩
theorem But.grew {b : Nat} {w u u' : World} (h : But b w u) (hbw : b ≤ w.heap.size) (hb : Below u.heap.size u u') : But b w u' := by
  have h1 := h.size
  exact ⟨h.below.trans (hb.mono (by omega)), fun k hk hne => (hb.block k (by omega)).trans (h.other k hk hne)⟩
theorem But.wrote {b : Nat} {w u u' : World} (h : But b w u) (W : Wrote u u' b) : But b w u' := ⟨h.below.trans (W.below (Nat.le_refl _)), fun k hk hne => (W.other hne).trans (h.other k hk hne)⟩
theorem But.next {b : Nat} {w u u' : World} (h : But b w u) (hbw : b ≤ w.heap.size) (hn : ∀ B, B ≤ w.heap.size → Below B u u') : But b w u' := ⟨h.below.trans (hn b hbw), fun k hk hne => ((hn w.heap.size (Nat.le_refl _)).block k hk).trans (h.other k hk hne)⟩
theorem But.cell {b : Nat} {w w' : World} (h : But b w w') {a : Addr} {v : Value} (hc : w.cell? a = some v) (hne : a.block ≠ b) : w'.cell? a = some v := (World.cell?_of_block (w := w) (a := a) (h.other a.block (World.block_lt_of_cell? w _ hc) hne)).trans hc
theorem rangeLeft_same {w w' : World} {b r : Nat} (e1 : w'.heap[b]? = w.heap[b]?) (e2 : w'.heap[r]? = w.heap[r]?) : w'.rangeLeft b r = w.rangeLeft b r := by simp only [World.rangeLeft, e1, e2]
/-- those that live -/
def liveM (M : Int × Int → Option Ef) (c : Int) : Int × Int → Option Ef := fun x => match M x with
  | some e => if lvE e c = true then some e else none
  | none => none
theorem liveM_some {M : Int × Int → Option Ef} {c : Int} {x : Int × Int} {e : Ef} (h : M x = some e) : liveM M c x = if lvE e c = true then some e else none := by unfold liveM; rw [h]
theorem liveM_none {M : Int × Int → Option Ef} {c : Int} {x : Int × Int} (h : M x = none) : liveM M c x = none := by unfold liveM; rw [h]
set_option maxHeartbeats 2000000 in
theorem lives1_any (x : Int × Int) (a : Ef) (q : Nat) (c : Int) (w : World) (hq : w.cell? ⟨q, 0, none⟩ = some (.int .i64 c)) : Calls Tryz.prog 82 #[.agg #[.int .i64 x.1, .int .i64 x.2], (.agg #[.int .i64 a.id, .int .i64 a.si, .int .i64 a.sr, .int .i64 a.cl, .int .i64 a.pt.kd, .int .i64 a.pt.wh, .int .i64 a.pt.sr, .int .i64 a.pt.tr, .int .i64 a.pt.pi, .int .i64 a.pt.le, .int .i64 a.pt.zo, .int .i64 a.gd.kd, .int .i64 a.gd.nn, .int .i64 a.ac.kd, .int .i64 a.ac.nn, .int .i64 a.ac.pi, .int .i64 a.ac.si, .int .i64 a.ac.zo, .bool a.ac.be, .slice a.ac.la a.ac.ln a.ac.lcap, .int .i64 a.un, .int .i64 a.le]), .pointer (some ⟨q, 0, none⟩)] w fun e w' => e = .returned (.bool (!lvE a c)) ∧ Below w.heap.size w w' := by
  obtain ⟨v, hv⟩ : ∃ v, lvE a c = v := ⟨_, rfl⟩
  rw [hv]
  have z2 : BoxR ((w.alloc (.cells #[.int .i64 x.1, .int .i64 x.2] 117)).alloc (.cells #[.int .i64 a.id, .int .i64 a.si, .int .i64 a.sr, .int .i64 a.cl, .int .i64 a.pt.kd, .int .i64 a.pt.wh, .int .i64 a.pt.sr, .int .i64 a.pt.tr, .int .i64 a.pt.pi, .int .i64 a.pt.le, .int .i64 a.pt.zo, .int .i64 a.gd.kd, .int .i64 a.gd.nn, .int .i64 a.ac.kd, .int .i64 a.ac.nn, .int .i64 a.ac.pi, .int .i64 a.ac.si, .int .i64 a.ac.zo, .bool a.ac.be, .slice a.ac.la a.ac.ln a.ac.lcap, .int .i64 a.un, .int .i64 a.le] 32)) (w.heap.size + 1) 32 #[.int .i64 a.id, .int .i64 a.si, .int .i64 a.sr, .int .i64 a.cl, .int .i64 a.pt.kd, .int .i64 a.pt.wh, .int .i64 a.pt.sr, .int .i64 a.pt.tr, .int .i64 a.pt.pi, .int .i64 a.pt.le, .int .i64 a.pt.zo, .int .i64 a.gd.kd, .int .i64 a.gd.nn, .int .i64 a.ac.kd, .int .i64 a.ac.nn, .int .i64 a.ac.pi, .int .i64 a.ac.si, .int .i64 a.ac.zo, .bool a.ac.be, .slice a.ac.la a.ac.ln a.ac.lcap, .int .i64 a.un, .int .i64 a.le] := heap_alloc2_new _ _ _
  have hb := ((Below.refl _ w).alloc (Nat.le_refl _) (.cells #[.int .i64 x.1, .int .i64 x.2] 117)).alloc (by simp) (.cells #[.int .i64 a.id, .int .i64 a.si, .int .i64 a.sr, .int .i64 a.cl, .int .i64 a.pt.kd, .int .i64 a.pt.wh, .int .i64 a.pt.sr, .int .i64 a.pt.tr, .int .i64 a.pt.pi, .int .i64 a.pt.le, .int .i64 a.pt.zo, .int .i64 a.gd.kd, .int .i64 a.gd.nn, .int .i64 a.ac.kd, .int .i64 a.ac.nn, .int .i64 a.ac.pi, .int .i64 a.ac.si, .int .i64 a.ac.zo, .bool a.ac.be, .slice a.ac.la a.ac.ln a.ac.lcap, .int .i64 a.un, .int .i64 a.le] 32)
  have hq1 := World.cellB hq hb
  go_enter Tryz.func82, Tryz.ntmps82
  go_upto_region 1 with fail
  generalize hW : (w.alloc (.cells #[.int .i64 x.1, .int .i64 x.2] 117)).alloc (.cells #[.int .i64 a.id, .int .i64 a.si, .int .i64 a.sr, .int .i64 a.cl, .int .i64 a.pt.kd, .int .i64 a.pt.wh, .int .i64 a.pt.sr, .int .i64 a.pt.tr, .int .i64 a.pt.pi, .int .i64 a.pt.le, .int .i64 a.pt.zo, .int .i64 a.gd.kd, .int .i64 a.gd.nn, .int .i64 a.ac.kd, .int .i64 a.ac.nn, .int .i64 a.ac.pi, .int .i64 a.ac.si, .int .i64 a.ac.zo, .bool a.ac.be, .slice a.ac.la a.ac.ln a.ac.lcap, .int .i64 a.un, .int .i64 a.le] 32) = W at z2 hb hq1 ⊢
  clear hW hq
  go_wp2_with (refine wpList_load_row rfl 32 _ rfl (w.heap.size + 1) (by rfl) _ _ _ _ z2 Tryz.underlying32 rfl (by kernel_rfl) ?_)
  refine (implLives_any a c _).mono ?_
  rw [hv]
  rintro e w2 ⟨rfl, hb2⟩
  clear z2 hq1
  go_wp2
  go_ret
  first | exact ⟨rfl, below_app hb hb2 hb.size⟩ | exact ⟨trivial, below_app hb hb2 hb.size⟩
set_option maxHeartbeats 4000000 in
theorem delFunc_any (M : Int × Int → Option Ef) (c : Int) (mb q : Nat) (w : World) (hm : MapB encMk w mb (valM M)) (hq : w.cell? ⟨q, 0, none⟩ = some (.int .i64 c)) : Calls Tryz.prog 81 #[.map (some mb), .func (.func 82) #[] #[.pointer (some ⟨q, 0, none⟩)]] w fun e w' => e = .returned (.tuple #[]) ∧ But mb w w' ∧ MapB encMk w' mb (valM (liveM M c)) := by
  have hqm : q ≠ mb := fun e => hm.ne hq e.symm
  have hmw := hm.lt
  go_enter Tryz.func81, Tryz.ntmps81
  go_wp2_with (refine wpList_rangeM _ rfl (.tmp 6) 110 rfl Tryz.underlying110 rfl hm ?_; intro W1 R1 b1)
  try simp only [Act.put, List.setIfInBounds_toArray, List.set_cons_zero, List.set_cons_succ]
  have T1 : But mb w W1 := But.of b1 (Nat.le_of_lt hmw)
  go_loopw [] (fun wr => ∃ (N : Int × Int → Option Ef) (left : Int × Int → Bool), RangeB encMk wr mb w.heap.size (valM N) left ∧ But mb w wr ∧ (∀ x, left x = true → N x = M x) ∧ (∀ x, left x = false → N x = liveM M c x)) (fun wr => wr.rangeLeft mb w.heap.size)
  case atStart => exact ⟨M, fun _ => true, R1, T1, fun x _ => rfl, fun x h => by cases h⟩
  case round =>
    clear R1 b1 T1 hm
    obtain ⟨N, left, HR, HT, hl1, hl2⟩ := hrel
    go_upto_if 9 with (refine wpList_nextM _ rfl (.tmp 7) rfl encMk_inj rfl HR (fun hdone => ?_) (fun x v u hv hlx HR2 hlt hsz hbl hen => ?_))
    · skip
      have hE : ∀ x, valM N x = valM (liveM M c) x := fun x => by
        unfold valM
        cases hl : left x with
        | false => rw [hl2 x hl]
        | true =>
          have h1 := hl1 x hl
          cases hN : N x with
          | none => rw [liveM_none (by rw [← h1]; exact hN)]
          | some e => have := hdone x (efV e) (by unfold valM; rw [hN]; rfl); rw [hl] at this; cases this
      go_wp2
      (try simp only [Exit.inBlock, Exit.then]); refine bodyPost_end (results_none rfl _ _ _) rfl ?_
      exact ⟨rfl, HT, HR.map.congr hE⟩
    · skip
      obtain ⟨a, hNa, rfl⟩ : ∃ a, N x = some a ∧ v = efV a := by
        unfold valM at hv
        cases hN : N x with
        | none => rw [hN] at hv; cases hv
        | some a => rw [hN] at hv; exact ⟨a, rfl, (Option.some.inj hv).symm⟩
      have hMa : M x = some a := (hl1 x hlx).symm.trans hNa
      have HT2 := HT.next (Nat.le_of_lt hmw) hbl
      clear HR HT hv hbl hsz
      have hen' : (Instr.entry (.pointer (some ⟨w.heap.size, 0, none⟩))).run Tryz.prog u = .ok (.tuple #[.agg #[.int .i64 x.1, .int .i64 x.2], (.agg #[.int .i64 a.id, .int .i64 a.si, .int .i64 a.sr, .int .i64 a.cl, .int .i64 a.pt.kd, .int .i64 a.pt.wh, .int .i64 a.pt.sr, .int .i64 a.pt.tr, .int .i64 a.pt.pi, .int .i64 a.pt.le, .int .i64 a.pt.zo, .int .i64 a.gd.kd, .int .i64 a.gd.nn, .int .i64 a.ac.kd, .int .i64 a.ac.nn, .int .i64 a.ac.pi, .int .i64 a.ac.si, .int .i64 a.ac.zo, .bool a.ac.be, .slice a.ac.la a.ac.ln a.ac.lcap, .int .i64 a.un, .int .i64 a.le])]) u := hen
      clear hen
      have za : BoxR ((u.alloc (.cells #[.int .i64 0, .int .i64 0] 117)).alloc (.cells #[.int .i64 0, .int .i64 0, .int .i64 0, .int .i64 0, .int .i64 0, .int .i64 0, .int .i64 0, .int .i64 0, .int .i64 0, .int .i64 0, .int .i64 0, .int .i64 0, .int .i64 0, .int .i64 0, .int .i64 0, .int .i64 0, .int .i64 0, .int .i64 0, .bool false, .slice none 0 0, .int .i64 0, .int .i64 0] 32)) u.heap.size 117 #[.int .i64 0, .int .i64 0] := (boxR_new u 117 #[.int .i64 0, .int .i64 0]).alloc _
      have zb : BoxR (((u.alloc (.cells #[.int .i64 0, .int .i64 0] 117)).alloc (.cells #[.int .i64 0, .int .i64 0, .int .i64 0, .int .i64 0, .int .i64 0, .int .i64 0, .int .i64 0, .int .i64 0, .int .i64 0, .int .i64 0, .int .i64 0, .int .i64 0, .int .i64 0, .int .i64 0, .int .i64 0, .int .i64 0, .int .i64 0, .int .i64 0, .bool false, .slice none 0 0, .int .i64 0, .int .i64 0] 32)).setRow u.heap.size #[.int .i64 x.1, .int .i64 x.2]) (u.heap.size + 1) 32 #[.int .i64 0, .int .i64 0, .int .i64 0, .int .i64 0, .int .i64 0, .int .i64 0, .int .i64 0, .int .i64 0, .int .i64 0, .int .i64 0, .int .i64 0, .int .i64 0, .int .i64 0, .int .i64 0, .int .i64 0, .int .i64 0, .int .i64 0, .int .i64 0, .bool false, .slice none 0 0, .int .i64 0, .int .i64 0] := (heap_setRow_ne' _ _ _ _ (by omega)).trans (heap_alloc2_new _ _ _)
      have zc : BoxR ((((u.alloc (.cells #[.int .i64 0, .int .i64 0] 117)).alloc (.cells #[.int .i64 0, .int .i64 0, .int .i64 0, .int .i64 0, .int .i64 0, .int .i64 0, .int .i64 0, .int .i64 0, .int .i64 0, .int .i64 0, .int .i64 0, .int .i64 0, .int .i64 0, .int .i64 0, .int .i64 0, .int .i64 0, .int .i64 0, .int .i64 0, .bool false, .slice none 0 0, .int .i64 0, .int .i64 0] 32)).setRow u.heap.size #[.int .i64 x.1, .int .i64 x.2]).setRow (u.heap.size + 1) #[.int .i64 a.id, .int .i64 a.si, .int .i64 a.sr, .int .i64 a.cl, .int .i64 a.pt.kd, .int .i64 a.pt.wh, .int .i64 a.pt.sr, .int .i64 a.pt.tr, .int .i64 a.pt.pi, .int .i64 a.pt.le, .int .i64 a.pt.zo, .int .i64 a.gd.kd, .int .i64 a.gd.nn, .int .i64 a.ac.kd, .int .i64 a.ac.nn, .int .i64 a.ac.pi, .int .i64 a.ac.si, .int .i64 a.ac.zo, .bool a.ac.be, .slice a.ac.la a.ac.ln a.ac.lcap, .int .i64 a.un, .int .i64 a.le]) (u.heap.size + 1) 32 #[.int .i64 a.id, .int .i64 a.si, .int .i64 a.sr, .int .i64 a.cl, .int .i64 a.pt.kd, .int .i64 a.pt.wh, .int .i64 a.pt.sr, .int .i64 a.pt.tr, .int .i64 a.pt.pi, .int .i64 a.pt.le, .int .i64 a.pt.zo, .int .i64 a.gd.kd, .int .i64 a.gd.nn, .int .i64 a.ac.kd, .int .i64 a.ac.nn, .int .i64 a.ac.pi, .int .i64 a.ac.si, .int .i64 a.ac.zo, .bool a.ac.be, .slice a.ac.la a.ac.ln a.ac.lcap, .int .i64 a.un, .int .i64 a.le] := setRow_heap _ _ _ _ _ _ zb
      have zd : BoxR ((((u.alloc (.cells #[.int .i64 0, .int .i64 0] 117)).alloc (.cells #[.int .i64 0, .int .i64 0, .int .i64 0, .int .i64 0, .int .i64 0, .int .i64 0, .int .i64 0, .int .i64 0, .int .i64 0, .int .i64 0, .int .i64 0, .int .i64 0, .int .i64 0, .int .i64 0, .int .i64 0, .int .i64 0, .int .i64 0, .int .i64 0, .bool false, .slice none 0 0, .int .i64 0, .int .i64 0] 32)).setRow u.heap.size #[.int .i64 x.1, .int .i64 x.2]).setRow (u.heap.size + 1) #[.int .i64 a.id, .int .i64 a.si, .int .i64 a.sr, .int .i64 a.cl, .int .i64 a.pt.kd, .int .i64 a.pt.wh, .int .i64 a.pt.sr, .int .i64 a.pt.tr, .int .i64 a.pt.pi, .int .i64 a.pt.le, .int .i64 a.pt.zo, .int .i64 a.gd.kd, .int .i64 a.gd.nn, .int .i64 a.ac.kd, .int .i64 a.ac.nn, .int .i64 a.ac.pi, .int .i64 a.ac.si, .int .i64 a.ac.zo, .bool a.ac.be, .slice a.ac.la a.ac.ln a.ac.lcap, .int .i64 a.un, .int .i64 a.le]) u.heap.size 117 #[.int .i64 x.1, .int .i64 x.2] := (heap_setRow_ne' _ _ _ _ (by omega)).trans (setRow_heap _ _ _ _ _ _ za)
      have hq2 := HT2.cell hq (by exact hqm)
      have hbU := below_setRow (below_setRow (((Below.refl _ u).alloc (Nat.le_refl _) (.cells #[.int .i64 0, .int .i64 0] 117)).alloc (by simp) (.cells #[.int .i64 0, .int .i64 0, .int .i64 0, .int .i64 0, .int .i64 0, .int .i64 0, .int .i64 0, .int .i64 0, .int .i64 0, .int .i64 0, .int .i64 0, .int .i64 0, .int .i64 0, .int .i64 0, .int .i64 0, .int .i64 0, .int .i64 0, .int .i64 0, .bool false, .slice none 0 0, .int .i64 0, .int .i64 0] 32)) (Nat.le_refl _) (#[.int .i64 x.1, .int .i64 x.2] : Array Value)) (show u.heap.size ≤ u.heap.size + 1 by omega) (#[.int .i64 a.id, .int .i64 a.si, .int .i64 a.sr, .int .i64 a.cl, .int .i64 a.pt.kd, .int .i64 a.pt.wh, .int .i64 a.pt.sr, .int .i64 a.pt.tr, .int .i64 a.pt.pi, .int .i64 a.pt.le, .int .i64 a.pt.zo, .int .i64 a.gd.kd, .int .i64 a.gd.nn, .int .i64 a.ac.kd, .int .i64 a.ac.nn, .int .i64 a.ac.pi, .int .i64 a.ac.si, .int .i64 a.ac.zo, .bool a.ac.be, .slice a.ac.la a.ac.ln a.ac.lcap, .int .i64 a.un, .int .i64 a.le] : Array Value)
      go_upto_region 3 with first | (refine wpList_store_row rfl 117 (.tmp 4) _ rfl u.heap.size _ (by rfl) (by rfl) _ _ za (by kernel_rfl) (by rfl) (by simp [Value.oneCell']) ?_) | (refine wpList_store_row rfl 32 (.tmp 5) _ rfl (u.heap.size + 1) _ (by rfl) (by rfl) _ _ zb (by kernel_rfl) (by rfl) (by simp [Value.oneCell']) ?_)
      generalize hV : (((u.alloc (.cells #[.int .i64 0, .int .i64 0] 117)).alloc (.cells #[.int .i64 0, .int .i64 0, .int .i64 0, .int .i64 0, .int .i64 0, .int .i64 0, .int .i64 0, .int .i64 0, .int .i64 0, .int .i64 0, .int .i64 0, .int .i64 0, .int .i64 0, .int .i64 0, .int .i64 0, .int .i64 0, .int .i64 0, .int .i64 0, .bool false, .slice none 0 0, .int .i64 0, .int .i64 0] 32)).setRow u.heap.size #[.int .i64 x.1, .int .i64 x.2]).setRow (u.heap.size + 1) #[.int .i64 a.id, .int .i64 a.si, .int .i64 a.sr, .int .i64 a.cl, .int .i64 a.pt.kd, .int .i64 a.pt.wh, .int .i64 a.pt.sr, .int .i64 a.pt.tr, .int .i64 a.pt.pi, .int .i64 a.pt.le, .int .i64 a.pt.zo, .int .i64 a.gd.kd, .int .i64 a.gd.nn, .int .i64 a.ac.kd, .int .i64 a.ac.nn, .int .i64 a.ac.pi, .int .i64 a.ac.si, .int .i64 a.ac.zo, .bool a.ac.be, .slice a.ac.la a.ac.ln a.ac.lcap, .int .i64 a.un, .int .i64 a.le] = V at zc zd hbU ⊢
      clear hV za zb hen'
      have hl3 : V.rangeLeft mb w.heap.size = u.rangeLeft mb w.heap.size := rangeLeft_same (hbU.block _ HR2.lt.1) (hbU.block _ HR2.lt.2.1)
      replace HR2 := HR2.grew hbU
      replace HT2 := HT2.grew (Nat.le_of_lt hmw) hbU
      replace hq2 := World.cellB hq2 hbU
      clear hbU
      generalize u.heap.size = g1 at zc zd ⊢
      rw [← hl3] at hlt
      clear hl3
      cases hv : lvE a c
      case false =>
        have HC : Hid (∀ u, u.cell? ⟨q, 0, none⟩ = some (.int .i64 c) → Calls Tryz.prog 82 #[.agg #[.int .i64 x.1, .int .i64 x.2], (.agg #[.int .i64 a.id, .int .i64 a.si, .int .i64 a.sr, .int .i64 a.cl, .int .i64 a.pt.kd, .int .i64 a.pt.wh, .int .i64 a.pt.sr, .int .i64 a.pt.tr, .int .i64 a.pt.pi, .int .i64 a.pt.le, .int .i64 a.pt.zo, .int .i64 a.gd.kd, .int .i64 a.gd.nn, .int .i64 a.ac.kd, .int .i64 a.ac.nn, .int .i64 a.ac.pi, .int .i64 a.ac.si, .int .i64 a.ac.zo, .bool a.ac.be, .slice a.ac.la a.ac.ln a.ac.lcap, .int .i64 a.un, .int .i64 a.le]), .pointer (some ⟨q, 0, none⟩)] u fun e w' => e = .returned (.bool true) ∧ Below u.heap.size u w') := fun u hu => by have := lives1_any x a q c u hu; rw [hv] at this; exact this
        have HN : Hid (liveM M c x = none) := by rw [liveM_some hMa, hv]; rfl
        clear hv
        go_upto_region 4 with first | (refine wpList_load_row rfl 117 _ rfl g1 (by rfl) _ _ _ _ zd Tryz.underlying117 rfl (by kernel_rfl) ?_) | (refine wpList_load_row rfl 32 _ rfl (g1 + 1) (by rfl) _ _ _ _ zc Tryz.underlying32 rfl (by kernel_rfl) ?_) | (go_at_call 82; refine (HC.out _ hq2).mono ?_; rintro e w2 ⟨rfl, hb2⟩)
        have hl3 : w2.rangeLeft mb w.heap.size = V.rangeLeft mb w.heap.size := rangeLeft_same (hb2.block _ HR2.lt.1) (hb2.block _ HR2.lt.2.1)
        replace HR2 := HR2.grew hb2
        replace HT2 := HT2.grew (Nat.le_of_lt hmw) hb2
        rw [← hl3] at hlt
        replace zd := zd.grew hb2
        clear zc hq2 hb2 hl3 HC
        have hA : (∀ y, (left y && !decide (y = x)) = true → delE N x y = M y) ∧ (∀ y, (left y && !decide (y = x)) = false → delE N x y = liveM M c y) := ⟨fun y hy => by
          simp at hy
          unfold delE
          rw [if_neg hy.2]
          exact hl1 y hy.1, fun y hy => by
          unfold delE
          by_cases e : y = x
          · rw [if_pos e, e, HN.out]
          · rw [if_neg e]
            exact hl2 y (by simpa [e] using hy)⟩
        go_wp2_with first | (refine wpList_load_row rfl 117 _ rfl g1 (by rfl) _ _ _ _ zd Tryz.underlying117 rfl (by kernel_rfl) ?_) | (refine wpList_delR _ rfl (.tmp 17) (.tmp 18) 110 117 rfl keyM Tryz.underlying110 rfl HR2 x rfl ?_; intro w3 HR3 wr3 hl3)
        rw [delE_val] at HR3
        replace HT2 := HT2.wrote wr3
        have hlt' := Nat.lt_of_le_of_lt hl3 hlt
        clear zd HR2 hl3 hlt wr3
        go_roundw
        case rel => first | exact ⟨delE N x, _, HR3, HT2, hA.1, hA.2⟩ | ((repeat apply Exists.intro); exact ⟨⟨delE N x, _, HR3, HT2, hA.1, hA.2⟩, rfl⟩)
        case measure => exact hlt'
      case true =>
        have HC : Hid (∀ u, u.cell? ⟨q, 0, none⟩ = some (.int .i64 c) → Calls Tryz.prog 82 #[.agg #[.int .i64 x.1, .int .i64 x.2], (.agg #[.int .i64 a.id, .int .i64 a.si, .int .i64 a.sr, .int .i64 a.cl, .int .i64 a.pt.kd, .int .i64 a.pt.wh, .int .i64 a.pt.sr, .int .i64 a.pt.tr, .int .i64 a.pt.pi, .int .i64 a.pt.le, .int .i64 a.pt.zo, .int .i64 a.gd.kd, .int .i64 a.gd.nn, .int .i64 a.ac.kd, .int .i64 a.ac.nn, .int .i64 a.ac.pi, .int .i64 a.ac.si, .int .i64 a.ac.zo, .bool a.ac.be, .slice a.ac.la a.ac.ln a.ac.lcap, .int .i64 a.un, .int .i64 a.le]), .pointer (some ⟨q, 0, none⟩)] u fun e w' => e = .returned (.bool false) ∧ Below u.heap.size u w') := fun u hu => by have := lives1_any x a q c u hu; rw [hv] at this; exact this
        have HN : Hid (liveM M c x = some a) := by rw [liveM_some hMa, hv]; rfl
        clear hv
        go_upto_region 4 with first | (refine wpList_load_row rfl 117 _ rfl g1 (by rfl) _ _ _ _ zd Tryz.underlying117 rfl (by kernel_rfl) ?_) | (refine wpList_load_row rfl 32 _ rfl (g1 + 1) (by rfl) _ _ _ _ zc Tryz.underlying32 rfl (by kernel_rfl) ?_) | (go_at_call 82; refine (HC.out _ hq2).mono ?_; rintro e w2 ⟨rfl, hb2⟩)
        have hl3 : w2.rangeLeft mb w.heap.size = V.rangeLeft mb w.heap.size := rangeLeft_same (hb2.block _ HR2.lt.1) (hb2.block _ HR2.lt.2.1)
        replace HR2 := HR2.grew hb2
        replace HT2 := HT2.grew (Nat.le_of_lt hmw) hb2
        rw [← hl3] at hlt
        clear zc zd hq2 hb2 hl3 HC
        have hA : (∀ y, (left y && !decide (y = x)) = true → N y = M y) ∧ (∀ y, (left y && !decide (y = x)) = false → N y = liveM M c y) := ⟨fun y hy => hl1 y (by simp at hy; exact hy.1), fun y hy => by
          by_cases e : y = x
          · rw [e, hNa, HN.out]
          · exact hl2 y (by simpa [e] using hy)⟩
        go_roundw
        case rel => first | exact ⟨N, _, HR2, HT2, hA.1, hA.2⟩ | ((repeat apply Exists.intro); exact ⟨⟨N, _, HR2, HT2, hA.1, hA.2⟩, rfl⟩)
        case measure => exact hlt
set_option maxHeartbeats 4000000 in
theorem implExpire_any (t : Tb) (c : Int) (w : World) (hok : t.okW w) (hn : t.n ≤ 1048577) : Calls Tryz.prog 28 #[.slice t.p t.n t.cap, .int .i64 c] w fun e w' => ∃ q : Tb, e = .returned (.slice q.p q.n q.cap) ∧ Below w.heap.size w w' ∧ AnsT w' w.heap.size q (exL t.f c t.n).length (exF (exL t.f c t.n) t.f) := by
  have hf := hok.2.2.2
  have bx := boxR_new w 3 #[.int .i64 c]
  have hb0 := below_new2'' w (.cells #[.int .i64 c] 3)
  go_enter Tryz.func28, Tryz.ntmps28
  go_wp2_with fail
  generalize w.alloc (.cells #[.int .i64 c] 3) = W0 at hb0 bx ⊢
  have hok0 := hok.grew hb0
  have hW0 := hb0.size
  have ntw0 := bx.lt
  refine (tableOf_any t W0 hok0 hn).mono ?_
  rintro e u1 ⟨mb, qb, rfl, hb1, M1, l1, nqm, o1⟩
  replace bx := bx.grew hb1
  have hB := below_app hb0 hb1 hb0.size
  have z0 := boxR_new u1 113 #[.map none, .slice none 0 0]
  have zb := below_setRow (below_new2'' u1 (.cells #[.map none, .slice none 0 0] 113)) (Nat.le_refl _) (#[.map (some mb), .slice (some ⟨qb, 0, none⟩) t.n t.n] : Array Value)
  have z1 : BoxR ((u1.alloc (.cells #[.map none, .slice none 0 0] 113)).setRow u1.heap.size #[.map (some mb), .slice (some ⟨qb, 0, none⟩) t.n t.n]) u1.heap.size 113 #[.map (some mb), .slice (some ⟨qb, 0, none⟩) t.n t.n] := setRow_heap _ _ _ _ _ _ z0
  have ntm := M1.lt
  have ntw := hB.size
  go_upto_region 2 with (refine wpList_store_row rfl 113 (.tmp 5) _ rfl u1.heap.size _ (by rfl) (by rfl) _ _ z0 (by kernel_rfl) (by rfl) (by simp [Value.oneCell']) ?_)
  generalize hU : (u1.alloc (.cells #[.map none, .slice none 0 0] 113)).setRow u1.heap.size #[.map (some mb), .slice (some ⟨qb, 0, none⟩) t.n t.n] = U at zb z1 ⊢
  replace M1 := M1.grew zb
  replace o1 := o1.grew zb
  replace bx := bx.grew zb
  replace hB := below_app hB zb hB.size
  replace ntm : u1.heap.size ≠ mb := by omega
  generalize u1.heap.size = tb at z1 ntm ntw ⊢
  clear z0 zb hU hb1 hb0
  replace l1 : w.heap.size ≤ mb := by omega
  replace o1 := o1.rebaseT hW0
  clear hok0
  have c0 : U.cell? ⟨tb, 0, none⟩ = some (.map (some mb)) := by have := z1.cell 0; simpa using this
  have hq : U.cell? ⟨w.heap.size, 0, none⟩ = some (.int .i64 c) := by have := bx.cell 0; simpa using this
  clear bx
  go_wp2_with fail
  refine (delFunc_any (tabM t.f t.n) c mb w.heap.size _ M1 hq).mono ?_
  rintro e u3 ⟨rfl, hT, M3⟩
  replace z1 : BoxR u3 tb 113 #[.map (some mb), .slice (some ⟨qb, 0, none⟩) t.n t.n] := (hT.other tb z1.lt ntm).trans z1
  replace o1 := o1.same (hT.other qb o1.2.1 nqm) hT.size
  replace hB := hB.trans (hT.below.mono l1)
  clear M1 c0 hq hT
  have M1 := M3
  clear M3
  have hlv : ∀ i, i < t.n → liveM (tabM t.f t.n) c (mkAt t.f i) = if lvE (t.f i) c = true then some (t.f i) else none := fun i hi => liveM_some (tabM_at t.f hi)
  have sel := sel_live (t.f 0) t.f c t.n hlv
  have hsel : ∀ i, i < t.n → ∀ x, liveM (tabM t.f t.n) c (mkAt t.f i) = some x → x.okW u3 ∧ x.ac.ln ≤ 1048577 := fun i hi x hx => by
    rw [hlv i hi] at hx
    split at hx
    · obtain rfl := Option.some.inj hx
      exact sel_ok hf hB i hi
    · cases hx
  clear hlv
  go_wp2_with (refine wpList_load_row rfl 113 _ rfl tb (by rfl) _ _ _ _ z1 Tryz.underlying113 rfl (by kernel_rfl) ?_)
  refine (list_any (liveM (tabM t.f t.n) c) (mkAt t.f) (t.f 0) mb qb (some ⟨qb, 0, none⟩) t.n t.n _ M1 o1.rd (by omega) hsel).mono ?_
  rintro e u9 ⟨v, g', rfl, hb9, B9⟩
  have hB9 := below_app hB hb9 hB.size
  have B8 := (B9.down hB.size).congr (g' := g') (f' := exF (exL t.f c t.n) t.f) (fun i hi => rfl) (fun i hi => sel.2 i (by rw [← sel.1]; exact hi))
  rw [sel.1] at B8
  obtain ⟨q, rfl, hq⟩ := B8.ans
  clear M1 o1 z1 hsel B9 hb9
  go_wp2
  go_ret
  exact ⟨q, rfl, hB9, hq⟩
end Go.Proofs.YtodfdfncdoliiadGreat
