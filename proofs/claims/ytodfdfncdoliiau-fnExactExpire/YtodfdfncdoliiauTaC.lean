/-
  Chapter 11: rows of effects: how a law compares two (eqEffectS). Written by tools/tab.gen.py. Own work.
-/
import Derived.Test.YtodfdfncdoliiauTaB
import Derived.Deep.RegionHeld
import Derived.Deep.MidRow
namespace Go.Proofs.Ytodfdfncdoliiau
open Go.ChangeShapes Go.WideShapes Go.ChangeAt Go.RowKit
set_option maxRecDepth 100000
set_option linter.unusedVariables false
set_option linter.unusedSimpArgs false

theorem rangeAt_below {w w' : World} {b o : Nat} {cs : List Value} (h : w.rangeAt b o cs) (hb : Below w.heap.size w w') : w'.rangeAt b o cs := fun j v hv =>
  (World.cell?_of_block (w := w) (a := ⟨b, o + j, none⟩) (hb.block b (World.block_lt_of_cell? w _ (h j v hv)))).trans (h j v hv)
theorem cell_below {w w' : World} {a : Addr} {v : Value} (h : w.cell? a = some v) (hb : Below w.heap.size w w') : w'.cell? a = some v := (World.cell?_of_block (w := w) (a := a) (hb.block a.block (World.block_lt_of_cell? w _ h))).trans h
set_option maxHeartbeats 8000000 in
theorem eqEffectS_alike (t1 t2 a : Tb) (w : World) {B1 B2 : Nat} (o1 : OwnTb w B1 t1) (o2 : OwnTb w B2 t2) (k1 : AlikeT t1 a) (k2 : AlikeT t2 a) (hl : ∀ i, i < a.n → (a.f i).ac.ln ≤ 1048577) :
    Calls Try.prog 12 #[.slice t1.p t1.n t1.cap, .slice t2.p t2.n t2.cap] w fun e w' => e = .returned (.bool true) ∧ Below w.heap.size w w' := by
  have m_ : Try.prog.follows Departure.mixedOrders = true := by kernel_rfl
  obtain ⟨p1, n1, c1, b1, f1⟩ := t1
  obtain ⟨p2, n2, c2, b2, f2⟩ := t2
  obtain ⟨hn1, h1⟩ := k1
  obtain ⟨hn2, h2⟩ := k2
  dsimp only at hn1 hn2 h1 h2 ⊢
  obtain ⟨a1, a2, r1, g1, _⟩ := o1
  obtain ⟨a3, a4, r2, g2, _⟩ := o2
  dsimp only at a1 a2 a3 a4 r1 r2 g1 g2
  generalize hN : a.n = n at hn1 hn2 h1 h2 hl
  subst hn1
  obtain rfl := hn2
  have hnm : n2 ≤ 9223372036854775807 := by unfold maxLen at a2; omega
  go_enter Try.func12, Try.ntmps12
  go_wp2
  go_loopw [5] (fun i wr => ∃ k : Nat, k ≤ n2 ∧ i = .int .i64 k ∧ Below w.heap.size w wr) (fun i _ => n2 - (intOf i).toNat)
  case atStart => exact ⟨0, Nat.zero_le _, rfl, Below.refl _ _⟩
  case round =>
    obtain ⟨k, hk, rfl, hb0⟩ := hrel
    by_cases hlt : k < n2
    · rcases r1.rd.grew efC_ne hb0 with q1 | ⟨x1, rfl, q1⟩
      · omega
      rcases r2.rd.grew efC_ne hb0 with q2 | ⟨x2, rfl, q2⟩
      · omega
      have ra := RdE.rangeD q1 hlt
      have rb := RdE.rangeD q2 hlt
      have oa := OwnF.grew (g1 k hlt).1 hb0
      have ob := OwnF.grew (g2 k hlt).1 hb0
      have ka := h1 k hlt
      have kb := h2 k hlt
      have hlk := hl k hlt
      clear q1 q2 h1 h2 g1 g2 r1 r2 hl
      generalize f1 k = x at ra oa ka
      generalize f2 k = y at rb ob kb
      generalize a.f k = z at ka kb hlk
      have y1 : (0 : Int) ≤ (k : Int) := by omega
      have y2 : (k : Int) < (n2 : Int) := by omega
      go_wp2_with fail
      have hq : Below wr.heap.size wr wr.drew := (Below.refl _ wr).drew
      refine wp_region_held_drew (S := fun u : World => Below wr.heap.size wr u) (by kernel_rfl) hq (fun hHeld => ?_)
      refine wpAnyH_take (i := 0) (oi := ⟨some 17, _, _, _, _, _⟩) (v := .slice (some ⟨b1, x1, none⟩) n2 c1) rfl (by kernel_rfl) (by kernel_rfl) (by kernel_rfl) (fun _ _ _ h => h) (Or.inl ⟨by kernel_rfl, fun u hSu => by clear hSu; go_simp⟩) hHeld ?_
      try simp only [Act.put, List.setIfInBounds_toArray, List.set_cons_zero, List.set_cons_succ]
      refine wpAnyH_take (i := 1) (oi := ⟨some 18, _, _, _, _, _⟩) (v := .int .i64 k) rfl (by kernel_rfl) (by kernel_rfl) (by kernel_rfl) (fun _ _ _ h => h) (Or.inl ⟨by kernel_rfl, fun u hSu => by clear hSu; go_simp⟩) hHeld ?_
      try simp only [Act.put, List.setIfInBounds_toArray, List.set_cons_zero, List.set_cons_succ]
      refine wpAnyH_take (i := 2) (oi := ⟨some 19, _, _, _, _, _⟩) (v := .pointer (some ⟨b1, x1 + k * 22, none⟩)) rfl (by kernel_rfl) (by kernel_rfl) (by kernel_rfl) (fun _ _ _ h => h) (Or.inl ⟨by kernel_rfl, fun u hSu => by clear hSu; go_simp⟩) hHeld ?_
      try simp only [Act.put, List.setIfInBounds_toArray, List.set_cons_zero, List.set_cons_succ]
      refine wpAnyH_take (i := 3) (oi := ⟨some 20, _, _, _, _, _⟩) (v := .agg #[.int .i64 x.id, .int .i64 x.si, .int .i64 x.sr, .int .i64 x.cl, .int .i64 x.pt.kd, .int .i64 x.pt.wh, .int .i64 x.pt.sr, .int .i64 x.pt.tr, .int .i64 x.pt.pi, .int .i64 x.pt.le, .int .i64 x.pt.zo, .int .i64 x.gd.kd, .int .i64 x.gd.nn, .int .i64 x.ac.kd, .int .i64 x.ac.nn, .int .i64 x.ac.pi, .int .i64 x.ac.si, .int .i64 x.ac.zo, .bool x.ac.be, .slice x.ac.la x.ac.ln x.ac.lcap, .int .i64 x.un, .int .i64 x.le]) rfl (by kernel_rfl) (by kernel_rfl) (by kernel_rfl) (fun _ _ _ h => h) (yieldsIf_load_mid (by kernel_rfl) 49 (.tmp 19) rfl (b1) (x1 + k * 22) (by rfl) [.int .i64 x.id, .int .i64 x.si, .int .i64 x.sr, .int .i64 x.cl, .int .i64 x.pt.kd, .int .i64 x.pt.wh, .int .i64 x.pt.sr, .int .i64 x.pt.tr, .int .i64 x.pt.pi, .int .i64 x.pt.le, .int .i64 x.pt.zo, .int .i64 x.gd.kd, .int .i64 x.gd.nn, .int .i64 x.ac.kd, .int .i64 x.ac.nn, .int .i64 x.ac.pi, .int .i64 x.ac.si, .int .i64 x.ac.zo, .bool x.ac.be, .slice x.ac.la x.ac.ln x.ac.lcap, .int .i64 x.un, .int .i64 x.le] _ (fun u hu => rangeAt_below ra hu) Try.underlying49 rfl (by kernel_rfl)) hHeld ?_
      try simp only [Act.put, List.setIfInBounds_toArray, List.set_cons_zero, List.set_cons_succ]
      refine wpAnyH_take (i := 4) (oi := ⟨some 21, _, _, _, _, _⟩) (v := .slice (some ⟨b2, x2, none⟩) n2 c2) rfl (by kernel_rfl) (by kernel_rfl) (by kernel_rfl) (fun _ _ _ h => h) (Or.inl ⟨by kernel_rfl, fun u hSu => by clear hSu; go_simp⟩) hHeld ?_
      try simp only [Act.put, List.setIfInBounds_toArray, List.set_cons_zero, List.set_cons_succ]
      refine wpAnyH_take (i := 5) (oi := ⟨some 22, _, _, _, _, _⟩) (v := .int .i64 k) rfl (by kernel_rfl) (by kernel_rfl) (by kernel_rfl) (fun _ _ _ h => h) (Or.inl ⟨by kernel_rfl, fun u hSu => by clear hSu; go_simp⟩) hHeld ?_
      try simp only [Act.put, List.setIfInBounds_toArray, List.set_cons_zero, List.set_cons_succ]
      refine wpAnyH_take (i := 6) (oi := ⟨some 23, _, _, _, _, _⟩) (v := .pointer (some ⟨b2, x2 + k * 22, none⟩)) rfl (by kernel_rfl) (by kernel_rfl) (by kernel_rfl) (fun _ _ _ h => h) (Or.inl ⟨by kernel_rfl, fun u hSu => by clear hSu; go_simp⟩) hHeld ?_
      try simp only [Act.put, List.setIfInBounds_toArray, List.set_cons_zero, List.set_cons_succ]
      refine wpAnyH_take (i := 7) (oi := ⟨some 24, _, _, _, _, _⟩) (v := .agg #[.int .i64 y.id, .int .i64 y.si, .int .i64 y.sr, .int .i64 y.cl, .int .i64 y.pt.kd, .int .i64 y.pt.wh, .int .i64 y.pt.sr, .int .i64 y.pt.tr, .int .i64 y.pt.pi, .int .i64 y.pt.le, .int .i64 y.pt.zo, .int .i64 y.gd.kd, .int .i64 y.gd.nn, .int .i64 y.ac.kd, .int .i64 y.ac.nn, .int .i64 y.ac.pi, .int .i64 y.ac.si, .int .i64 y.ac.zo, .bool y.ac.be, .slice y.ac.la y.ac.ln y.ac.lcap, .int .i64 y.un, .int .i64 y.le]) rfl (by kernel_rfl) (by kernel_rfl) (by kernel_rfl) (fun _ _ _ h => h) (yieldsIf_load_mid (by kernel_rfl) 49 (.tmp 23) rfl (b2) (x2 + k * 22) (by rfl) [.int .i64 y.id, .int .i64 y.si, .int .i64 y.sr, .int .i64 y.cl, .int .i64 y.pt.kd, .int .i64 y.pt.wh, .int .i64 y.pt.sr, .int .i64 y.pt.tr, .int .i64 y.pt.pi, .int .i64 y.pt.le, .int .i64 y.pt.zo, .int .i64 y.gd.kd, .int .i64 y.gd.nn, .int .i64 y.ac.kd, .int .i64 y.ac.nn, .int .i64 y.ac.pi, .int .i64 y.ac.si, .int .i64 y.ac.zo, .bool y.ac.be, .slice y.ac.la y.ac.ln y.ac.lcap, .int .i64 y.un, .int .i64 y.le] _ (fun u hu => rangeAt_below rb hu) Try.underlying49 rfl (by kernel_rfl)) hHeld ?_
      try simp only [Act.put, List.setIfInBounds_toArray, List.set_cons_zero, List.set_cons_succ]
      refine wpAnyH_ready (rs := [8]) (by kernel_rfl) (by simp) ?_
      refine AllReadyH.cons rfl (fun K' hK => ?_) AllReadyH.nil
      go_simp
      go_at_call 21
      refine (eqEffect_alike x y z _ (oa.grew hq) (ob.grew hq) ka kb hlk).mono ?_
      rintro e v8 ⟨rfl, hb⟩
      have hq' := below_app hq hb hq.size
      clear hq hb
      have hq := hq'
      clear hq'
      refine hK.out _ _ hq (fun hHeld => ?_)
      clear hK
      try simp only [Act.put, List.setIfInBounds_toArray, List.set_cons_zero, List.set_cons_succ]
      refine wpAnyH_take (i := 9) (oi := ⟨some 26, _, _, _, _, _⟩) (v := .bool false) rfl (by kernel_rfl) (by kernel_rfl) (by kernel_rfl) (fun _ _ _ h => h) (Or.inl ⟨by kernel_rfl, fun u hSu => by clear hSu; go_simp⟩) hHeld ?_
      try simp only [Act.put, List.setIfInBounds_toArray, List.set_cons_zero, List.set_cons_succ]
      refine wpAnyH_done (by kernel_rfl) ?_ _
      clear hHeld
      have hB := below_app hb0 hq hb0.size
      clear hq hb0 ra rb oa ob ka kb hlk
      go_wp2
      go_roundw
      case rel => first | exact ⟨k + 1, by omega, by go_num, hB⟩ | ((repeat apply Exists.intro); exact ⟨⟨k + 1, by omega, by go_num, hB⟩, rfl⟩)
      case measure => simp [intOf]; omega
    · go_wp2
      go_ret
      exact ⟨rfl, hb0⟩
end Go.Proofs.Ytodfdfncdoliiau
