/-
  Chapter 9: the program's partsOk, Parts. Written by tools/aci.gen.py. Own work.
-/
import Derived.Test.YtgaodfjmehofgasAcF
namespace Go.Proofs.Ytgaodfjmehofgas
open Go.ChangeShapes Go.WideShapes Go.ChangeAt Go.RowKit
set_option maxRecDepth 100000
set_option linter.unusedVariables false
set_option linter.unusedSimpArgs false

theorem paF_same (a : Ac) (e : Ev) (i : Nat) : paF a e i = sameE (a.es i) e.nn := rfl
set_option maxHeartbeats 4000000 in
theorem implParts_any (a : Ac) (e : Ev) (w : World) (hok : a.ok w) (hn : a.ln ≤ 1048576) : Calls Try.prog 14 #[(.agg #[.int .i64 a.kd, .int .i64 a.nn, .int .i64 a.pi, .int .i64 a.si, .int .i64 a.zo, .bool a.be, .slice a.la a.ln a.lcap]), (.agg #[.int .i64 e.kd, .int .i64 e.sr, .int .i64 e.pi, .int .i64 e.si, .int .i64 e.nn, .int .i64 e.zo, .bool e.be])] w fun r w' => ∃ q cap, r = .returned (.slice (some ⟨q, 0, none⟩) (paN a) cap) ∧ Below w.heap.size w w' ∧ OwnE evC 7 w' w.heap.size q (some ⟨q, 0, none⟩) (paN a) (paF a e) := by
  obtain ⟨i0, hi, hz0, hz1, hz2⟩ := info_parts Try.infoEv
  obtain ⟨_, _, r1, _⟩ := hok
  have hb0 := ((Below.refl _ w).alloc (Nat.le_refl _) (.cells #[.int .i64 a.kd, .int .i64 a.nn, .int .i64 a.pi, .int .i64 a.si, .int .i64 a.zo, .bool a.be, .slice a.la a.ln a.lcap] 29)).alloc (by simp) (.cells #[.int .i64 e.kd, .int .i64 e.sr, .int .i64 e.pi, .int .i64 e.si, .int .i64 e.nn, .int .i64 e.zo, .bool e.be] 36)
  have x1 := (boxR_new w 29 #[.int .i64 a.kd, .int .i64 a.nn, .int .i64 a.pi, .int .i64 a.si, .int .i64 a.zo, .bool a.be, .slice a.la a.ln a.lcap]).alloc (.cells #[.int .i64 e.kd, .int .i64 e.sr, .int .i64 e.pi, .int .i64 e.si, .int .i64 e.nn, .int .i64 e.zo, .bool e.be] 36)
  have x2 : BoxR ((w.alloc (.cells #[.int .i64 a.kd, .int .i64 a.nn, .int .i64 a.pi, .int .i64 a.si, .int .i64 a.zo, .bool a.be, .slice a.la a.ln a.lcap] 29)).alloc (.cells #[.int .i64 e.kd, .int .i64 e.sr, .int .i64 e.pi, .int .i64 e.si, .int .i64 e.nn, .int .i64 e.zo, .bool e.be] 36)) (w.heap.size + 1) 36 #[.int .i64 e.kd, .int .i64 e.sr, .int .i64 e.pi, .int .i64 e.si, .int .i64 e.nn, .int .i64 e.zo, .bool e.be] := heap_alloc2_new _ _ _
  generalize hW : (w.alloc (.cells #[.int .i64 a.kd, .int .i64 a.nn, .int .i64 a.pi, .int .i64 a.si, .int .i64 a.zo, .bool a.be, .slice a.la a.ln a.lcap] 29)).alloc (.cells #[.int .i64 e.kd, .int .i64 e.sr, .int .i64 e.pi, .int .i64 e.si, .int .i64 e.nn, .int .i64 e.zo, .bool e.be] 36) = W at hb0 x1 x2
  have hsz := hb0.size
  have c0 := x1.cell 0
  have c6 := x1.cell 6
  simp at c0 c6
  cases q9 : (a.kd == 9)
  case false =>
    have q8 : (a.kd != 9) = true := by rw [bne, q9]; rfl
    have HN : Hid (paN a = 0) := by show paN a = 0; unfold paN; simp_all
    have hown0 : (W.alloc (.cells #[] 36)).ownsRow W.heap.size 36 7 (.slice (some ⟨W.heap.size, 0, none⟩) 0 0) 0 [] := World.ownsRow_lit W #[] 0 (Nat.le_refl _) (by decide) rfl
    have ho := (own_ofE evC_len (f := paF a e) hown0 (by simp)).elim (fun g hg => by obtain ⟨cap, h1, _, h3⟩ := hg; simp at h1; obtain ⟨rfl, rfl⟩ := h1; exact h3)
    have HO : Hid (OwnE evC 7 (W.alloc (.cells #[] 36)) w.heap.size W.heap.size (some ⟨W.heap.size, 0, none⟩) 0 (paF a e)) := ⟨hsz, ho.2⟩
    have hB := hb0.alloc hb0.size (.cells #[] 36)
    clear ho hown0
    go_enter Try.func14, Try.ntmps14
    go_wp2
    go_ret
    rw [HN.out]
    first | exact ⟨_, _, rfl, hB, HO.out⟩ | exact ⟨W.heap.size, ⟨_, rfl⟩, hB, HO.out⟩
  case true =>
  have q8 : (a.kd != 9) = false := by rw [bne, q9]; rfl
  have HN : Hid (paN a = a.ln) := by show paN a = a.ln; unfold paN; simp_all
  go_enter Try.func14, Try.ntmps14
  go_wp2_with (at_make; refine wpList_make_full _ rfl _ _ 27 rfl W.heap.size 36 i0 _ 7 Try.underlying27 hi hz0 hz1 _ _ _ _ a.ln rfl rfl rfl rfl (by rw [hz2]; omega) (by unfold maxLen; omega) (Nat.le_refl _) ?_)
  intro w1 hown hgr
  have hown' : w1.ownsRow W.heap.size 36 7 (.slice (some ⟨W.heap.size, 0, none⟩) a.ln a.ln) a.ln (valsE evC a.ln (fun _ => zE)) := by rw [← made_event]; exact hown
  have hrow := row_madeE hown'
  have HR : Hid (w1.heap[W.heap.size]? = some (.cells (valsE evC a.ln (tilE 0 (paF a e) (fun _ => zE))).toArray 36 (0, 0))) := by rw [tilE_zero]; exact hrow
  have hb1 : Below W.heap.size W w1 := (Below.refl _ _).grown hgr (Nat.le_refl _) (by simp)
  have x3 := x1.grew hb1
  have d6 := x3.cell 6
  simp at d6
  clear hown hown' hgr hrow c0 c6 hW x3
  go_wp2
  go_loopw [19] (fun i wr => ∃ k : Nat, k ≤ a.ln ∧ i = .int .i64 k ∧ Below W.heap.size W wr ∧ Hid (wr.heap[W.heap.size]? = some (.cells (valsE evC a.ln (tilE k (paF a e) (fun _ => zE))).toArray 36 (0, 0)))) (fun i _ => a.ln - (intOf i).toNat)
  case atStart => exact ⟨0, Nat.zero_le _, rfl, hb1, HR⟩
  case round =>
    clear HR hb1 d6
    obtain ⟨k, hk, rfl, hb, hr⟩ := hrel
    have hB := below_app hb0 hb hsz
    by_cases hlt : k < a.ln
    · rcases r1.grew evC_ne hB with h3 | ⟨o1, hpa, h3⟩
      · omega
      rw [hpa]
      obtain ⟨k0, k1, k2, k3, k4, k5, k6⟩ : AtEv wr a.lb (o1 + k * 7) (a.es k) := AtEv_of (h3 k hlt)
      have HF : Hid (tilE (k + 1) (paF a e) (fun _ => zE) = fun i => if i = k then sameE (a.es k) e.nn else tilE k (paF a e) (fun _ => zE) i) := by
        show _ = _
        rw [← paF_same]; exact (tilE_step k (paF a e) _).symm
      generalize a.es k = x at k0 k1 k2 k3 k4 k5 k6 HF
      clear h3 hpa
      have bV := boxR_new wr 36 #[.int .i64 x.kd, .int .i64 x.sr, .int .i64 x.pi, .int .i64 x.si, .int .i64 x.nn, .int .i64 x.zo, .bool x.be]
      have hbV := below_new2' wr (.cells #[.int .i64 x.kd, .int .i64 x.sr, .int .i64 x.pi, .int .i64 x.si, .int .i64 x.nn, .int .i64 x.zo, .bool x.be] 36)
      have x4 := (x2.grew hb).alloc (.cells #[.int .i64 x.kd, .int .i64 x.sr, .int .i64 x.pi, .int .i64 x.si, .int .i64 x.nn, .int .i64 x.zo, .bool x.be] 36)
      generalize hV : wr.alloc (.cells #[.int .i64 x.kd, .int .i64 x.sr, .int .i64 x.pi, .int .i64 x.si, .int .i64 x.nn, .int .i64 x.zo, .bool x.be] 36) = V at bV hbV x4
      have hB2 := below_app hb hbV hb.size
      have e4 := x4.cell 4
      simp at e4
      have m0 := bV.cell 0
      have m1 := bV.cell 1
      have m2 := bV.cell 2
      have m3 := bV.cell 3
      have m4 := bV.cell 4
      have m5 := bV.cell 5
      have m6 := bV.cell 6
      simp at m0 m1 m2 m3 m4 m5 m6
      have y1 : (0 : Int) ≤ (k : Int) := by omega
      have y2 : (k : Int) < (a.ln : Int) := by omega
      go_wp2_with fail
      refine (withSameN_any x e.nn _).mono ?_
      rintro r w2 ⟨rfl, hb2⟩
      generalize sameE x e.nn = y at HF
      have hr2 := (hb2.block _ (lt_row ((hbV.block _ (lt_row hr.out)).trans hr.out))).trans ((hbV.block _ (lt_row hr.out)).trans hr.out)
      have ht : w2.there W.heap.size (k * 7) 7 := there_row hr2 (by simp [valsE_len evC_len]; omega)
      have hput := row_putE evC_len hr2 k y hlt
      rw [← HF.out] at hput
      have hB3 := below_app hB2 hb2 hB2.size
      have hB4 := below_setCells' (g := W.heap.size) (Nat.le_refl _) (evC y) (k * 7) w2 hB3
      generalize hU : w2.setCells W.heap.size (k * 7) (evC y) = U at hput hB4
      clear m0 m1 m2 m3 m4 m5 m6 k0 k1 k2 k3 k4 k5 k6 e4 hr hr2 hb hbV hB hB2 hB3 hb2 bV x4
      go_wp2_with (refine wpList_store_mid rfl 36 (.tmp 30) (.tmp 29) rfl W.heap.size (k * 7) #[.int .i64 y.kd, .int .i64 y.sr, .int .i64 y.pi, .int .i64 y.si, .int .i64 y.nn, .int .i64 y.zo, .bool y.be] (by first | rfl | simp [Act.eval]) rfl ht (by kernel_rfl) (by simp [Value.oneCell']) ?_; generalize hU2 : w2.setCells W.heap.size (k * 7) _ = U2; obtain rfl : U = U2 := hU.symm.trans hU2)
      have HR2 : Hid (U.heap[W.heap.size]? = some (.cells (valsE evC a.ln (tilE (k + 1) (paF a e) (fun _ => zE))).toArray 36 (0, 0))) := hput
      clear hput
      go_roundw
      case rel => first | exact ⟨k + 1, by omega, by go_num, hB4, HR2⟩ | ((repeat apply Exists.intro); exact ⟨⟨k + 1, by omega, by go_num, hB4, HR2⟩, rfl⟩)
      case measure => simp [intOf]; omega
    · obtain rfl : k = a.ln := by omega
      have hr2 := hr.out
      rw [valsE_congr evC_len (tilE_all (paF a e) (fun _ => zE) (Nat.le_refl a.ln))] at hr2
      have ho := ownE_row evC_len hr2 hsz
      clear hr hr2
      go_wp2
      go_ret
      rw [HN.out]
      first | exact ⟨W.heap.size, _, rfl, hB, ho⟩ | exact ⟨W.heap.size, ⟨_, rfl⟩, hB, ho⟩
end Go.Proofs.Ytgaodfjmehofgas
