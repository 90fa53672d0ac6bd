/-
  The specification's StateOk: its loops. Written by tools/state7.gen.py. Own work.
-/
import Derived.Test.YtnlnledijpcjpabState6
namespace Go.Proofs.Ytnlnledijpcjpab
open Go.ChangeShapes Go.WideShapes Go.ChangeAt Go.RowKit
set_option maxRecDepth 100000
set_option linter.unusedVariables false
theorem okS_ps {s : Stt} (h : psS s = false) : okS s = false := by unfold okS; rw [h]; simp
theorem okS_ss {s : Stt} (h : ssS s = false) : okS s = false := by unfold okS; rw [h]; simp
theorem okS_yes {s : Stt} (h0 : hdS s = true) (h1 : psS s = true) (h2 : ssS s = true) : okS s = true := by unfold okS; rw [h0, h1, h2]; rfl
set_option maxHeartbeats 16000000 in
theorem specStateOk_any (s : Stt) (w : World) (hok : s.ok w) (hn : s.pn ≤ 1048576) (hn2 : s.sn ≤ 1048576) : Calls Try.prog 51 #[(.agg #[.slice s.pa s.pn s.pcap, .slice s.sa s.sn s.scap, .int .i64 s.ac, .int .i64 s.cl])] w fun e w' => e = .returned (.bool (okS s)) ∧ Below w.heap.size w w' := by
  cases h0 : decide (s.pn ≤ 8) with
  | false => exact sok_0 s w hn2 h0
  | true =>
  cases h1 : ib s.sn 2 3 with
  | false => exact sok_1 s w hn2 h0 h1
  | true =>
  cases h2 : ib s.ac 0 (s.sn - 1) with
  | false => exact sok_2 s w hn2 h0 h1 h2
  | true =>
  cases h3 : ib s.cl 0 9999 with
  | false => exact sok_3 s w hn2 h0 h1 h2 h3
  | true =>
  have HH : Hid (hdS s = true) := by show hdS s = true; unfold hdS; rw [h0, h1, h2, h3]; rfl
  have g0 : decide ((8 : Int) < (s.pn : Int)) = false := decide_eq_false (by have := of_decide_eq_true h0; omega)
  obtain ⟨_, _, r1, _, _, r2, _⟩ := hok
  have hb0 := (Below.refl _ w).alloc (Nat.le_refl _) (.cells #[.slice s.pa s.pn s.pcap, .slice s.sa s.sn s.scap, .int .i64 s.ac, .int .i64 s.cl] 56)
  have x1 := boxR_new w 56 #[.slice s.pa s.pn s.pcap, .slice s.sa s.sn s.scap, .int .i64 s.ac, .int .i64 s.cl]
  generalize hW : w.alloc (.cells #[.slice s.pa s.pn s.pcap, .slice s.sa s.sn s.scap, .int .i64 s.ac, .int .i64 s.cl] 56) = W at hb0 x1
  have c0 := x1.cell 0
  have c1 := x1.cell 1
  have c2 := x1.cell 2
  have c3 := x1.cell 3
  simp at c0 c1 c2 c3
  go_enter Try.func51, Try.ntmps51
  try simp only [List.append_eq, List.cons_append, List.nil_append]
  go_wp2_with (go_at_call 83; refine (l1In_any _ _ _ _).mono ?_; rintro e w' ⟨rfl, hw'⟩; rw [hw']; clear hw' w')
  clear hW c0 c1 c2 c3 g0 h0 h1 h2 h3
  go_loopw [3] (fun i wr => ∃ k : Nat, k ≤ s.pn ∧ i = .int .i64 k ∧ Below W.heap.size W wr ∧ Hid (∀ j, j < k → pAt s j = true)) (fun i _ => s.pn - (intOf i).toNat)
  case atStart => exact ⟨0, Nat.zero_le _, rfl, Below.refl _ _, fun j hj => by omega⟩
  case round =>
    obtain ⟨k, hk, rfl, hb, hall⟩ := hrel
    have x2 := x1.grew hb
    have hB := below_app hb0 hb hb0.size
    have c0 := x2.cell 0
    have c1 := x2.cell 1
    have c3 := x2.cell 3
    simp at c0 c1 c3
    by_cases hlt : k < s.pn
    · rcases r1.grew pcC_ne hB with g1 | ⟨o1, hpa, g1⟩
      · omega
      rw [hpa] at c0
      obtain ⟨k0, k1, k2, k3, k4, k5, k6, k7, k8, k9, k10, k11, k12⟩ : At13 wr s.pb (o1 + k * 13) (s.ps k) := At13_of (g1 k hlt)
      have hnew : (wr.alloc (.cells #[.int .i64 0, .int .i64 0, .int .i64 0, .int .i64 0, .int .i64 0, .int .i64 0, .int .i64 0, .int .i64 0, .int .i64 0, .int .i64 0, .int .i64 0, .bool false, .bool false] 31)).heap[wr.heap.size]? = some (.cells #[.int .i64 0, .int .i64 0, .int .i64 0, .int .i64 0, .int .i64 0, .int .i64 0, .int .i64 0, .int .i64 0, .int .i64 0, .int .i64 0, .int .i64 0, .bool false, .bool false] 31 (0, 0)) := heap_alloc_new wr _
      have bV : BoxP ((wr.alloc (.cells #[.int .i64 0, .int .i64 0, .int .i64 0, .int .i64 0, .int .i64 0, .int .i64 0, .int .i64 0, .int .i64 0, .int .i64 0, .int .i64 0, .int .i64 0, .bool false, .bool false] 31)).setRow wr.heap.size #[.int .i64 (s.ps k).id, .int .i64 (s.ps k).ow, .int .i64 (s.ps k).si, .int .i64 (s.ps k).zo, .int .i64 (s.ps k).st, .int .i64 (s.ps k).po, .int .i64 (s.ps k).to, .int .i64 (s.ps k).tr, .int .i64 (s.ps k).pl, .int .i64 (s.ps k).mi, .int .i64 (s.ps k).ma, .bool (s.ps k).de, .bool (s.ps k).be]) wr.heap.size 31 (s.ps k) := setRow_heap _ _ _ _ _ _ hnew
      have hbV : Below wr.heap.size wr ((wr.alloc (.cells #[.int .i64 0, .int .i64 0, .int .i64 0, .int .i64 0, .int .i64 0, .int .i64 0, .int .i64 0, .int .i64 0, .int .i64 0, .int .i64 0, .int .i64 0, .bool false, .bool false] 31)).setRow wr.heap.size #[.int .i64 (s.ps k).id, .int .i64 (s.ps k).ow, .int .i64 (s.ps k).si, .int .i64 (s.ps k).zo, .int .i64 (s.ps k).st, .int .i64 (s.ps k).po, .int .i64 (s.ps k).to, .int .i64 (s.ps k).tr, .int .i64 (s.ps k).pl, .int .i64 (s.ps k).mi, .int .i64 (s.ps k).ma, .bool (s.ps k).de, .bool (s.ps k).be]) := below_setRow ((Below.refl _ _).alloc (Nat.le_refl _) _) (Nat.le_refl _) _
      have y1 : (0 : Int) ≤ (k : Int) := by omega
      have y2 : (k : Int) < (s.pn : Int) := by omega
      go_wp2_with (refine wpList_store_row rfl 31 (.tmp 4) _ rfl wr.heap.size #[.int .i64 (s.ps k).id, .int .i64 (s.ps k).ow, .int .i64 (s.ps k).si, .int .i64 (s.ps k).zo, .int .i64 (s.ps k).st, .int .i64 (s.ps k).po, .int .i64 (s.ps k).to, .int .i64 (s.ps k).tr, .int .i64 (s.ps k).pl, .int .i64 (s.ps k).mi, .int .i64 (s.ps k).ma, .bool (s.ps k).de, .bool (s.ps k).be] (by rfl) (by rfl) _ _ hnew (by kernel_rfl) (by rfl) (by simp [Value.oneCell']) ?_; generalize (wr.alloc (.cells #[.int .i64 0, .int .i64 0, .int .i64 0, .int .i64 0, .int .i64 0, .int .i64 0, .int .i64 0, .int .i64 0, .int .i64 0, .int .i64 0, .int .i64 0, .bool false, .bool false] 31)).setRow wr.heap.size #[.int .i64 (s.ps k).id, .int .i64 (s.ps k).ow, .int .i64 (s.ps k).si, .int .i64 (s.ps k).zo, .int .i64 (s.ps k).st, .int .i64 (s.ps k).po, .int .i64 (s.ps k).to, .int .i64 (s.ps k).tr, .int .i64 (s.ps k).pl, .int .i64 (s.ps k).mi, .int .i64 (s.ps k).ma, .bool (s.ps k).de, .bool (s.ps k).be] = V at bV hbV ⊢; clear hnew)
      try simp only [Act.put]
      have hne := bw_ne V
      have x3 := x2.grew hbV
      have d0 := x3.cell 0
      have d1 := x3.cell 1
      have d3 := x3.cell 3
      simp at d0 d1 d3
      rw [hpa] at d0
      have s0 := fun u : BW V => u.cell d0
      have s1 := fun u : BW V => u.cell d1
      have s3 := fun u : BW V => u.cell d3
      have hBV := below_app hb hbV hb.size
      have HA : Hid (∀ j, j < s.pn → ∀ v, (pcC (s.ps j))[0]? = some v → V.cell? ⟨s.pb, o1 + j * 13, none⟩ = some v) := fun j hj v hv => (hbV.cell (p := ⟨s.pb, o1 + j * 13, none⟩) (World.block_lt_of_cell? wr _ (g1 j hj 0 v hv))).trans (g1 j hj 0 v hv)
      clear k0 k1 k2 k3 k4 k5 k6 k7 k8 k9 k10 k11 k12 c0 c1 c3 d0 d1 d3 x2 g1
      obtain ⟨k0, k1, k2, k3, k4, k5, k6, k7, k8, k9, k10, k11, k12⟩ : Cells13 _ _ _ := bV.cells
      have p0 := fun u : BW V => u.cell k0
      have p1 := fun u : BW V => u.cell k1
      have p2 := fun u : BW V => u.cell k2
      have p3 := fun u : BW V => u.cell k3
      have p4 := fun u : BW V => u.cell k4
      have p5 := fun u : BW V => u.cell k5
      have p6 := fun u : BW V => u.cell k6
      have p7 := fun u : BW V => u.cell k7
      have p8 := fun u : BW V => u.cell k8
      have p9 := fun u : BW V => u.cell k9
      have p10 := fun u : BW V => u.cell k10
      have p11 := fun u : BW V => u.cell k11
      have p12 := fun u : BW V => u.cell k12
      clear k0 k1 k2 k3 k4 k5 k6 k7 k8 k9 k10 k11 k12 bV
      cases hpk : okP (s.ps k) with
      | false =>
        have HN : Hid (okS s = false) := okS_ps (all_no hlt (by unfold pAt; rw [hpk]; rfl))
        have HPK : Hid (∀ u, Calls Try.prog 28 #[(.agg #[.int .i64 (s.ps k).id, .int .i64 (s.ps k).ow, .int .i64 (s.ps k).si, .int .i64 (s.ps k).zo, .int .i64 (s.ps k).st, .int .i64 (s.ps k).po, .int .i64 (s.ps k).to, .int .i64 (s.ps k).tr, .int .i64 (s.ps k).pl, .int .i64 (s.ps k).mi, .int .i64 (s.ps k).ma, .bool (s.ps k).de, .bool (s.ps k).be])] u fun e w' => e = .returned (.bool false) ∧ Below u.heap.size u w') := fun u => by have := specPieceOk_any (s.ps k) u; rwa [hpk] at this
        refine wp_region_below_lit (W := V) 42 (by kernel_rfl) (by kernel_rfl) (by decide) (Below.refl _ _) (by intro c d v a w h; cases d <;> exact h) ?_
        simp only [List.take_succ_cons, List.take_zero, List.drop_succ_cons, List.drop_zero]
        repeat (go_big_quiet_step ((go_at_call 28; refine quiet_below (HPK.out _))))
        refine wpQuiet_nil ?_
        rintro _ ⟨u, rfl⟩
        have hBu := below_app hBV u.h hBV.size
        clear s0 s1 s3 hne p0 p1 p2 p3 p4 p5 p6 p7 p8 p9 p10 p11 p12
        go_wp2
        go_ret
        exact ⟨ret_bool' HN.out.symm, below_app hb0 hBu hb0.size⟩
      | true =>
      cases k with
      | zero =>
        by_cases how : (s.sn : Int) ≤ (s.ps 0).ow
        · have HN : Hid (okS s = false) := okS_ps (all_no hlt (by unfold pAt; rw [decide_eq_false (show ¬ ((s.ps 0).ow < s.sn) by omega)]; simp))
          have HPK : Hid (∀ u, Calls Try.prog 28 #[(.agg #[.int .i64 (s.ps 0).id, .int .i64 (s.ps 0).ow, .int .i64 (s.ps 0).si, .int .i64 (s.ps 0).zo, .int .i64 (s.ps 0).st, .int .i64 (s.ps 0).po, .int .i64 (s.ps 0).to, .int .i64 (s.ps 0).tr, .int .i64 (s.ps 0).pl, .int .i64 (s.ps 0).mi, .int .i64 (s.ps 0).ma, .bool (s.ps 0).de, .bool (s.ps 0).be])] u fun e w' => e = .returned (.bool true) ∧ Below u.heap.size u w') := fun u => by have := specPieceOk_any (s.ps 0) u; rwa [hpk] at this
          refine wp_region_below_lit (W := V) 42 (by kernel_rfl) (by kernel_rfl) (by decide) (Below.refl _ _) (by intro c d v a w h; cases d <;> exact h) ?_
          simp only [List.take_succ_cons, List.take_zero, List.drop_succ_cons, List.drop_zero]
          repeat (go_big_quiet_step ((go_at_call 28; refine quiet_below (HPK.out _))))
          refine wpQuiet_nil ?_
          rintro _ ⟨u, rfl⟩
          have hBu := below_app hBV u.h hBV.size
          clear s0 s1 s3 hne p0 p1 p2 p3 p4 p5 p6 p7 p8 p9 p10 p11 p12
          go_wp2
          go_ret
          exact ⟨ret_bool' HN.out.symm, below_app hb0 hBu hb0.size⟩
        have how' : decide ((s.sn : Int) ≤ (s.ps 0).ow) = false := decide_eq_false how
        by_cases hsi : (s.sn : Int) ≤ (s.ps 0).si
        · have HN : Hid (okS s = false) := okS_ps (all_no hlt (by unfold pAt; rw [decide_eq_false (show ¬ ((s.ps 0).si < s.sn) by omega)]; simp))
          have HPK : Hid (∀ u, Calls Try.prog 28 #[(.agg #[.int .i64 (s.ps 0).id, .int .i64 (s.ps 0).ow, .int .i64 (s.ps 0).si, .int .i64 (s.ps 0).zo, .int .i64 (s.ps 0).st, .int .i64 (s.ps 0).po, .int .i64 (s.ps 0).to, .int .i64 (s.ps 0).tr, .int .i64 (s.ps 0).pl, .int .i64 (s.ps 0).mi, .int .i64 (s.ps 0).ma, .bool (s.ps 0).de, .bool (s.ps 0).be])] u fun e w' => e = .returned (.bool true) ∧ Below u.heap.size u w') := fun u => by have := specPieceOk_any (s.ps 0) u; rwa [hpk] at this
          refine wp_region_below_lit (W := V) 42 (by kernel_rfl) (by kernel_rfl) (by decide) (Below.refl _ _) (by intro c d v a w h; cases d <;> exact h) ?_
          simp only [List.take_succ_cons, List.take_zero, List.drop_succ_cons, List.drop_zero]
          repeat (go_big_quiet_step ((go_at_call 28; refine quiet_below (HPK.out _))))
          refine wpQuiet_nil ?_
          rintro _ ⟨u, rfl⟩
          have hBu := below_app hBV u.h hBV.size
          clear s0 s1 s3 hne p0 p1 p2 p3 p4 p5 p6 p7 p8 p9 p10 p11 p12
          go_wp2
          go_ret
          exact ⟨ret_bool' HN.out.symm, below_app hb0 hBu hb0.size⟩
        have hsi' : decide ((s.sn : Int) ≤ (s.ps 0).si) = false := decide_eq_false hsi
        by_cases hst : s.cl < (s.ps 0).st
        · have HN : Hid (okS s = false) := okS_ps (all_no hlt (by unfold pAt; rw [decide_eq_false (show ¬ ((s.ps 0).st ≤ s.cl) by omega)]; simp))
          have HPK : Hid (∀ u, Calls Try.prog 28 #[(.agg #[.int .i64 (s.ps 0).id, .int .i64 (s.ps 0).ow, .int .i64 (s.ps 0).si, .int .i64 (s.ps 0).zo, .int .i64 (s.ps 0).st, .int .i64 (s.ps 0).po, .int .i64 (s.ps 0).to, .int .i64 (s.ps 0).tr, .int .i64 (s.ps 0).pl, .int .i64 (s.ps 0).mi, .int .i64 (s.ps 0).ma, .bool (s.ps 0).de, .bool (s.ps 0).be])] u fun e w' => e = .returned (.bool true) ∧ Below u.heap.size u w') := fun u => by have := specPieceOk_any (s.ps 0) u; rwa [hpk] at this
          refine wp_region_below_lit (W := V) 42 (by kernel_rfl) (by kernel_rfl) (by decide) (Below.refl _ _) (by intro c d v a w h; cases d <;> exact h) ?_
          simp only [List.take_succ_cons, List.take_zero, List.drop_succ_cons, List.drop_zero]
          repeat (go_big_quiet_step ((go_at_call 28; refine quiet_below (HPK.out _))))
          refine wpQuiet_nil ?_
          rintro _ ⟨u, rfl⟩
          have hBu := below_app hBV u.h hBV.size
          clear s0 s1 s3 hne p0 p1 p2 p3 p4 p5 p6 p7 p8 p9 p10 p11 p12
          go_wp2
          go_ret
          exact ⟨ret_bool' HN.out.symm, below_app hb0 hBu hb0.size⟩
        have hst' : decide (s.cl < (s.ps 0).st) = false := decide_eq_false hst
        have HK : Hid (pAt s 0 = true) := by show pAt s 0 = true; unfold pAt; rw [hpk, decide_eq_true (rfl : (0 : Nat) = 0), decide_eq_true (show (s.ps 0).ow < s.sn by omega), decide_eq_true (show (s.ps 0).si < s.sn by omega), decide_eq_true (show (s.ps 0).st ≤ s.cl by omega)]; simp
        clear how hsi hst
        have HPK : Hid (∀ u, Calls Try.prog 28 #[(.agg #[.int .i64 (s.ps 0).id, .int .i64 (s.ps 0).ow, .int .i64 (s.ps 0).si, .int .i64 (s.ps 0).zo, .int .i64 (s.ps 0).st, .int .i64 (s.ps 0).po, .int .i64 (s.ps 0).to, .int .i64 (s.ps 0).tr, .int .i64 (s.ps 0).pl, .int .i64 (s.ps 0).mi, .int .i64 (s.ps 0).ma, .bool (s.ps 0).de, .bool (s.ps 0).be])] u fun e w' => e = .returned (.bool true) ∧ Below u.heap.size u w') := fun u => by have := specPieceOk_any (s.ps 0) u; rwa [hpk] at this
        refine wp_region_below_lit (W := V) 42 (by kernel_rfl) (by kernel_rfl) (by decide) (Below.refl _ _) (by intro c d v a w h; cases d <;> exact h) ?_
        simp only [List.take_succ_cons, List.take_zero, List.drop_succ_cons, List.drop_zero]
        repeat (go_big_quiet_step ((go_at_call 28; refine quiet_below (HPK.out _))))
        refine wpQuiet_nil ?_
        rintro _ ⟨u, rfl⟩
        have hBu := below_app hBV u.h hBV.size
        have HA2 : Hid (∀ j, j < 0 + 1 → pAt s j = true) := fun j hj => by
          by_cases e : j = 0
          · subst e; exact HK.out
          · exact hall.out j (by omega)
        clear s0 s1 s3 hne how' hsi' hst' HK hall p0 p1 p2 p3 p4 p5 p6 p7 p8 p9 p10 p11 p12
        go_wp2
        go_roundw
        case rel => first | exact ⟨0 + 1, by omega, by go_num, hBu, HA2⟩ | ((repeat apply Exists.intro); exact ⟨⟨0 + 1, by omega, by go_num, hBu, HA2⟩, rfl⟩)
        case measure => simp [intOf]; omega
      | succ k' =>
        have hpid := HA.out k' (by omega) _ rfl
        have pq := fun u : BW V => u.cell hpid
        clear hpid
        have y3 : (0 : Int) < ((k' + 1 : Nat) : Int) := by omega
        by_cases hid : (s.ps (k' + 1)).id ≤ (s.ps k').id
        · have HN : Hid (okS s = false) := okS_ps (all_no hlt (by unfold pAt; rw [show (decide (k' + 1 = 0) || decide ((s.ps (k' + 1 - 1)).id < (s.ps (k' + 1)).id)) = false by simp; omega]; simp))
          have HPK : Hid (∀ u, Calls Try.prog 28 #[(.agg #[.int .i64 (s.ps (k' + 1)).id, .int .i64 (s.ps (k' + 1)).ow, .int .i64 (s.ps (k' + 1)).si, .int .i64 (s.ps (k' + 1)).zo, .int .i64 (s.ps (k' + 1)).st, .int .i64 (s.ps (k' + 1)).po, .int .i64 (s.ps (k' + 1)).to, .int .i64 (s.ps (k' + 1)).tr, .int .i64 (s.ps (k' + 1)).pl, .int .i64 (s.ps (k' + 1)).mi, .int .i64 (s.ps (k' + 1)).ma, .bool (s.ps (k' + 1)).de, .bool (s.ps (k' + 1)).be])] u fun e w' => e = .returned (.bool true) ∧ Below u.heap.size u w') := fun u => by have := specPieceOk_any (s.ps (k' + 1)) u; rwa [hpk] at this
          refine wp_region_below_lit (W := V) 42 (by kernel_rfl) (by kernel_rfl) (by decide) (Below.refl _ _) (by intro c d v a w h; cases d <;> exact h) ?_
          simp only [List.take_succ_cons, List.take_zero, List.drop_succ_cons, List.drop_zero]
          repeat (go_big_quiet_step ((go_at_call 28; refine quiet_below (HPK.out _))))
          refine wpQuiet_nil ?_
          rintro _ ⟨u, rfl⟩
          have hBu := below_app hBV u.h hBV.size
          clear s0 s1 s3 hne pq p0 p1 p2 p3 p4 p5 p6 p7 p8 p9 p10 p11 p12
          go_wp2
          go_ret
          exact ⟨ret_bool' HN.out.symm, below_app hb0 hBu hb0.size⟩
        have hid' : decide ((s.ps (k' + 1)).id ≤ (s.ps k').id) = false := decide_eq_false hid
        have HI : Hid ((decide (k' + 1 = 0) || decide ((s.ps (k' + 1 - 1)).id < (s.ps (k' + 1)).id)) = true) := by show _ = true; simp; omega
        clear hid
        by_cases how : (s.sn : Int) ≤ (s.ps (k' + 1)).ow
        · have HN : Hid (okS s = false) := okS_ps (all_no hlt (by unfold pAt; rw [decide_eq_false (show ¬ ((s.ps (k' + 1)).ow < s.sn) by omega)]; simp))
          have HPK : Hid (∀ u, Calls Try.prog 28 #[(.agg #[.int .i64 (s.ps (k' + 1)).id, .int .i64 (s.ps (k' + 1)).ow, .int .i64 (s.ps (k' + 1)).si, .int .i64 (s.ps (k' + 1)).zo, .int .i64 (s.ps (k' + 1)).st, .int .i64 (s.ps (k' + 1)).po, .int .i64 (s.ps (k' + 1)).to, .int .i64 (s.ps (k' + 1)).tr, .int .i64 (s.ps (k' + 1)).pl, .int .i64 (s.ps (k' + 1)).mi, .int .i64 (s.ps (k' + 1)).ma, .bool (s.ps (k' + 1)).de, .bool (s.ps (k' + 1)).be])] u fun e w' => e = .returned (.bool true) ∧ Below u.heap.size u w') := fun u => by have := specPieceOk_any (s.ps (k' + 1)) u; rwa [hpk] at this
          refine wp_region_below_lit (W := V) 42 (by kernel_rfl) (by kernel_rfl) (by decide) (Below.refl _ _) (by intro c d v a w h; cases d <;> exact h) ?_
          simp only [List.take_succ_cons, List.take_zero, List.drop_succ_cons, List.drop_zero]
          repeat (go_big_quiet_step ((go_at_call 28; refine quiet_below (HPK.out _))))
          refine wpQuiet_nil ?_
          rintro _ ⟨u, rfl⟩
          have hBu := below_app hBV u.h hBV.size
          clear s0 s1 s3 hne p0 p1 p2 p3 p4 p5 p6 p7 p8 p9 p10 p11 p12
          go_wp2
          go_ret
          exact ⟨ret_bool' HN.out.symm, below_app hb0 hBu hb0.size⟩
        have how' : decide ((s.sn : Int) ≤ (s.ps (k' + 1)).ow) = false := decide_eq_false how
        by_cases hsi : (s.sn : Int) ≤ (s.ps (k' + 1)).si
        · have HN : Hid (okS s = false) := okS_ps (all_no hlt (by unfold pAt; rw [decide_eq_false (show ¬ ((s.ps (k' + 1)).si < s.sn) by omega)]; simp))
          have HPK : Hid (∀ u, Calls Try.prog 28 #[(.agg #[.int .i64 (s.ps (k' + 1)).id, .int .i64 (s.ps (k' + 1)).ow, .int .i64 (s.ps (k' + 1)).si, .int .i64 (s.ps (k' + 1)).zo, .int .i64 (s.ps (k' + 1)).st, .int .i64 (s.ps (k' + 1)).po, .int .i64 (s.ps (k' + 1)).to, .int .i64 (s.ps (k' + 1)).tr, .int .i64 (s.ps (k' + 1)).pl, .int .i64 (s.ps (k' + 1)).mi, .int .i64 (s.ps (k' + 1)).ma, .bool (s.ps (k' + 1)).de, .bool (s.ps (k' + 1)).be])] u fun e w' => e = .returned (.bool true) ∧ Below u.heap.size u w') := fun u => by have := specPieceOk_any (s.ps (k' + 1)) u; rwa [hpk] at this
          refine wp_region_below_lit (W := V) 42 (by kernel_rfl) (by kernel_rfl) (by decide) (Below.refl _ _) (by intro c d v a w h; cases d <;> exact h) ?_
          simp only [List.take_succ_cons, List.take_zero, List.drop_succ_cons, List.drop_zero]
          repeat (go_big_quiet_step ((go_at_call 28; refine quiet_below (HPK.out _))))
          refine wpQuiet_nil ?_
          rintro _ ⟨u, rfl⟩
          have hBu := below_app hBV u.h hBV.size
          clear s0 s1 s3 hne p0 p1 p2 p3 p4 p5 p6 p7 p8 p9 p10 p11 p12
          go_wp2
          go_ret
          exact ⟨ret_bool' HN.out.symm, below_app hb0 hBu hb0.size⟩
        have hsi' : decide ((s.sn : Int) ≤ (s.ps (k' + 1)).si) = false := decide_eq_false hsi
        by_cases hst : s.cl < (s.ps (k' + 1)).st
        · have HN : Hid (okS s = false) := okS_ps (all_no hlt (by unfold pAt; rw [decide_eq_false (show ¬ ((s.ps (k' + 1)).st ≤ s.cl) by omega)]; simp))
          have HPK : Hid (∀ u, Calls Try.prog 28 #[(.agg #[.int .i64 (s.ps (k' + 1)).id, .int .i64 (s.ps (k' + 1)).ow, .int .i64 (s.ps (k' + 1)).si, .int .i64 (s.ps (k' + 1)).zo, .int .i64 (s.ps (k' + 1)).st, .int .i64 (s.ps (k' + 1)).po, .int .i64 (s.ps (k' + 1)).to, .int .i64 (s.ps (k' + 1)).tr, .int .i64 (s.ps (k' + 1)).pl, .int .i64 (s.ps (k' + 1)).mi, .int .i64 (s.ps (k' + 1)).ma, .bool (s.ps (k' + 1)).de, .bool (s.ps (k' + 1)).be])] u fun e w' => e = .returned (.bool true) ∧ Below u.heap.size u w') := fun u => by have := specPieceOk_any (s.ps (k' + 1)) u; rwa [hpk] at this
          refine wp_region_below_lit (W := V) 42 (by kernel_rfl) (by kernel_rfl) (by decide) (Below.refl _ _) (by intro c d v a w h; cases d <;> exact h) ?_
          simp only [List.take_succ_cons, List.take_zero, List.drop_succ_cons, List.drop_zero]
          repeat (go_big_quiet_step ((go_at_call 28; refine quiet_below (HPK.out _))))
          refine wpQuiet_nil ?_
          rintro _ ⟨u, rfl⟩
          have hBu := below_app hBV u.h hBV.size
          clear s0 s1 s3 hne p0 p1 p2 p3 p4 p5 p6 p7 p8 p9 p10 p11 p12
          go_wp2
          go_ret
          exact ⟨ret_bool' HN.out.symm, below_app hb0 hBu hb0.size⟩
        have hst' : decide (s.cl < (s.ps (k' + 1)).st) = false := decide_eq_false hst
        have HK : Hid (pAt s (k' + 1) = true) := by show pAt s (k' + 1) = true; unfold pAt; rw [hpk, HI.out, decide_eq_true (show (s.ps (k' + 1)).ow < s.sn by omega), decide_eq_true (show (s.ps (k' + 1)).si < s.sn by omega), decide_eq_true (show (s.ps (k' + 1)).st ≤ s.cl by omega)]; simp
        clear how hsi hst
        have HPK : Hid (∀ u, Calls Try.prog 28 #[(.agg #[.int .i64 (s.ps (k' + 1)).id, .int .i64 (s.ps (k' + 1)).ow, .int .i64 (s.ps (k' + 1)).si, .int .i64 (s.ps (k' + 1)).zo, .int .i64 (s.ps (k' + 1)).st, .int .i64 (s.ps (k' + 1)).po, .int .i64 (s.ps (k' + 1)).to, .int .i64 (s.ps (k' + 1)).tr, .int .i64 (s.ps (k' + 1)).pl, .int .i64 (s.ps (k' + 1)).mi, .int .i64 (s.ps (k' + 1)).ma, .bool (s.ps (k' + 1)).de, .bool (s.ps (k' + 1)).be])] u fun e w' => e = .returned (.bool true) ∧ Below u.heap.size u w') := fun u => by have := specPieceOk_any (s.ps (k' + 1)) u; rwa [hpk] at this
        refine wp_region_below_lit (W := V) 42 (by kernel_rfl) (by kernel_rfl) (by decide) (Below.refl _ _) (by intro c d v a w h; cases d <;> exact h) ?_
        simp only [List.take_succ_cons, List.take_zero, List.drop_succ_cons, List.drop_zero]
        repeat (go_big_quiet_step ((go_at_call 28; refine quiet_below (HPK.out _))))
        refine wpQuiet_nil ?_
        rintro _ ⟨u, rfl⟩
        have hBu := below_app hBV u.h hBV.size
        have HA2 : Hid (∀ j, j < (k' + 1) + 1 → pAt s j = true) := fun j hj => by
          by_cases e : j = (k' + 1)
          · subst e; exact HK.out
          · exact hall.out j (by omega)
        clear s0 s1 s3 hne how' hsi' hst' HK hall p0 p1 p2 p3 p4 p5 p6 p7 p8 p9 p10 p11 p12
        go_wp2
        go_roundw
        case rel => first | exact ⟨(k' + 1) + 1, by omega, by go_num, hBu, HA2⟩ | ((repeat apply Exists.intro); exact ⟨⟨(k' + 1) + 1, by omega, by go_num, hBu, HA2⟩, rfl⟩)
        case measure => simp [intOf]; omega
    · obtain rfl : k = s.pn := by omega
      have HP : Hid (psS s = true) := all_yes hall.out
      clear hall
      go_wp2
      go_loopw [5] (fun i wq => ∃ j : Nat, j ≤ s.sn ∧ i = .int .i64 j ∧ Below wr.heap.size wr wq ∧ Hid (∀ m, m < j → okSd (s.ss m) = true)) (fun i _ => s.sn - (intOf i).toNat)
      case atStart => exact ⟨0, Nat.zero_le _, rfl, Below.refl _ _, fun j hj => by omega⟩
      case round =>
        clear c0 c1 c3
        obtain ⟨j, hj, rfl, hbq, hall⟩ := hrel
        have x3 := x2.grew hbq
        have hB2 := below_app hB hbq hB.size
        have c1 := x3.cell 1
        simp at c1
        by_cases hlj : j < s.sn
        · rcases r2.grew sdC_ne hB2 with g2 | ⟨o2, hsa, g2⟩
          · omega
          rw [hsa] at c1
          clear hsa
          obtain ⟨k0, k1, k2⟩ : At3 _ s.sb (o2 + j * 3) (s.ss j) := At3_of (g2 j hlj)
          have y1 : (0 : Int) ≤ (j : Int) := by omega
          have y2 : (j : Int) < (s.sn : Int) := by omega
          go_wp2_with fail
          refine (l5Side_any (s.ss j) _).mono ?_
          rintro e w3 ⟨rfl, hb3⟩
          clear k0 k1 k2 c1
          cases hs : okSd (s.ss j) with
          | false =>
            have HN : Hid (okS s = false) := okS_ss (all_no hlj hs)
            go_wp2
            go_ret
            exact ⟨ret_bool' HN.out.symm, below_app hB2 hb3 hB2.size⟩
          | true =>
            have HA2 : Hid (∀ m, m < j + 1 → okSd (s.ss m) = true) := fun m hm => by
              by_cases e : m = j
              · subst e; exact hs
              · exact hall.out m (by omega)
            have hb4 := below_app hbq hb3 hbq.size
            clear hall hs hbq hb3
            go_wp2
            go_roundw
            case rel => first | exact ⟨j + 1, by omega, by go_num, hb4, HA2⟩ | ((repeat apply Exists.intro); exact ⟨⟨j + 1, by omega, by go_num, hb4, HA2⟩, rfl⟩)
            case measure => simp [intOf]; omega
        · obtain rfl : j = s.sn := by omega
          have HN : Hid (okS s = true) := okS_yes HH.out HP.out (all_yes hall.out)
          clear hall
          go_wp2
          go_ret
          exact ⟨ret_bool' HN.out.symm, hB2⟩
end Go.Proofs.Ytnlnledijpcjpab
