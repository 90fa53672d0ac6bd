/-
  Chapter 5: the specification's SameState. Own work.
-/
import Derived.Test.YtnlnledijpcjpabStSame
import Derived.Test.YtnlnledijpcjpabState5
import Derived.Laws.CopyRow
import Derived.Lib.SlBuf
namespace Go.Proofs.Ytnlnledijpcjpab
open Go.ChangeShapes Go.WideShapes Go.ChangeAt Go.RowKit
set_option maxRecDepth 100000
set_option linter.unusedVariables false
set_option maxHeartbeats 8000000 in
theorem specSameState_any (s t : Stt) (w : World) (hs : s.ok w) (ht : t.ok w) (hn : s.pn ≤ 1048577) (hn2 : s.sn ≤ 1048577) (hm : t.pn ≤ 1048577) (hm2 : t.sn ≤ 1048577) : Calls Try.prog 53 #[(.agg #[.slice s.pa s.pn s.pcap, .slice s.sa s.sn s.scap, .int .i64 s.ac, .int .i64 s.cl]), (.agg #[.slice t.pa t.pn t.pcap, .slice t.sa t.sn t.scap, .int .i64 t.ac, .int .i64 t.cl])] w fun e w' => e = .returned (.bool (smS s t)) ∧ Below w.heap.size w w' := by
  obtain ⟨_, _, r1, _, _, r2, _⟩ := hs
  obtain ⟨_, _, u1, _, _, u2, _⟩ := ht
  have hb0 := ((Below.refl _ w).alloc (Nat.le_refl _) (.cells #[.slice s.pa s.pn s.pcap, .slice s.sa s.sn s.scap, .int .i64 s.ac, .int .i64 s.cl] 56)).alloc (by simp) (.cells #[.slice t.pa t.pn t.pcap, .slice t.sa t.sn t.scap, .int .i64 t.ac, .int .i64 t.cl] 56)
  have x1 := (boxR_new w 56 #[.slice s.pa s.pn s.pcap, .slice s.sa s.sn s.scap, .int .i64 s.ac, .int .i64 s.cl]).alloc (.cells #[.slice t.pa t.pn t.pcap, .slice t.sa t.sn t.scap, .int .i64 t.ac, .int .i64 t.cl] 56)
  have x2 : BoxR ((w.alloc (.cells #[.slice s.pa s.pn s.pcap, .slice s.sa s.sn s.scap, .int .i64 s.ac, .int .i64 s.cl] 56)).alloc (.cells #[.slice t.pa t.pn t.pcap, .slice t.sa t.sn t.scap, .int .i64 t.ac, .int .i64 t.cl] 56)) (w.heap.size + 1) 56 #[.slice t.pa t.pn t.pcap, .slice t.sa t.sn t.scap, .int .i64 t.ac, .int .i64 t.cl] := heap_alloc2_new _ _ _
  generalize hW : (w.alloc (.cells #[.slice s.pa s.pn s.pcap, .slice s.sa s.sn s.scap, .int .i64 s.ac, .int .i64 s.cl] 56)).alloc (.cells #[.slice t.pa t.pn t.pcap, .slice t.sa t.sn t.scap, .int .i64 t.ac, .int .i64 t.cl] 56) = W at hb0 x1 x2
  have c0 := x1.cell 0
  have c1 := x1.cell 1
  have c2 := x1.cell 2
  have c3 := x1.cell 3
  have d0 := x2.cell 0
  have d1 := x2.cell 1
  have d2 := x2.cell 2
  have d3 := x2.cell 3
  simp at c0 c1 c2 c3 d0 d1 d2 d3
  by_cases e1 : s.pn = t.pn
  rotate_left
  · have HN : Hid (smS s t = false) := by show smS s t = false; unfold smS eqR; rw [decide_eq_false e1]; simp
    have q1 : ((s.pn : Int) == (t.pn : Int)) = false := by simp; omega
    have q2 : ((s.pn : Int) != (t.pn : Int)) = true := by simp; omega
    clear e1
    go_enter Try.func53, Try.ntmps53
    try simp only [List.append_eq, List.cons_append, List.nil_append]
    go_wp2
    go_ret
    exact ⟨ret_bool' HN.out.symm, hb0⟩
  have q1 : ((s.pn : Int) == (t.pn : Int)) = true := by simp; omega
  have q2 : ((s.pn : Int) != (t.pn : Int)) = false := by simp; omega
  by_cases e2 : s.sn = t.sn
  rotate_left
  · have HN : Hid (smS s t = false) := by show smS s t = false; unfold smS eqD; rw [decide_eq_false e2]; simp
    have q3 : ((s.sn : Int) == (t.sn : Int)) = false := by simp; omega
    have q4 : ((s.sn : Int) != (t.sn : Int)) = true := by simp; omega
    clear e1 e2
    go_enter Try.func53, Try.ntmps53
    try simp only [List.append_eq, List.cons_append, List.nil_append]
    go_wp2
    go_ret
    exact ⟨ret_bool' HN.out.symm, hb0⟩
  have q3 : ((s.sn : Int) == (t.sn : Int)) = true := by simp; omega
  have q4 : ((s.sn : Int) != (t.sn : Int)) = false := by simp; omega
  by_cases e3 : s.ac = t.ac
  rotate_left
  · have HN : Hid (smS s t = false) := by show smS s t = false; unfold smS; rw [decide_eq_false e3]; simp
    have q5 : (s.ac == t.ac) = false := by simpa using e3
    have q6 : (s.ac != t.ac) = true := by simpa using e3
    clear e1 e2 e3
    go_enter Try.func53, Try.ntmps53
    try simp only [List.append_eq, List.cons_append, List.nil_append]
    go_wp2
    go_ret
    exact ⟨ret_bool' HN.out.symm, hb0⟩
  have q5 : (s.ac == t.ac) = true := by simpa using e3
  have q6 : (s.ac != t.ac) = false := by simpa using e3
  by_cases e4 : s.cl = t.cl
  rotate_left
  · have HN : Hid (smS s t = false) := by show smS s t = false; unfold smS; rw [decide_eq_false e4]; simp
    have q7 : (s.cl == t.cl) = false := by simpa using e4
    have q8 : (s.cl != t.cl) = true := by simpa using e4
    clear e1 e2 e3 e4
    go_enter Try.func53, Try.ntmps53
    try simp only [List.append_eq, List.cons_append, List.nil_append]
    go_wp2
    go_ret
    exact ⟨ret_bool' HN.out.symm, hb0⟩
  have q7 : (s.cl == t.cl) = true := by simpa using e4
  have q8 : (s.cl != t.cl) = false := by simpa using e4
  have HE : Hid (s.pn = t.pn ∧ s.sn = t.sn ∧ s.ac = t.ac ∧ s.cl = t.cl) := show _ ∧ _ from ⟨e1, e2, e3, e4⟩
  clear e1 e2 e3 e4
  go_enter Try.func53, Try.ntmps53
  try simp only [List.append_eq, List.cons_append, List.nil_append]
  go_wp2
  clear hW c0 c1 c2 c3 d0 d1 d2 d3 q1 q2 q3 q4 q5 q6 q7 q8
  go_loopw [5] (fun i wr => ∃ k : Nat, k ≤ s.pn ∧ i = .int .i64 k ∧ Below W.heap.size W wr ∧ Hid (∀ j, j < k → smP (s.ps j) (t.ps j) = true)) (fun i _ => s.pn - (intOf i).toNat)
  case atStart => exact ⟨0, Nat.zero_le _, rfl, Below.refl _ _, fun j hj => by omega⟩
  case round =>
    obtain ⟨k, hk, rfl, hb, hall⟩ := hrel
    have hB := below_app hb0 hb hb0.size
    have z1 := x1.grew hb
    have z2 := x2.grew hb
    have c0 := z1.cell 0
    have d0 := z2.cell 0
    simp at c0 d0
    by_cases hlt : k < s.pn
    · have hlt2 : k < t.pn := by have := HE.out.1; omega
      rcases r1.grew pcC_ne hB with g1 | ⟨o1, hpa, g1⟩
      · omega
      rcases u1.grew pcC_ne hB with g2 | ⟨o2, hpb, g2⟩
      · omega
      rw [hpa] at c0
      rw [hpb] at d0
      obtain ⟨k0, k1, k2, k3, k4, k5, k6, k7, k8, k9, k10, k11, k12⟩ : At13 wr s.pb (o1 + k * 13) (s.ps k) := At13_of (g1 k hlt)
      obtain ⟨j0, j1, j2, j3, j4, j5, j6, j7, j8, j9, j10, j11, j12⟩ : At13 wr t.pb (o2 + k * 13) (t.ps k) := At13_of (g2 k hlt2)
      have y1 : (0 : Int) ≤ (k : Int) := by omega
      have y2 : (k : Int) < (s.pn : Int) := by omega
      have y3 : (k : Int) < (t.pn : Int) := by omega
      have heq0 := run_eq_pc (s.ps k) (t.ps k)
      clear g1 g2 hpa hpb
      cases hs : smP (s.ps k) (t.ps k) with
      | true =>
        have HA : Hid (∀ j, j < k + 1 → smP (s.ps j) (t.ps j) = true) := fun j hj => by
          by_cases e : j = k
          · subst e; exact hs
          · exact hall.out j (by omega)
        rw [hs] at heq0
        clear hall hs
        go_wp2
        go_quiet (fail)
        go_wp2
        go_roundw
        case rel => first | exact ⟨k + 1, by omega, by go_num, below_drewN hb _, HA⟩ | ((repeat apply Exists.intro); exact ⟨⟨k + 1, by omega, by go_num, below_drewN hb _, HA⟩, rfl⟩)
        case measure => simp [intOf]; omega
      | false =>
        have HN : Hid (smS s t = false) := by show smS s t = false; unfold smS eqR; rw [allf_no (f := fun i => smP (s.ps i) (t.ps i)) hlt hs]; simp
        rw [hs] at heq0
        clear hall hs
        go_wp2
        go_quiet (fail)
        go_wp2
        go_ret
        exact ⟨ret_bool' HN.out.symm, below_drewN hB _⟩
    · obtain rfl : k = s.pn := by omega
      have HP : Hid (eqR s.pn t.pn s.ps t.ps = true) := by show eqR s.pn t.pn s.ps t.ps = true; unfold eqR; rw [allf_yes (f := fun i => smP (s.ps i) (t.ps i)) hall.out, decide_eq_true HE.out.1]; rfl
      clear hall
      go_wp2
      clear c0 d0
      go_loopw [6] (fun i wq => ∃ k : Nat, k ≤ s.sn ∧ i = .int .i64 k ∧ Below wr.heap.size wr wq ∧ Hid (∀ j, j < k → smD (s.ss j) (t.ss j) = true)) (fun i _ => s.sn - (intOf i).toNat)
      case atStart => exact ⟨0, Nat.zero_le _, rfl, Below.refl _ _, fun j hj => by omega⟩
      case round =>
        clear hb
        obtain ⟨k, hk, rfl, hb, hall⟩ := hrel
        rename_i wq
        have hB' := below_app hB hb hB.size
        have v1 := z1.grew hb
        have v2 := z2.grew hb
        have c1 := v1.cell 1
        have d1 := v2.cell 1
        simp at c1 d1
        by_cases hlt : k < s.sn
        · have hlt2 : k < t.sn := by have := HE.out.2.1; omega
          rcases r2.grew sdC_ne hB' with g1 | ⟨o1, hpa, g1⟩
          · omega
          rcases u2.grew sdC_ne hB' with g2 | ⟨o2, hpb, g2⟩
          · omega
          rw [hpa] at c1
          rw [hpb] at d1
          obtain ⟨k0, k1, k2⟩ : At3 _ s.sb (o1 + k * 3) (s.ss k) := At3_of (g1 k hlt)
          obtain ⟨j0, j1, j2⟩ : At3 _ t.sb (o2 + k * 3) (t.ss k) := At3_of (g2 k hlt2)
          have y1 : (0 : Int) ≤ (k : Int) := by omega
          have y2 : (k : Int) < (s.sn : Int) := by omega
          have y3 : (k : Int) < (t.sn : Int) := by omega
          have heq0 := run_eq_sd (s.ss k) (t.ss k)
          clear g1 g2 hpa hpb
          cases hs : smD (s.ss k) (t.ss k) with
          | true =>
            have HA : Hid (∀ j, j < k + 1 → smD (s.ss j) (t.ss j) = true) := fun j hj => by
              by_cases e : j = k
              · subst e; exact hs
              · exact hall.out j (by omega)
            rw [hs] at heq0
            clear hall hs
            go_wp2
            go_quiet (fail)
            go_wp2
            go_roundw
            case rel => first | exact ⟨k + 1, by omega, by go_num, below_drewN hb _, HA⟩ | ((repeat apply Exists.intro); exact ⟨⟨k + 1, by omega, by go_num, below_drewN hb _, HA⟩, rfl⟩)
            case measure => simp [intOf]; omega
          | false =>
            have HN : Hid (smS s t = false) := by show smS s t = false; unfold smS eqD; rw [allf_no (f := fun i => smD (s.ss i) (t.ss i)) hlt hs]; simp
            rw [hs] at heq0
            clear hall hs
            go_wp2
            go_quiet (fail)
            go_wp2
            go_ret
            exact ⟨ret_bool' HN.out.symm, below_drewN hB' _⟩
        · obtain rfl : k = s.sn := by omega
          have HN : Hid (smS s t = true) := by show smS s t = true; unfold smS eqD; rw [allf_yes (f := fun i => smD (s.ss i) (t.ss i)) hall.out, HP.out, decide_eq_true HE.out.2.1, decide_eq_true HE.out.2.2.1, decide_eq_true HE.out.2.2.2]; rfl
          clear hall
          go_wp2
          go_ret
          exact ⟨ret_bool' HN.out.symm, hB'⟩
end Go.Proofs.Ytnlnledijpcjpab
