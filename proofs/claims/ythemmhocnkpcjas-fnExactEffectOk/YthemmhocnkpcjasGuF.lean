/-
  Chapter 8, the program: GuardOk, Stronger, BentOf. Written by tools/guf.gen.py. Own work.
-/
import Derived.Test.YthemmhocnkpcjasGuE
import Derived.Test.YthemmhocnkpcjasStField
namespace Go.Proofs.Ythemmhocnkpcjas
open Go.ChangeShapes Go.WideShapes Go.ChangeAt Go.RowKit
set_option maxRecDepth 100000
set_option linter.unusedVariables false
set_option linter.unusedSimpArgs false

theorem rule_one (a b : Int) (k : Nat) : (#[Value.int .i64 a, .int .i64 b, rfn k] : Array Value).all (·.oneCell') = true := by
  unfold rfn
  split <;> simp [Value.oneCell']
set_option maxHeartbeats 4000000 in
theorem implGuardOk_any (g : Gd) (w : World) : Calls Try.prog 69 #[(.agg #[.int .i64 g.kd, .int .i64 g.nn])] w fun e w' => e = .returned (.bool (okGd g)) ∧ Below w.heap.size w w' := by
  have HB := (Below.refl _ w).alloc (Nat.le_refl _) (.cells #[.int .i64 g.kd, .int .i64 g.nn] 50)
  have bx := boxGd_new w 50 g
  generalize hW : w.alloc (.cells #[.int .i64 g.kd, .int .i64 g.nn] 50) = W at HB bx
  obtain ⟨c0, c1⟩ : CellsGd _ _ _ := bx.cells
  go_enter Try.func69, Try.ntmps69
  go_wp2_with fail
  refine (rightRule_any g _).mono ?_
  rintro e v1 ⟨rfl, hb⟩
  replace HB := below_app HB hb HB.size
  clear hW c0 c1
  have hb4 := below_setRow (HB.alloc HB.size (.cells #[.int .i64 0, .int .i64 0, .nilFunc] 93)) HB.size #[.int .i64 (rlo (rlK g)), .int .i64 (rhi (rlK g)), rfn (rlK g)]
  go_wp2_with (refine wpList_store_row rfl 93 (.tmp 3) _ rfl v1.heap.size #[.int .i64 (rlo (rlK g)), .int .i64 (rhi (rlK g)), rfn (rlK g)] (by rfl) (by rfl) _ _ (heap_alloc_new v1 _) (by kernel_rfl) (by rfl) (rule_one _ _ _) ?_; (try simp only [Act.put, List.setIfInBounds_toArray, List.set_cons_zero, List.set_cons_succ]))
  go_ret
  exact ⟨rfl, hb4⟩
/-- whether a guard asks at least as much as another of its kind -/
def amG (g h : Gd) : Bool := bif decide (g.kd = 1) then decide (g.nn ≤ h.nn) else decide (h.nn ≤ g.nn)
set_option maxHeartbeats 4000000 in
theorem implBentOf_any (s : Stt) (side : Int) (w : World) (hok : s.ok w) (hn : s.pn ≤ 1048576) : Calls Try.prog 87 #[(.agg #[.slice s.pa s.pn s.pcap, .slice s.sa s.sn s.scap, .int .i64 s.ac, .int .i64 s.cl]), .int .i64 side] w fun e w' => e = .returned (.int .i64 (bnG s side)) ∧ Below w.heap.size w w' := by
  obtain ⟨_, _, r1, _⟩ := hok
  have hb0 := (Below.refl _ w).alloc (Nat.le_refl _) (.cells #[.slice s.pa s.pn s.pcap, .slice s.sa s.sn s.scap, .int .i64 s.ac, .int .i64 s.cl] 102)
  have x1 := boxR_new w 102 #[.slice s.pa s.pn s.pcap, .slice s.sa s.sn s.scap, .int .i64 s.ac, .int .i64 s.cl]
  generalize hW : w.alloc (.cells #[.slice s.pa s.pn s.pcap, .slice s.sa s.sn s.scap, .int .i64 s.ac, .int .i64 s.cl] 102) = W at hb0 x1
  have c0 := x1.cell 0
  simp at c0
  go_enter Try.func87, Try.ntmps87
  go_wp2
  clear hW c0
  go_loopw [5, 11] (fun c i wr => ∃ k : Nat, k ≤ s.pn ∧ i = .int .i64 k ∧ c = .int .i64 (cnG (bnP side) k s.ps) ∧ Below W.heap.size W wr) (fun _ i _ => s.pn - (intOf i).toNat)
  case atStart => exact ⟨0, Nat.zero_le _, rfl, rfl, Below.refl _ _⟩
  case round =>
    obtain ⟨k, hk, rfl, rfl, hb⟩ := hrel
    have hB := below_app hb0 hb hb0.size
    by_cases hlt : k < s.pn
    · rcases r1.grew pcC_ne hB with g1 | ⟨o1, hpa, g1⟩
      · omega
      rw [hpa]
      obtain ⟨k0, k1, k2, k3, k4, k5, k6, k7, k8, k9, k10, k11, k12⟩ : At13 wr s.pb (o1 + k * 13) (s.ps k) := At13_of (g1 k hlt)
      have y1 : (0 : Int) ≤ (k : Int) := by omega
      have y2 : (k : Int) < (s.pn : Int) := by omega
      have hl := cnG_le (bnP side) k s.ps
      have bV := box_new wr 108 (s.ps k)
      have hbV := below_new2' wr (.cells #[.int .i64 (s.ps k).id, .int .i64 (s.ps k).ow, .int .i64 (s.ps k).si, .int .i64 (s.ps k).zo, .int .i64 (s.ps k).st, .int .i64 (s.ps k).po, .int .i64 (s.ps k).to, .int .i64 (s.ps k).tr, .int .i64 (s.ps k).pl, .int .i64 (s.ps k).mi, .int .i64 (s.ps k).ma, .bool (s.ps k).de, .bool (s.ps k).be] 108)
      generalize hV : wr.alloc (.cells #[.int .i64 (s.ps k).id, .int .i64 (s.ps k).ow, .int .i64 (s.ps k).si, .int .i64 (s.ps k).zo, .int .i64 (s.ps k).st, .int .i64 (s.ps k).po, .int .i64 (s.ps k).to, .int .i64 (s.ps k).tr, .int .i64 (s.ps k).pl, .int .i64 (s.ps k).mi, .int .i64 (s.ps k).ma, .bool (s.ps k).de, .bool (s.ps k).be] 108) = V at bV hbV
      clear g1
      obtain ⟨m0, m1, m2, m3, m4, m5, m6, m7, m8, m9, m10, m11, m12⟩ : Cells13 _ _ _ := bV.cells
      have hbV' := below_app hb hbV hb.size
      clear hb hbV bV m0 m1 m4 m5 m6 m7 m8 m9 m10 m11
      cases q3 : ((s.ps k).zo == 2)
      case false =>
        have hf : bnP side (s.ps k) = false := by unfold bnP; simp_all
        have HE : Hid (cnG (bnP side) (k + 1) s.ps = cnG (bnP side) k s.ps) := cnG_no hf
        clear hf
        go_wp2
        go_roundw
        case rel => first | exact ⟨k + 1, by omega, by go_num, by (rw [HE.out]; try (first | go_num | simp)), hbV'⟩ | ((repeat apply Exists.intro); exact ⟨⟨k + 1, by omega, by go_num, by (rw [HE.out]; try (first | go_num | simp)), hbV'⟩, rfl⟩)
        case measure => simp [intOf]; omega
      case true =>
        cases q2 : ((s.ps k).si == side)
        case false =>
          have hf : bnP side (s.ps k) = false := by unfold bnP; simp_all
          have HE : Hid (cnG (bnP side) (k + 1) s.ps = cnG (bnP side) k s.ps) := cnG_no hf
          clear hf
          go_wp2
          go_roundw
          case rel => first | exact ⟨k + 1, by omega, by go_num, by (rw [HE.out]; try (first | go_num | simp)), hbV'⟩ | ((repeat apply Exists.intro); exact ⟨⟨k + 1, by omega, by go_num, by (rw [HE.out]; try (first | go_num | simp)), hbV'⟩, rfl⟩)
          case measure => simp [intOf]; omega
        case true =>
          have HE : Hid (cnG (bnP side) (k + 1) s.ps = bif (s.ps k).be then cnG (bnP side) k s.ps + 1 else cnG (bnP side) k s.ps) := by
            show cnG (bnP side) (k + 1) s.ps = _
            cases q1 : (s.ps k).be
            · exact cnG_no (by unfold bnP; simp_all)
            · exact cnG_yes (by unfold bnP; simp_all)
          go_wp2
          all_goals (go_roundw; (case rel => first | exact ⟨k + 1, by omega, by go_num, by (rw [HE.out]; first | (simp_all; done) | (simp_all; go_num)), hbV'⟩ | ((repeat apply Exists.intro); exact ⟨⟨k + 1, by omega, by go_num, by (rw [HE.out]; first | (simp_all; done) | (simp_all; go_num)), hbV'⟩, rfl⟩)); (case measure => simp [intOf]; omega))
    · obtain rfl : k = s.pn := by omega
      go_wp2
      go_ret
      exact ⟨rfl, below_app hb0 hb hb0.size⟩
end Go.Proofs.Ythemmhocnkpcjas
