/-
  Chapter 8: the specification's counts: l8Many (mnG), BentOf (bnG). Written by tools/gu.gen.py. Own work.
-/
import Derived.Test.YtnlnledijpcjparGuB
import Derived.Test.YtnlnledijpcjparState8
namespace Go.Proofs.Ytnlnledijpcjpar
open Go.ChangeShapes Go.WideShapes Go.ChangeAt Go.RowKit
set_option maxRecDepth 100000
set_option linter.unusedVariables false
set_option linter.unusedSimpArgs false

def mnP (side : Int) (p : Pc) : Bool := decide (p.zo = 2) && decide (p.si = side)
def bnP (side : Int) (p : Pc) : Bool := decide (p.zo = 2) && decide (p.si = side) && p.be
/-- how many of the first n are so -/
def cnG (f : Pc → Bool) (n : Nat) (ps : Nat → Pc) : Nat := ((List.range n).filter (fun i => f (ps i))).length
theorem cnG_yes {f : Pc → Bool} {k : Nat} {ps : Nat → Pc} (h : f (ps k) = true) : cnG f (k + 1) ps = cnG f k ps + 1 := by unfold cnG; rw [List.range_succ, List.filter_append]; simp [h]
theorem cnG_no {f : Pc → Bool} {k : Nat} {ps : Nat → Pc} (h : f (ps k) = false) : cnG f (k + 1) ps = cnG f k ps := by unfold cnG; rw [List.range_succ, List.filter_append]; simp [h]
theorem cnG_le (f : Pc → Bool) (n : Nat) (ps : Nat → Pc) : cnG f n ps ≤ n := by unfold cnG; exact Nat.le_trans (List.length_filter_le _ _) (by simp)
/-- how many pieces this side has on the field; how many of them are bent -/
def mnG (s : Stt) (side : Int) : Nat := cnG (mnP side) s.pn s.ps
def bnG (s : Stt) (side : Int) : Nat := cnG (bnP side) s.pn s.ps
set_option maxHeartbeats 4000000 in
theorem specL8Many_any (s : Stt) (side : Int) (w : World) (hok : s.ok w) (hn : s.pn ≤ 1048576) : Calls Try.prog 29 #[(.agg #[.slice s.pa s.pn s.pcap, .slice s.sa s.sn s.scap, .int .i64 s.ac, .int .i64 s.cl]), .int .i64 side] w fun e w' => e = .returned (.int .i64 (mnG s side)) ∧ Below w.heap.size w w' := by
  obtain ⟨_, _, r1, _⟩ := hok
  have hb0 := (Below.refl _ w).alloc (Nat.le_refl _) (.cells #[.slice s.pa s.pn s.pcap, .slice s.sa s.sn s.scap, .int .i64 s.ac, .int .i64 s.cl] 37)
  have x1 := boxR_new w 37 #[.slice s.pa s.pn s.pcap, .slice s.sa s.sn s.scap, .int .i64 s.ac, .int .i64 s.cl]
  generalize hW : w.alloc (.cells #[.slice s.pa s.pn s.pcap, .slice s.sa s.sn s.scap, .int .i64 s.ac, .int .i64 s.cl] 37) = W at hb0 x1
  go_enter Try.func29, Try.ntmps29
  go_wp2
  clear hW
  go_loopw [5, 6] (fun c i wr => ∃ k : Nat, k ≤ s.pn ∧ i = .int .i64 k ∧ c = .int .i64 (cnG (mnP side) k s.ps) ∧ wr = W) (fun _ i _ => s.pn - (intOf i).toNat)
  case atStart => exact ⟨0, Nat.zero_le _, rfl, rfl, rfl⟩
  case round =>
    obtain ⟨k, hk, rfl, rfl, rfl⟩ := hrel
    have c0 := x1.cell 0
    simp at c0
    by_cases hlt : k < s.pn
    · rcases r1.grew pcC_ne hb0 with g1 | ⟨o1, hpa, g1⟩
      · omega
      rw [hpa] at c0
      have k2 := g1 k hlt 2 _ rfl
      have k3 := g1 k hlt 3 _ rfl
      have k12 := g1 k hlt 12 _ rfl
      have hl := cnG_le (mnP side) k s.ps
      clear hpa g1
      have y1 : (0 : Int) ≤ (k : Int) := by omega
      have y2 : (k : Int) < (s.pn : Int) := by omega
      cases q3 : ((s.ps k).zo == 2)
      case false =>
        have hf : mnP side (s.ps k) = false := by unfold mnP; simp_all
        have HE : Hid (cnG (mnP side) (k + 1) s.ps = cnG (mnP side) k s.ps) := cnG_no hf
        clear hf
        go_wp2
        go_roundw
        case rel => first | exact ⟨k + 1, by omega, by go_num, by (rw [HE.out]; try (first | go_num | simp)), by first | rfl | trivial⟩ | ((repeat apply Exists.intro); exact ⟨⟨k + 1, by omega, by go_num, by (rw [HE.out]; try (first | go_num | simp)), by first | rfl | trivial⟩, rfl⟩)
        case measure => simp [intOf]; omega
      case true =>
        cases q2 : ((s.ps k).si == side)
        case false =>
          have hf : mnP side (s.ps k) = false := by unfold mnP; simp_all
          have HE : Hid (cnG (mnP side) (k + 1) s.ps = cnG (mnP side) k s.ps) := cnG_no hf
          clear hf
          go_wp2
          go_roundw
          case rel => first | exact ⟨k + 1, by omega, by go_num, by (rw [HE.out]; try (first | go_num | simp)), by first | rfl | trivial⟩ | ((repeat apply Exists.intro); exact ⟨⟨k + 1, by omega, by go_num, by (rw [HE.out]; try (first | go_num | simp)), by first | rfl | trivial⟩, rfl⟩)
          case measure => simp [intOf]; omega
        case true =>
          have hf : mnP side (s.ps k) = true := by unfold mnP; simp_all
          have HE : Hid (cnG (mnP side) (k + 1) s.ps = cnG (mnP side) k s.ps + 1) := cnG_yes hf
          clear hf
          go_wp2
          go_roundw
          case rel => first | exact ⟨k + 1, by omega, by go_num, by (rw [HE.out]; try (first | go_num | simp)), by first | rfl | trivial⟩ | ((repeat apply Exists.intro); exact ⟨⟨k + 1, by omega, by go_num, by (rw [HE.out]; try (first | go_num | simp)), by first | rfl | trivial⟩, rfl⟩)
          case measure => simp [intOf]; omega
    · obtain rfl : k = s.pn := by omega
      go_wp2
      go_ret
      exact ⟨rfl, hb0⟩
set_option maxHeartbeats 4000000 in
theorem specBentOf_any (s : Stt) (side : Int) (w : World) (hok : s.ok w) (hn : s.pn ≤ 1048576) : Calls Try.prog 16 #[(.agg #[.slice s.pa s.pn s.pcap, .slice s.sa s.sn s.scap, .int .i64 s.ac, .int .i64 s.cl]), .int .i64 side] w fun e w' => e = .returned (.int .i64 (bnG s side)) ∧ Below w.heap.size w w' := by
  obtain ⟨_, _, r1, _⟩ := hok
  have hb0 := (Below.refl _ w).alloc (Nat.le_refl _) (.cells #[.slice s.pa s.pn s.pcap, .slice s.sa s.sn s.scap, .int .i64 s.ac, .int .i64 s.cl] 37)
  have x1 := boxR_new w 37 #[.slice s.pa s.pn s.pcap, .slice s.sa s.sn s.scap, .int .i64 s.ac, .int .i64 s.cl]
  generalize hW : w.alloc (.cells #[.slice s.pa s.pn s.pcap, .slice s.sa s.sn s.scap, .int .i64 s.ac, .int .i64 s.cl] 37) = W at hb0 x1
  go_enter Try.func16, Try.ntmps16
  go_wp2
  clear hW
  go_loopw [5, 6] (fun c i wr => ∃ k : Nat, k ≤ s.pn ∧ i = .int .i64 k ∧ c = .int .i64 (cnG (bnP side) k s.ps) ∧ wr = W) (fun _ i _ => s.pn - (intOf i).toNat)
  case atStart => exact ⟨0, Nat.zero_le _, rfl, rfl, rfl⟩
  case round =>
    obtain ⟨k, hk, rfl, rfl, rfl⟩ := hrel
    have c0 := x1.cell 0
    simp at c0
    by_cases hlt : k < s.pn
    · rcases r1.grew pcC_ne hb0 with g1 | ⟨o1, hpa, g1⟩
      · omega
      rw [hpa] at c0
      have k2 := g1 k hlt 2 _ rfl
      have k3 := g1 k hlt 3 _ rfl
      have k12 := g1 k hlt 12 _ rfl
      have hl := cnG_le (bnP side) k s.ps
      clear hpa g1
      have y1 : (0 : Int) ≤ (k : Int) := by omega
      have y2 : (k : Int) < (s.pn : Int) := by omega
      cases q3 : ((s.ps k).zo == 2)
      case false =>
        have hf : bnP side (s.ps k) = false := by unfold bnP; simp_all
        have HE : Hid (cnG (bnP side) (k + 1) s.ps = cnG (bnP side) k s.ps) := cnG_no hf
        clear hf
        go_wp2
        go_roundw
        case rel => first | exact ⟨k + 1, by omega, by go_num, by (rw [HE.out]; try (first | go_num | simp)), by first | rfl | trivial⟩ | ((repeat apply Exists.intro); exact ⟨⟨k + 1, by omega, by go_num, by (rw [HE.out]; try (first | go_num | simp)), by first | rfl | trivial⟩, rfl⟩)
        case measure => simp [intOf]; omega
      case true =>
        cases q2 : ((s.ps k).si == side)
        case false =>
          have hf : bnP side (s.ps k) = false := by unfold bnP; simp_all
          have HE : Hid (cnG (bnP side) (k + 1) s.ps = cnG (bnP side) k s.ps) := cnG_no hf
          clear hf
          go_wp2
          go_roundw
          case rel => first | exact ⟨k + 1, by omega, by go_num, by (rw [HE.out]; try (first | go_num | simp)), by first | rfl | trivial⟩ | ((repeat apply Exists.intro); exact ⟨⟨k + 1, by omega, by go_num, by (rw [HE.out]; try (first | go_num | simp)), by first | rfl | trivial⟩, rfl⟩)
          case measure => simp [intOf]; omega
        case true =>
          cases q1 : (s.ps k).be
          case false =>
            rw [q1] at k12
            have hf : bnP side (s.ps k) = false := by unfold bnP; simp_all
            have HE : Hid (cnG (bnP side) (k + 1) s.ps = cnG (bnP side) k s.ps) := cnG_no hf
            clear hf
            go_wp2
            go_roundw
            case rel => first | exact ⟨k + 1, by omega, by go_num, by (rw [HE.out]; try (first | go_num | simp)), by first | rfl | trivial⟩ | ((repeat apply Exists.intro); exact ⟨⟨k + 1, by omega, by go_num, by (rw [HE.out]; try (first | go_num | simp)), by first | rfl | trivial⟩, rfl⟩)
            case measure => simp [intOf]; omega
          case true =>
            rw [q1] at k12
            have hf : bnP side (s.ps k) = true := by unfold bnP; simp_all
            have HE : Hid (cnG (bnP side) (k + 1) s.ps = cnG (bnP side) k s.ps + 1) := cnG_yes hf
            clear hf
            go_wp2
            go_roundw
            case rel => first | exact ⟨k + 1, by omega, by go_num, by (rw [HE.out]; try (first | go_num | simp)), by first | rfl | trivial⟩ | ((repeat apply Exists.intro); exact ⟨⟨k + 1, by omega, by go_num, by (rw [HE.out]; try (first | go_num | simp)), by first | rfl | trivial⟩, rfl⟩)
            case measure => simp [intOf]; omega
    · obtain rfl : k = s.pn := by omega
      go_wp2
      go_ret
      exact ⟨rfl, hb0⟩
end Go.Proofs.Ytnlnledijpcjpar
