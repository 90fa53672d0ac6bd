/-
  The laws' own helpers over states: eqSide, eqPieceS, eqSideS, szState, toState, eqState. Written by tools/state4.gen.py. Own work.
-/
import Derived.Test.YtodfdfncdoliiauState3
import Derived.Test.YtodfdfncdoliiauGRegBelow2
namespace Go.Proofs.Ytodfdfncdoliiau
open Go.ChangeShapes Go.WideShapes Go.ChangeAt Go.RowKit
set_option maxRecDepth 100000
set_option maxHeartbeats 1000000 in
theorem eqSide_self (s : Sd) (w : World) : Calls Try.prog 81 #[.agg #[.int .i64 s.li, .int .i64 s.po, .bool s.lo], .agg #[.int .i64 s.li, .int .i64 s.po, .bool s.lo]] w fun e w' => e = .returned (.bool true) ∧ Below w.heap.size w w' := by
  go_enter Try.func81, Try.ntmps81
  go_wp2
  go_ret
  exact ⟨rfl, ((Below.refl _ w).alloc (Nat.le_refl _) _).alloc (by simp) _⟩
theorem eqPiece_self (p : Pc) (w : World) : Calls Try.prog 80 #[(.agg #[.int .i64 p.id, .int .i64 p.ow, .int .i64 p.si, .int .i64 p.zo, .int .i64 p.st, .int .i64 p.po, .int .i64 p.to, .int .i64 p.tr, .int .i64 p.pl, .int .i64 p.mi, .int .i64 p.ma, .bool p.de, .bool p.be]), (.agg #[.int .i64 p.id, .int .i64 p.ow, .int .i64 p.si, .int .i64 p.zo, .int .i64 p.st, .int .i64 p.po, .int .i64 p.to, .int .i64 p.tr, .int .i64 p.pl, .int .i64 p.mi, .int .i64 p.ma, .bool p.de, .bool p.be])] w fun e w' => e = .returned (.bool true) ∧ Below w.heap.size w w' := by
  have := eqPiece_any p p w
  rw [smP_self] at this
  exact this
set_option maxHeartbeats 4000000 in
theorem eqSideS_same (a1 a2 : Option Addr) (b1 b2 n c1 c2 : Nat) (f : Nat → Sd) (w : World) (hn : n ≤ 9223372036854775807) (h1 : RdE sdC 3 w b1 a1 n f) (h2 : RdE sdC 3 w b2 a2 n f) :
    Calls Try.prog 64 #[.slice a1 n c1, .slice a2 n c2] w fun e w' => e = .returned (.bool true) ∧ Below w.heap.size w w' := by
  go_enter Try.func64, Try.ntmps64
  go_wp2
  go_loopw [5] (fun i wr => ∃ k : Nat, k ≤ n ∧ i = .int .i64 k ∧ Below w.heap.size w wr) (fun i _ => n - (intOf i).toNat)
  case atStart => exact ⟨0, Nat.zero_le _, rfl, Below.refl _ _⟩
  case round =>
    obtain ⟨k, hk, rfl, hb⟩ := hrel
    by_cases hlt : k < n
    · rcases h1.grew sdC_ne hb with g1 | ⟨o1, rfl, g1⟩
      · omega
      rcases h2.grew sdC_ne hb with g2 | ⟨o2, rfl, g2⟩
      · omega
      obtain ⟨k0, k1, k2⟩ : At3 wr b1 (o1 + k * 3) (f k) := At3_of (g1 k hlt)
      obtain ⟨j0, j1, j2⟩ : At3 wr b2 (o2 + k * 3) (f k) := At3_of (g2 k hlt)
      generalize f k = x at k0 k1 k2 j0 j1 j2
      have hne := bw_ne wr
      have p0 := fun u : BW wr => u.cell k0
      have q0 := fun u : BW wr => u.cell j0
      have p1 := fun u : BW wr => u.cell k1
      have q1 := fun u : BW wr => u.cell j1
      have p2 := fun u : BW wr => u.cell k2
      have q2 := fun u : BW wr => u.cell j2
      clear k0 k1 k2 j0 j1 j2 g1 g2 h1 h2
      have y1 : (0 : Int) ≤ (k : Int) := by omega
      have y2 : (k : Int) < (n : Int) := by omega
      go_wp2_with fail
      refine wp_region_below_lit (W := wr) 10 (by kernel_rfl) (by kernel_rfl) (by decide) (Below.refl _ _) (by intro c d v a w h; cases d <;> exact h) ?_
      simp only [List.take_succ_cons, List.take_zero, List.drop_succ_cons, List.drop_zero]
      repeat (go_big_quiet_step ((go_at_call 81; refine quiet_below (eqSide_self x _))))
      refine wpQuiet_nil ?_
      rintro _ ⟨u, rfl⟩
      have hB := below_app hb u.h hb.size
      clear hne p0 p1 p2 q0 q1 q2 hb
      go_wp2
      go_roundw
      case rel => first | exact ⟨k + 1, by omega, by go_num, hB⟩ | ((repeat apply Exists.intro); exact ⟨⟨k + 1, by omega, by go_num, hB⟩, rfl⟩)
      case measure => simp [intOf]; omega
    · go_wp2
      go_ret
      exact ⟨rfl, hb⟩
set_option maxHeartbeats 4000000 in
theorem eqPieceS_same (a1 a2 : Option Addr) (b1 b2 n c1 c2 : Nat) (f : Nat → Pc) (w : World) (hn : n ≤ 9223372036854775807) (h1 : RdE pcC 13 w b1 a1 n f) (h2 : RdE pcC 13 w b2 a2 n f) :
    Calls Try.prog 63 #[.slice a1 n c1, .slice a2 n c2] w fun e w' => e = .returned (.bool true) ∧ Below w.heap.size w w' := by
  go_enter Try.func63, Try.ntmps63
  go_wp2
  go_loopw [5] (fun i wr => ∃ k : Nat, k ≤ n ∧ i = .int .i64 k ∧ Below w.heap.size w wr) (fun i _ => n - (intOf i).toNat)
  case atStart => exact ⟨0, Nat.zero_le _, rfl, Below.refl _ _⟩
  case round =>
    obtain ⟨k, hk, rfl, hb⟩ := hrel
    by_cases hlt : k < n
    · rcases h1.grew pcC_ne hb with g1 | ⟨o1, rfl, g1⟩
      · omega
      rcases h2.grew pcC_ne hb with g2 | ⟨o2, rfl, g2⟩
      · omega
      obtain ⟨k0, k1, k2, k3, k4, k5, k6, k7, k8, k9, k10, k11, k12⟩ : At13 wr b1 (o1 + k * 13) (f k) := At13_of (g1 k hlt)
      obtain ⟨j0, j1, j2, j3, j4, j5, j6, j7, j8, j9, j10, j11, j12⟩ : At13 wr b2 (o2 + k * 13) (f k) := At13_of (g2 k hlt)
      generalize f k = x at k0 k1 k2 k3 k4 k5 k6 k7 k8 k9 k10 k11 k12 j0 j1 j2 j3 j4 j5 j6 j7 j8 j9 j10 j11 j12
      have hne := bw_ne wr
      have p0 := fun u : BW wr => u.cell k0
      have q0 := fun u : BW wr => u.cell j0
      have p1 := fun u : BW wr => u.cell k1
      have q1 := fun u : BW wr => u.cell j1
      have p2 := fun u : BW wr => u.cell k2
      have q2 := fun u : BW wr => u.cell j2
      have p3 := fun u : BW wr => u.cell k3
      have q3 := fun u : BW wr => u.cell j3
      have p4 := fun u : BW wr => u.cell k4
      have q4 := fun u : BW wr => u.cell j4
      have p5 := fun u : BW wr => u.cell k5
      have q5 := fun u : BW wr => u.cell j5
      have p6 := fun u : BW wr => u.cell k6
      have q6 := fun u : BW wr => u.cell j6
      have p7 := fun u : BW wr => u.cell k7
      have q7 := fun u : BW wr => u.cell j7
      have p8 := fun u : BW wr => u.cell k8
      have q8 := fun u : BW wr => u.cell j8
      have p9 := fun u : BW wr => u.cell k9
      have q9 := fun u : BW wr => u.cell j9
      have p10 := fun u : BW wr => u.cell k10
      have q10 := fun u : BW wr => u.cell j10
      have p11 := fun u : BW wr => u.cell k11
      have q11 := fun u : BW wr => u.cell j11
      have p12 := fun u : BW wr => u.cell k12
      have q12 := fun u : BW wr => u.cell j12
      clear k0 k1 k2 k3 k4 k5 k6 k7 k8 k9 k10 k11 k12 j0 j1 j2 j3 j4 j5 j6 j7 j8 j9 j10 j11 j12 g1 g2 h1 h2
      have y1 : (0 : Int) ≤ (k : Int) := by omega
      have y2 : (k : Int) < (n : Int) := by omega
      go_wp2_with fail
      refine wp_region_below_lit (W := wr) 10 (by kernel_rfl) (by kernel_rfl) (by decide) (Below.refl _ _) (by intro c d v a w h; cases d <;> exact h) ?_
      simp only [List.take_succ_cons, List.take_zero, List.drop_succ_cons, List.drop_zero]
      repeat (go_big_quiet_step ((go_at_call 80; refine quiet_below (eqPiece_self x _))))
      refine wpQuiet_nil ?_
      rintro _ ⟨u, rfl⟩
      have hB := below_app hb u.h hb.size
      clear hne p0 p1 p2 p3 p4 p5 p6 p7 p8 p9 p10 p11 p12 q0 q1 q2 q3 q4 q5 q6 q7 q8 q9 q10 q11 q12 hb
      go_wp2
      go_roundw
      case rel => first | exact ⟨k + 1, by omega, by go_num, hB⟩ | ((repeat apply Exists.intro); exact ⟨⟨k + 1, by omega, by go_num, hB⟩, rfl⟩)
      case measure => simp [intOf]; omega
    · go_wp2
      go_ret
      exact ⟨rfl, hb⟩
/-- how much is left: the laws' own measure -/
def szN (n : Nat) (x : Int) : Int := if x - n < 0 then -1 else x - n
theorem szPieceS_any (a : Option Addr) (n c : Nat) (x : Int) (w : World) (hn : n ≤ 9223372036854775807) (hx : 0 ≤ x ∧ x ≤ 1048576) : Calls Try.prog 57 #[.slice a n c, .int .i64 x] w fun e w' => e = .returned (.int .i64 (szN n x)) ∧ w' = w := by
  obtain ⟨x1, x2⟩ := hx
  by_cases h : x - n < 0
  · have HS : Hid (szN n x = -1) := by show szN n x = -1; unfold szN; rw [if_pos h]
    go_enter Try.func57, Try.ntmps57
    go_wp2
    go_ret
    exact ⟨ret_int HS.out.symm, rfl⟩
  · have HS : Hid (szN n x = x - n) := by show szN n x = x - n; unfold szN; rw [if_neg h]
    have h' : 0 ≤ x - (n : Int) := by omega
    clear h
    go_enter Try.func57, Try.ntmps57
    go_wp2
    go_ret
    exact ⟨ret_int HS.out.symm, rfl⟩
theorem szSideS_any (a : Option Addr) (n c : Nat) (x : Int) (w : World) (hn : n ≤ 9223372036854775807) (hx : 0 ≤ x ∧ x ≤ 1048576) : Calls Try.prog 58 #[.slice a n c, .int .i64 x] w fun e w' => e = .returned (.int .i64 (szN n x)) ∧ w' = w := by
  obtain ⟨x1, x2⟩ := hx
  by_cases h : x - n < 0
  · have HS : Hid (szN n x = -1) := by show szN n x = -1; unfold szN; rw [if_pos h]
    go_enter Try.func58, Try.ntmps58
    go_wp2
    go_ret
    exact ⟨ret_int HS.out.symm, rfl⟩
  · have HS : Hid (szN n x = x - n) := by show szN n x = x - n; unfold szN; rw [if_neg h]
    have h' : 0 ≤ x - (n : Int) := by omega
    clear h
    go_enter Try.func58, Try.ntmps58
    go_wp2
    go_ret
    exact ⟨ret_int HS.out.symm, rfl⟩

end Go.Proofs.Ytodfdfncdoliiau
