/-
  Chapter 5: two states held against each other: the specification's SameState; the library's Equal at pieces, the program's rowAt, sameSides, SameState. Own work.
-/
import Derived.Test.YtnlnledijpcjpabStEq
import Derived.Test.YtnlnledijpcjpabState5
import Derived.Laws.CopyRow
import Derived.Lib.SlBuf
namespace Go.Proofs.Ytnlnledijpcjpab
open Go.ChangeShapes Go.WideShapes Go.ChangeAt Go.RowKit
set_option maxRecDepth 100000
set_option linter.unusedVariables false
theorem allf_no {n k : Nat} {f : Nat → Bool} (hk : k < n) (h : f k = false) : (List.range n).all f = false := by rw [List.all_eq_false]; exact ⟨k, List.mem_range.2 hk, by simp [h]⟩
theorem allf_yes {n : Nat} {f : Nat → Bool} (h : ∀ k, k < n → f k = true) : (List.range n).all f = true := by rw [List.all_eq_true]; exact fun k hk => h k (List.mem_range.1 hk)
def eqR (n m : Nat) (f g : Nat → Pc) : Bool := decide (n = m) && (List.range n).all (fun i => smP (f i) (g i))
def eqD (n m : Nat) (f g : Nat → Sd) : Bool := decide (n = m) && (List.range n).all (fun i => smD (f i) (g i))
/-- whether two states are the same -/
def smS (s t : Stt) : Bool := decide (s.ac = t.ac) && decide (s.cl = t.cl) && eqD s.sn t.sn s.ss t.ss && eqR s.pn t.pn s.ps t.ps
set_option maxHeartbeats 2000000 in
theorem equalPc_any (a1 a2 : Option Addr) (b1 b2 n m c1 c2 : Nat) (f g : Nat → Pc) (w : World) (hn : n ≤ 9223372036854775807) (hm : m ≤ 9223372036854775807) (h1 : RdE pcC 13 w b1 a1 n f) (h2 : RdE pcC 13 w b2 a2 m g) :
    Calls Try.prog 104 #[.slice a1 n c1, .slice a2 m c2] w fun e w' => e = .returned (.bool (eqR n m f g)) ∧ Below w.heap.size w w' := by
  by_cases hnm : n = m
  rotate_left
  · have HN : Hid (eqR n m f g = false) := by show eqR n m f g = false; unfold eqR; rw [decide_eq_false hnm]; rfl
    have q1 : ((n : Int) == (m : Int)) = false := by simp; omega
    have q2 : ((n : Int) != (m : Int)) = true := by simp; omega
    clear hnm
    go_enter Try.func104, Try.ntmps104
    go_wp2
    go_ret
    exact ⟨ret_bool' HN.out.symm, Below.refl _ _⟩
  subst hnm
  go_enter Try.func104, Try.ntmps104
  go_wp2
  go_loopw [13] (fun i wr => ∃ k : Nat, k ≤ n ∧ i = .int .i64 k ∧ Below w.heap.size w wr ∧ Hid (∀ j, j < k → smP (f j) (g j) = true)) (fun i _ => n - (intOf i).toNat)
  case atStart => exact ⟨0, Nat.zero_le _, rfl, Below.refl _ _, fun j hj => by omega⟩
  case round =>
    obtain ⟨k, hk, rfl, hb, hall⟩ := hrel
    by_cases hlt : k < n
    · rcases h1.grew pcC_ne hb with g1 | ⟨o1, rfl, g1⟩
      · omega
      rcases h2.grew pcC_ne hb with g2 | ⟨o2, rfl, g2⟩
      · omega
      obtain ⟨k0, k1, k2, k3, k4, k5, k6, k7, k8, k9, k10, k11, k12⟩ : At13 wr b1 (o1 + k * 13) (f k) := At13_of (g1 k hlt)
      obtain ⟨j0, j1, j2, j3, j4, j5, j6, j7, j8, j9, j10, j11, j12⟩ : At13 wr b2 (o2 + k * 13) (g k) := At13_of (g2 k hlt)
      have y1 : (0 : Int) ≤ (k : Int) := by omega
      have y2 : (k : Int) < (n : Int) := by omega
      have heq0 := run_eq_pc (f k) (g k)
      clear g1 g2
      cases hs : smP (f k) (g k) with
      | true =>
        have HA : Hid (∀ j, j < k + 1 → smP (f j) (g j) = true) := fun j hj => by
          by_cases e : j = k
          · subst e; exact hs
          · exact hall.out j (by omega)
        rw [hs] at heq0
        clear hall hs
        go_wp2
        go_quiet (fail)
        have hB := below_drewN hb 1
        go_wp2
        go_roundw
        case rel => first | exact ⟨k + 1, by omega, by go_num, below_drewN hb _, HA⟩ | ((repeat apply Exists.intro); exact ⟨⟨k + 1, by omega, by go_num, below_drewN hb _, HA⟩, rfl⟩)
        case measure => simp [intOf]; omega
      | false =>
        have HN : Hid (eqR n n f g = false) := by show eqR n n f g = false; unfold eqR; rw [allf_no (f := fun i => smP (f i) (g i)) hlt hs]; simp
        rw [hs] at heq0
        clear hall hs
        go_wp2
        go_quiet (fail)
        go_wp2
        go_ret
        exact ⟨ret_bool' HN.out.symm, below_drewN hb _⟩
    · obtain rfl : k = n := by omega
      have HN : Hid (eqR k k f g = true) := by show eqR k k f g = true; unfold eqR; rw [allf_yes (f := fun i => smP (f i) (g i)) hall.out]; simp
      clear hall
      go_wp2
      go_ret
      exact ⟨ret_bool' HN.out.symm, hb⟩
end Go.Proofs.Ytnlnledijpcjpab
