/-
  Contracts of the draws of lists of ints (l2List, DrawPacked) and of 'sameInts', which holds two lists against each other. Own work.
-/
import Derived.Test.YtnlnledijpcjpabDrawB
import Derived.Test.YtnlnledijpcjpabCurs
namespace Go.Proofs.Ytnlnledijpcjpab
open Go.ChangeShapes Go.WideShapes Go.ChangeAt Go.RowKit
set_option maxRecDepth 100000

def I64 (n : Nat) (f : Nat → Int) : Prop := ∀ i, i < n → inI64 (f i)
set_option maxHeartbeats 400000 in
theorem sameInts_same (a1 a2 : Option Addr) (b1 b2 n c1 c2 : Nat) (f : Nat → Int) (w : World) (hn : n ≤ 9223372036854775807) (h1 : Rd .i64 w b1 a1 n f) (h2 : Rd .i64 w b2 a2 n f) :
    Calls Try.prog 15 #[.slice a1 n c1, .slice a2 n c2] w fun e w' => e = .returned (.bool true) ∧ Below w.heap.size w w' := by
  go_enter Try.func15, Try.ntmps15
  go_wp2
  go_loopw [5] (fun i wr => ∃ k : Nat, k ≤ n ∧ i = .int .i64 k ∧ Below w.heap.size w wr) (fun i _ => n - (intOf i).toNat)
  case atStart => exact ⟨0, Nat.zero_le _, rfl, Below.refl _ _⟩
  case round =>
    obtain ⟨k, hk, rfl, hb⟩ := hrel
    by_cases hlt : k < n
    · rcases h1.grew hb with h3 | ⟨o1, rfl, h3⟩
      · omega
      rcases h2.grew hb with h4 | ⟨o2, rfl, h4⟩
      · omega
      have e1 := h3 k hlt
      have e2 := h4 k hlt
      clear h1 h2 h3 h4
      go_wp2
      go_quiet (fail)
      go_wp2
      go_roundw
      case rel => exact ⟨k + 1, by omega, by go_num, below_drewN hb _⟩
      case measure => simp [intOf]; omega
    · go_wp2
      go_ret
      exact ⟨rfl, hb⟩
/-- a list that was drawn -/
def DrawnL (p : Nat) (a : Option Addr) (len cap : Nat) (w : World) (most : Nat) (e : Ending) (w' : World) : Prop :=
  ∃ q c n f, e = .returned (.slice (some ⟨q, 0, none⟩) n c) ∧ n ≤ most ∧ n ≤ c ∧ I64 n f ∧ Own .i64 w' w.heap.size q (some ⟨q, 0, none⟩) n f ∧ Only p w w' ∧ Cur w' p a len cap ∧ w'.ownsRow w.heap.size 3 1 (.slice (some ⟨q, 0, none⟩) n c) n (vals .i64 n f)
end Go.Proofs.Ytnlnledijpcjpab
