/-
  Contracts of the exact laws' own helpers over slices of bytes and of ints: toByteS, eqByteS, markByteS, heldByteS and the like. Own work.
-/
import Derived.Test.YtnlnledijpcjpapRow
namespace Go.Proofs.Ytnlnledijpcjpap
open Go.ChangeShapes Go.WideShapes Go.ChangeAt Go.RowKit
set_option maxRecDepth 100000
theorem below_drewN {B : Nat} {a w : World} (h : Below B a w) (n : Nat) : Below B a (w.drewN n) := ⟨h.os, h.tape, h.output, h.size, h.block⟩

theorem below_only {B p : Nat} {w u u' : World} (hB : Below B w u) (hs : B ≤ p) (hu : B ≤ u.heap.size) (ho : Only p u u') : Below B w u' := hB.trans (ho.below hs hu)
theorem u8_wf {x : Int} (h : (Lit.int .u8 x).wf = true) : 0 ≤ x ∧ x ≤ 255 := bounds_u8 h
theorem i64_wf {x : Int} (h : (Lit.int .i64 x).wf = true) : -9223372036854775808 ≤ x ∧ x ≤ 9223372036854775807 := bounds_i64 h
/-- the row that came in, in the words of the frame's 'IsRow' -/
theorem rd_of_row {k : IntKind} {w : World} {a : Option Addr} {len cap : Nat} {zs : List Int}
    (h : (a = none ∧ len = 0 ∧ cap = 0 ∧ zs = []) ∨ ∃ x, a = some x ∧ len ≤ cap ∧ cap ≤ maxLen ∧ zs.length = cap ∧ (∀ i, i < zs.length → w.cell? (x.add i) = some (.int k (zs.getD i 0))) ∧ ∀ n ∈ zs, (Lit.int k n).wf = true) :
    len ≤ 9223372036854775807 ∧ ∃ b, ∃ f : Nat → Int, Rd k w b a len f ∧ ∀ i, i < len → (Lit.int k (f i)).wf = true := by
  rcases h with ⟨rfl, rfl, rfl, rfl⟩ | ⟨x, rfl, hl, hm, hz, hc, hw⟩
  · exact ⟨by omega, 0, fun _ => 0, .inl rfl, fun i hi => by omega⟩
  · unfold maxLen at hm
    refine ⟨by omega, ?_⟩
    by_cases h0 : len = 0
    · exact ⟨0, fun _ => 0, .inl h0, fun i hi => by omega⟩
    · obtain ⟨b, off, rfl, hcell⟩ := ints_at hc (by omega)
      refine ⟨b, fun i => zs.getD i 0, .inr ⟨off, rfl, fun i hi => hcell i (by omega)⟩, fun i hi => ?_⟩
      have hi' : i < zs.length := by omega
      have e : zs.getD i 0 = zs[i] := by simp [hi']
      show (Lit.int k (zs.getD i 0)).wf = true
      rw [e]
      exact hw _ (List.getElem_mem hi')

set_option maxHeartbeats 400000 in
theorem eqByteS_same (a1 a2 : Option Addr) (b1 b2 n c1 c2 : Nat) (f : Nat → Int) (w : World) (hn : n ≤ 9223372036854775807) (h1 : Rd .u8 w b1 a1 n f) (h2 : Rd .u8 w b2 a2 n f) :
    Calls Try.prog 12 #[.slice a1 n c1, .slice a2 n c2] w fun e w' => e = .returned (.bool true) ∧ Below w.heap.size w w' := by
  go_enter Try.func12, Try.ntmps12
  go_wp2
  go_loopw [5] (fun i wr => ∃ k : Nat, k ≤ n ∧ i = .int .i64 k ∧ Below w.heap.size w wr) (fun i _ => n - (intOf i).toNat)
  case atStart => exact ⟨0, Nat.zero_le _, rfl, Below.refl _ _⟩
  case round =>
    obtain ⟨k, hk, rfl, hb⟩ := hrel
    by_cases hlt : k < n
    · rcases h1.grew hb with h3 | ⟨o1, rfl, h3⟩
      · omega
      rcases h2.grew hb with h4 | ⟨o2, rfl, h4⟩
      · omega
      have e1 := h3 k hlt
      have e2 := h4 k hlt
      clear h1 h2 h3 h4
      go_wp2
      go_quiet (fail)
      go_wp2
      go_roundw
      case rel => exact ⟨k + 1, by omega, by go_num, below_drewN hb _⟩
      case measure => simp [intOf]; omega
    · go_wp2
      go_ret
      exact ⟨rfl, hb⟩
set_option maxHeartbeats 400000 in
theorem toByteS_any (a : Option Addr) (b n c : Nat) (f : Nat → Int) (w : World) (hn : n ≤ 140737488351232) (h : Rd .u8 w b a n f) :
    Calls Try.prog 18 #[.slice a n c] w fun e w' => e = .returned (.slice (some ⟨w.heap.size, 0, none⟩) n n) ∧ Below w.heap.size w w' ∧ Own .u8 w' w.heap.size w.heap.size (some ⟨w.heap.size, 0, none⟩) n f := by
  obtain ⟨i0, hi, hz0, hz1, hz2⟩ := info_parts Try.infoU8
  obtain ⟨B, hB⟩ : ∃ B, B = w.heap.size := ⟨_, rfl⟩
  go_enter Try.func18, Try.ntmps18
  go_wp2_with (at_make; refine wpList_make_full _ rfl _ _ 27 rfl w.heap.size 5 i0 (.int .u8 0) 1 Try.underlying27 hi hz0 hz1 _ _ _ _ n rfl rfl rfl rfl (by rw [hz2]; omega) (by unfold maxLen; omega) (Nat.le_refl _) ?_)
  intro w1 hown hgr
  rw [made_vals] at hown
  obtain ⟨g, cap, e, ho⟩ := own_of hown (by simp)
  simp only [Value.slice.injEq, Option.some.injEq, Addr.mk.injEq, and_true, true_and] at e
  obtain ⟨rfl, rfl⟩ := e
  have hb1 : Below w.heap.size w w1 := (Below.refl _ _).grown hgr (Nat.le_refl _) (by simp)
  clear hown hgr
  go_wp2
  go_loopw [4] (fun i wr => ∃ k : Nat, k ≤ n ∧ i = .int .i64 k ∧ Below w.heap.size w wr ∧ Own .u8 wr w.heap.size w.heap.size (some ⟨w.heap.size, 0, none⟩) n (til k f (fun _ => 0))) (fun i _ => n - (intOf i).toNat)
  case atStart => exact ⟨0, Nat.zero_le _, rfl, hb1, by rw [til_zero]; exact ho⟩
  case round =>
    obtain ⟨k, hk, rfl, hb, hr⟩ := hrel
    by_cases hlt : k < n
    · have hrd := h.grew hb
      rcases hrd with h3 | ⟨o1, rfl, h3⟩
      · omega
      have e1 := h3 k hlt
      have e2 := hr.cell k hlt
      have e3 := hr.2.2.2 k
      have R := hr.put k (f k)
      rw [til_step] at R
      simp only [Nat.zero_add] at e2 R
      have hb2 := hb.setCell (p := ⟨w.heap.size, k, none⟩) (Nat.le_refl _) (.int .u8 (f k))
      clear h h3 hr
      go_wp2
      go_roundw
      case rel => exact ⟨k + 1, by omega, by go_num, hb2, R⟩
      case measure => simp [intOf]; omega
    · have hr2 := hr.congr (til_all f _ (by omega))
      go_wp2
      go_ret
      exact ⟨rfl, hb, hr2⟩
def mkByteS (k0 : Int) : Nat → Int := fun j => IntKind.u8.wrap (k0 + j)
set_option maxHeartbeats 400000 in
theorem markByteS_any (a : Option Addr) (b n c : Nat) (k0 : Int) (f : Nat → Int) (w : World) {B : Nat} (hn : n ≤ 140737488351232) (hk0 : 0 ≤ k0) (hk1 : k0 ≤ 140737488351232) (h : Own .u8 w B b a n f) :
    Calls Try.prog 15 #[.slice a n c, .int .i64 k0] w fun e w' => e = .returned (.int .i64 (k0 + n)) ∧ Only b w w' ∧ Own .u8 w' B b a n (mkByteS k0) := by
  go_enter Try.func15, Try.ntmps15
  go_wp2
  go_loopw [1, 5] (fun m i wr => ∃ k : Nat, k ≤ n ∧ i = .int .i64 k ∧ m = .int .i64 (k0 + k) ∧ Only b w wr ∧ Own .u8 wr B b a n (til k (mkByteS k0) f)) (fun _ i _ => n - (intOf i).toNat)
  case atStart => exact ⟨0, Nat.zero_le _, rfl, by simp, Only.refl _ _, by rw [til_zero]; exact h⟩
  case round =>
    obtain ⟨k, hk, rfl, rfl, hb, hr⟩ := hrel
    by_cases hlt : k < n
    · rcases hr.rd with h3 | ⟨o1, rfl, h3⟩
      · omega
      clear h3 h
      have e2 := hr.cell k hlt
      have e3 := hr.2.2.2 (o1 + k)
      have R := hr.put k (mkByteS k0 k)
      rw [til_step] at R
      have hb2 := hb.setCell (q := ⟨b, o1 + k, none⟩) (.inl rfl) (.int .u8 (mkByteS k0 k))
      clear hr
      go_wp2
      go_roundw
      case rel => exact ⟨k + 1, by omega, by go_num, by go_num, hb2, R⟩
      case measure => simp [intOf]; omega
    · obtain rfl : k = n := by omega
      have hr2 := hr.congr (til_all (mkByteS k0) _ (Nat.le_refl _))
      go_wp2
      go_ret
      exact ⟨rfl, hb, hr2⟩
set_option maxHeartbeats 400000 in
theorem heldByteS_any (a : Option Addr) (b n c : Nat) (k0 : Int) (w : World) (hn : n ≤ 140737488351232) (hk0 : 0 ≤ k0) (hk1 : k0 ≤ 140737488351232) (h : Rd .u8 w b a n (mkByteS k0)) :
    Calls Try.prog 16 #[.slice a n c, .int .i64 k0] w fun e w' => e = .returned (.int .i64 (k0 + n)) ∧ Below w.heap.size w w' := by
  go_enter Try.func16, Try.ntmps16
  go_wp2
  go_loopw [1, 5] (fun m i wr => ∃ k : Nat, k ≤ n ∧ i = .int .i64 k ∧ m = .int .i64 (k0 + k) ∧ Below w.heap.size w wr) (fun _ i _ => n - (intOf i).toNat)
  case atStart => exact ⟨0, Nat.zero_le _, rfl, by simp, Below.refl _ _⟩
  case round =>
    obtain ⟨k, hk, rfl, rfl, hb⟩ := hrel
    by_cases hlt : k < n
    · rcases h.grew hb with h3 | ⟨o1, rfl, h3⟩
      · omega
      have e2 := h3 k hlt
      clear h3 h
      unfold mkByteS at e2
      go_wp2
      go_roundw
      case rel => exact ⟨k + 1, by omega, by go_num, by go_num, hb⟩
      case measure => simp [intOf]; omega
    · obtain rfl : k = n := by omega
      go_wp2
      go_ret
      exact ⟨rfl, hb⟩
def mkIntS (k0 : Int) : Nat → Int := fun j => k0 + j
end Go.Proofs.Ytnlnledijpcjpap
