/-
  Contracts of the draws (l1Below, l1Once, l1Int, l1Odd, l1Raw): what each answers lies within its bounds, and of memory that was there nothing turns but the cursor's own block. Own work.
-/
import Derived.Test.YtpfddfkjmbnpaacCur
namespace Go.Proofs.Ytpfddfkjmbnpaac
open Go.ChangeShapes Go.WideShapes Go.ChangeAt Go.RowKit
set_option maxRecDepth 100000

theorem Code.only {w w' : World} {a : Option Addr} {len B p : Nat} (h : Code w a len B) (ho : Only p w w') (hB : B ≤ p) : Code w' a len B := h.below (ho.below hB h.2.1)

set_option maxRecDepth 100000 in
set_option maxHeartbeats 400000 in
theorem l1Below_any (p : Nat) (a : Option Addr) (len cap : Nat) (n : Int) (w : World) {B : Nat} (hc : Code w a len B) (hB : B ≤ p) (hcur : Cur w p a len cap) :
    Calls Try.prog 24 #[.pointer (some ⟨p, 0, none⟩), .int .i64 n] w fun e w' => ∃ x : Int, 0 ≤ x ∧ (0 < n → x < n) ∧ e = .returned (.int .i64 x) ∧ Only p w w' ∧ Cur w' p a len cap := by
  by_cases hn : n ≤ 0
  · go_enter Try.func24, Try.ntmps24
    go_wp2
    go_ret
    exact ⟨0, by omega, by omega, rfl, Only.refl _ _, hcur⟩
  · by_cases hm : n ≤ 256
    · go_enter Try.func24, Try.ntmps24
      go_wp2_with (go_at_call 48; refine (l1Byte_any p a len cap _ hc hB hcur).mono ?_; rintro e w' ⟨x, hx0, hx1, rfl, ho, hk⟩)
      go_ret
      exact ⟨_, Int.emod_nonneg _ (by omega), fun h => Int.emod_lt_of_pos _ h, rfl, ho, hk⟩
    · go_enter Try.func24, Try.ntmps24
      go_wp2_with fail
      refine (l1Byte_any p a len cap _ hc hB hcur).mono ?_
      rintro e w1 ⟨x, hx0, hx1, rfl, ho1, hk1⟩
      have hc1 := hc.only ho1 hB
      go_wp2_with fail
      refine (l1Byte_any p a len cap _ hc1 hB hk1).mono ?_
      rintro e w2 ⟨y, hy0, hy1, rfl, ho2, hk2⟩
      have hc2 := hc1.only ho2 hB
      go_wp2_with fail
      refine (l1Byte_any p a len cap _ hc2 hB hk2).mono ?_
      rintro e w3 ⟨z, hz0, hz1, rfl, ho3, hk3⟩
      go_wp2
      go_ret
      exact ⟨_, Int.emod_nonneg _ (by omega), fun h => Int.emod_lt_of_pos _ h, rfl, (ho1.trans ho2).trans ho3, hk3⟩

theorem l1Once_any (p : Nat) (a : Option Addr) (len cap : Nat) (n : Int) (w : World) {B : Nat} (hc : Code w a len B) (hB : B ≤ p) (hcur : Cur w p a len cap) :
    Calls Try.prog 29 #[.pointer (some ⟨p, 0, none⟩), .int .i64 n] w fun e w' => ∃ b : Bool, e = .returned (.bool b) ∧ Only p w w' ∧ Cur w' p a len cap := by
  go_enter Try.func29, Try.ntmps29
  go_wp2_with (go_at_call 24; refine (l1Below_any p a len cap _ _ hc hB hcur).mono ?_; rintro e w' ⟨x, hx0, hx1, rfl, ho, hk⟩)
  go_ret
  exact ⟨_, rfl, ho, hk⟩

set_option maxHeartbeats 400000 in
theorem l1Int_any (p : Nat) (a : Option Addr) (len cap : Nat) (q o n m : Nat) (f : Nat → Int) (w : World) {B : Nat} (hc : Code w a len B) (hB : B ≤ p) (hcur : Cur w p a len cap)
    (hq : q < w.heap.size) (hqp : q ≠ p) (hn : 0 < n) (hn' : n ≤ 9223372036854775807) (hf : ∀ i, i < n → w.cell? ⟨q, o + i, none⟩ = some (.int .i64 (f i))) :
    Calls Try.prog 42 #[.pointer (some ⟨p, 0, none⟩), .slice (some ⟨q, o, none⟩) n m] w fun e w' => ∃ i, i < n ∧ e = .returned (.int .i64 (f i)) ∧ Only p w w' ∧ Cur w' p a len cap := by
  go_enter Try.func42, Try.ntmps42
  go_wp2_with fail
  refine (l1Below_any p a len cap _ _ hc hB hcur).mono ?_
  rintro e w1 ⟨x, hx0, hx1, rfl, ho, hk⟩
  have hx2 := hx1 (by omega)
  have hcell : w1.cell? ⟨q, o + x.toNat, none⟩ = some (.int .i64 (f x.toNat)) := by
    rw [ho.cell (q := ⟨q, o + x.toNat, none⟩) hq hqp]
    exact hf _ (by omega)
  go_wp2
  go_ret
  exact ⟨x.toNat, by omega, rfl, ho, hk⟩
end Go.Proofs.Ytpfddfkjmbnpaac
