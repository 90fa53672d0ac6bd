/-
  Contracts of the exact laws' own helpers over slices of bytes and of ints: toByteS, eqByteS, markByteS, heldByteS and the like. Own work.
-/
import Derived.Test.YtodfdfncdoliiauGreatGRow2
namespace Go.Proofs.YtodfdfncdoliiauGreat
open Go.ChangeShapes Go.WideShapes Go.ChangeAt Go.RowKit
set_option maxRecDepth 100000
theorem below_drewN {B : Nat} {a w : World} (h : Below B a w) (n : Nat) : Below B a (w.drewN n) := ⟨h.os, h.tape, h.output, h.size, h.block⟩

theorem below_only {B p : Nat} {w u u' : World} (hB : Below B w u) (hs : B ≤ p) (hu : B ≤ u.heap.size) (ho : Only p u u') : Below B w u' := hB.trans (ho.below hs hu)
theorem u8_wf {x : Int} (h : (Lit.int .u8 x).wf = true) : 0 ≤ x ∧ x ≤ 255 := bounds_u8 h
theorem i64_wf {x : Int} (h : (Lit.int .i64 x).wf = true) : -9223372036854775808 ≤ x ∧ x ≤ 9223372036854775807 := bounds_i64 h
/-- the row that came in, in the words of the frame's 'IsRow' -/
theorem rd_of_row {k : IntKind} {w : World} {a : Option Addr} {len cap : Nat} {zs : List Int}
    (h : (a = none ∧ len = 0 ∧ cap = 0 ∧ zs = []) ∨ ∃ x, a = some x ∧ len ≤ cap ∧ cap ≤ maxLen ∧ zs.length = cap ∧ (∀ i, i < zs.length → w.cell? (x.add i) = some (.int k (zs.getD i 0))) ∧ ∀ n ∈ zs, (Lit.int k n).wf = true) :
    len ≤ 9223372036854775807 ∧ ∃ b, ∃ f : Nat → Int, Rd k w b a len f ∧ ∀ i, i < len → (Lit.int k (f i)).wf = true := by
  rcases h with ⟨rfl, rfl, rfl, rfl⟩ | ⟨x, rfl, hl, hm, hz, hc, hw⟩
  · exact ⟨by omega, 0, fun _ => 0, .inl rfl, fun i hi => by omega⟩
  · unfold maxLen at hm
    refine ⟨by omega, ?_⟩
    by_cases h0 : len = 0
    · exact ⟨0, fun _ => 0, .inl h0, fun i hi => by omega⟩
    · obtain ⟨b, off, rfl, hcell⟩ := ints_at hc (by omega)
      refine ⟨b, fun i => zs.getD i 0, .inr ⟨off, rfl, fun i hi => hcell i (by omega)⟩, fun i hi => ?_⟩
      have hi' : i < zs.length := by omega
      have e : zs.getD i 0 = zs[i] := by simp [hi']
      show (Lit.int k (zs.getD i 0)).wf = true
      rw [e]
      exact hw _ (List.getElem_mem hi')

def mkByteS (k0 : Int) : Nat → Int := fun j => IntKind.u8.wrap (k0 + j)
def mkIntS (k0 : Int) : Nat → Int := fun j => k0 + j
end Go.Proofs.YtodfdfncdoliiauGreat
