/-
  What every law over a code begins with: 'big', and the step from the row that came in to a code that can be read. Own work.
-/
import Derived.Test.YtpfddfkjmbnpaacCur3
namespace Go.Proofs.Ytpfddfkjmbnpaac
open Go.ChangeShapes Go.WideShapes Go.ChangeAt Go.RowKit
set_option maxRecDepth 100000

theorem big_any (a : Option Addr) (len cap : Nat) (w : World) :
    Calls Try.prog 5 #[.slice a len cap] w fun e w' => e = .returned (.bool (decide ((1048576 : Int) < (len : Int)))) ∧ w' = w := by
  go_enter Try.func5, Try.ntmps5
  go_wp2
  go_ret
  exact ⟨rfl, rfl⟩
theorem Code.mono {w : World} {a : Option Addr} {len B B' : Nat} (h : Code w a len B) (h1 : B ≤ B') (h2 : B' ≤ w.heap.size) : Code w a len B' := by
  obtain ⟨x, _, z⟩ := h
  refine ⟨x, h2, ?_⟩
  rcases z with z | ⟨b, off, zs, ha, hb, hc⟩
  · exact .inl z
  · exact .inr ⟨b, off, zs, ha, by omega, hc⟩
/-- the row that came in, in the words of the frame's 'IsRow' -/
theorem code_of_row {w : World} {a : Option Addr} {len cap : Nat} {zs : List Int}
    (h : (a = none ∧ len = 0 ∧ cap = 0 ∧ zs = []) ∨ ∃ x, a = some x ∧ len ≤ cap ∧ cap ≤ maxLen ∧ zs.length = cap ∧ (∀ i, i < zs.length → w.cell? (x.add i) = some (.int .u8 (zs.getD i 0))) ∧ ∀ n ∈ zs, (Lit.int .u8 n).wf = true) :
    Code w a len w.heap.size := by
  rcases h with ⟨rfl, rfl, rfl, rfl⟩ | ⟨x, rfl, hl, hm, hz, hc, hw⟩
  · exact ⟨by omega, Nat.le_refl _, .inl rfl⟩
  · unfold maxLen at hm
    refine ⟨by omega, Nat.le_refl _, ?_⟩
    by_cases h0 : len = 0
    · exact .inl h0
    · obtain ⟨b, off, rfl, hcell⟩ := ints_at hc (by omega)
      have hb : b < w.heap.size := by
        have := hcell 0 (by omega)
        cases hh : w.heap[b]? with
        | none => simp [World.cell?, hh] at this
        | some o => exact (Array.getElem?_eq_some_iff.1 hh).1
      refine .inr ⟨b, off, fun i => zs.getD i 0, rfl, hb, fun i hi => ⟨hcell i (by omega), ?_⟩⟩
      have hi' : i < zs.length := by omega
      have e : zs.getD i 0 = zs[i] := by simp [hi']
      show 0 ≤ zs.getD i 0 ∧ zs.getD i 0 ≤ 255
      rw [e]
      exact bounds_u8 (hw _ (List.getElem_mem hi'))
end Go.Proofs.Ytpfddfkjmbnpaac
