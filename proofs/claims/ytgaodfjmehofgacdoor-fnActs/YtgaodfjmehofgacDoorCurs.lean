/-
  Contracts of the draws (l1Below, l1Once, l1Int, l1Odd, l1Raw): what each answers lies within its bounds, and of memory that was there nothing turns but the cursor's own block. Contracts of the draws of chapter 1 (l1Odd, l1Raw, DrawPlus, DrawHalf, DrawUpto): each answers ints, and of memory that was there nothing turns. What every law over a code begins with: 'big', and the step from the row that came in to a code that can be read. Own work.
-/
import Derived.Test.YtgaodfjmehofgacDoorCur
namespace Go.Proofs.YtgaodfjmehofgacDoor
open Go.ChangeShapes Go.WideShapes Go.ChangeAt Go.RowKit
set_option maxRecDepth 100000

theorem Code.only {w w' : World} {a : Option Addr} {len B p : Nat} (h : Code w a len B) (ho : Only p w w') (hB : B ≤ p) : Code w' a len B := h.below (ho.below hB h.2.1)

set_option maxRecDepth 100000 in
set_option maxHeartbeats 400000 in
theorem l1Below_any (p : Nat) (a : Option Addr) (len cap : Nat) (n : Int) (w : World) {B : Nat} (hc : Code w a len B) (hB : B ≤ p) (hcur : Cur w p a len cap) :
    Calls Tryd.prog 21 #[.pointer (some ⟨p, 0, none⟩), .int .i64 n] w fun e w' => ∃ x : Int, 0 ≤ x ∧ (0 < n → x < n) ∧ e = .returned (.int .i64 x) ∧ Only p w w' ∧ Cur w' p a len cap := by
  by_cases hn : n ≤ 0
  · go_enter Tryd.func21, Tryd.ntmps21
    go_wp2
    go_ret
    exact ⟨0, by omega, by omega, rfl, Only.refl _ _, hcur⟩
  · by_cases hm : n ≤ 256
    · go_enter Tryd.func21, Tryd.ntmps21
      go_wp2_with (go_at_call 43; refine (l1Byte_any p a len cap _ hc hB hcur).mono ?_; rintro e w' ⟨x, hx0, hx1, rfl, ho, hk⟩)
      go_ret
      exact ⟨_, Int.emod_nonneg _ (by omega), fun h => Int.emod_lt_of_pos _ h, rfl, ho, hk⟩
    · go_enter Tryd.func21, Tryd.ntmps21
      go_wp2_with fail
      refine (l1Byte_any p a len cap _ hc hB hcur).mono ?_
      rintro e w1 ⟨x, hx0, hx1, rfl, ho1, hk1⟩
      have hc1 := hc.only ho1 hB
      go_wp2_with fail
      refine (l1Byte_any p a len cap _ hc1 hB hk1).mono ?_
      rintro e w2 ⟨y, hy0, hy1, rfl, ho2, hk2⟩
      have hc2 := hc1.only ho2 hB
      go_wp2_with fail
      refine (l1Byte_any p a len cap _ hc2 hB hk2).mono ?_
      rintro e w3 ⟨z, hz0, hz1, rfl, ho3, hk3⟩
      go_wp2
      go_ret
      exact ⟨_, Int.emod_nonneg _ (by omega), fun h => Int.emod_lt_of_pos _ h, rfl, (ho1.trans ho2).trans ho3, hk3⟩

theorem l1Once_any (p : Nat) (a : Option Addr) (len cap : Nat) (n : Int) (w : World) {B : Nat} (hc : Code w a len B) (hB : B ≤ p) (hcur : Cur w p a len cap) :
    Calls Tryd.prog 51 #[.pointer (some ⟨p, 0, none⟩), .int .i64 n] w fun e w' => ∃ b : Bool, e = .returned (.bool b) ∧ Only p w w' ∧ Cur w' p a len cap := by
  go_enter Tryd.func51, Tryd.ntmps51
  go_wp2_with (go_at_call 21; refine (l1Below_any p a len cap _ _ hc hB hcur).mono ?_; rintro e w' ⟨x, hx0, hx1, rfl, ho, hk⟩)
  go_ret
  exact ⟨_, rfl, ho, hk⟩

set_option maxHeartbeats 400000 in
theorem l1Int_any (p : Nat) (a : Option Addr) (len cap : Nat) (q o n m : Nat) (f : Nat → Int) (w : World) {B : Nat} (hc : Code w a len B) (hB : B ≤ p) (hcur : Cur w p a len cap)
    (hq : q < w.heap.size) (hqp : q ≠ p) (hn : 0 < n) (hn' : n ≤ 9223372036854775807) (hf : ∀ i, i < n → w.cell? ⟨q, o + i, none⟩ = some (.int .i64 (f i))) :
    Calls Tryd.prog 38 #[.pointer (some ⟨p, 0, none⟩), .slice (some ⟨q, o, none⟩) n m] w fun e w' => ∃ i, i < n ∧ e = .returned (.int .i64 (f i)) ∧ Only p w w' ∧ Cur w' p a len cap := by
  go_enter Tryd.func38, Tryd.ntmps38
  go_wp2_with fail
  refine (l1Below_any p a len cap _ _ hc hB hcur).mono ?_
  rintro e w1 ⟨x, hx0, hx1, rfl, ho, hk⟩
  have hx2 := hx1 (by omega)
  have hcell : w1.cell? ⟨q, o + x.toNat, none⟩ = some (.int .i64 (f x.toNat)) := by
    rw [ho.cell (q := ⟨q, o + x.toNat, none⟩) hq hqp]
    exact hf _ (by omega)
  go_wp2
  go_ret
  exact ⟨x.toNat, by omega, rfl, ho, hk⟩
end Go.Proofs.YtgaodfjmehofgacDoor
namespace Go.Proofs.YtgaodfjmehofgacDoor
open Go.ChangeShapes Go.WideShapes Go.ChangeAt Go.RowKit
set_option maxRecDepth 100000

def inI64 (x : Int) : Prop := -9223372036854775808 ≤ x ∧ x ≤ 9223372036854775807
theorem cells_list (w : World) (l : List Int) (t : Nat) (i : Nat) (hi : i < l.length) : (w.alloc (.cells (l.map (Value.int .i64)).toArray t)).cell? ⟨w.heap.size, 0 + i, none⟩ = some (.int .i64 (l.getD i 0)) := by
  have e : (w.alloc (.cells (l.map (Value.int .i64)).toArray t)).heap[w.heap.size]? = some (.cells (l.map (Value.int .i64)).toArray t) := (MapKept.heap_alloc w _).1
  unfold World.cell?
  rw [e]
  simp [hi]

set_option maxHeartbeats 400000 in
theorem l1Int_new (p : Nat) (a : Option Addr) (len cap : Nat) (l : List Int) (t : Nat) (w : World) {B : Nat} (hc : Code w a len B) (hB : B ≤ p) (hcur : Cur w p a len cap) (hn : 0 < l.length) (hn' : l.length ≤ 9223372036854775807) :
    Calls Tryd.prog 38 #[.pointer (some ⟨p, 0, none⟩), .slice (some ⟨w.heap.size, 0, none⟩) l.length l.length] (w.alloc (.cells (l.map (Value.int .i64)).toArray t)) fun e w' => ∃ x, x ∈ l ∧ e = .returned (.int .i64 x) ∧ Only p w w' ∧ Cur w' p a len cap := by
  have ho := (Only.refl p w).alloc (.cells (l.map (Value.int .i64)).toArray t)
  have ho2 : Only w.heap.size w (w.alloc (.cells (l.map (Value.int .i64)).toArray t)) := (Only.refl _ w).alloc _
  refine (l1Int_any p a len cap w.heap.size 0 l.length l.length (fun i => l.getD i 0) _ (hc.only ho hB) hB (hcur.only ho2 (Nat.ne_of_lt hcur.1)) (by show w.heap.size < (w.heap.push _).size; simp) (Nat.ne_of_gt hcur.1) hn hn' (cells_list w l t)).mono ?_
  rintro e w' ⟨i, hi, rfl, h1, h2⟩
  exact ⟨l[i], List.getElem_mem hi, by simp [hi], ho.trans h1, h2⟩
theorem list_in (l : List Int) (h : l.all (fun x => decide (-9223372036854775808 ≤ x) && decide (x ≤ 9223372036854775807)) = true) (x : Int) (hx : x ∈ l) : inI64 x := by
  have := List.all_eq_true.1 h x hx
  simpa [inI64] using this

set_option maxHeartbeats 400000 in
theorem l1Odd_any (p : Nat) (a : Option Addr) (len cap : Nat) (w : World) {B : Nat} (hc : Code w a len B) (hB : B ≤ p) (hcur : Cur w p a len cap) :
    Calls Tryd.prog 53 #[.pointer (some ⟨p, 0, none⟩)] w fun e w' => ∃ x : Int, inI64 x ∧ e = .returned (.int .i64 x) ∧ Only p w w' ∧ Cur w' p a len cap := by
  go_enter Tryd.func53, Tryd.ntmps53
  go_wp2_with fail
  refine (l1Int_new p a len cap [-1, 0, 1, 2, 255, 256, 65535, 2147483647, 2147483648, 4294967295, 4294967296, -2147483648, 9223372036854775807, -9223372036854775808] 3 w hc hB hcur (by decide) (by decide)).mono ?_
  rintro e w' ⟨x, hx, rfl, ho, hk⟩
  go_wp2
  go_ret
  exact ⟨x, list_in _ (by decide) x hx, rfl, ho, hk⟩
set_option maxHeartbeats 400000 in
theorem l1Raw_any (p : Nat) (a : Option Addr) (len cap : Nat) (w : World) {B : Nat} (hc : Code w a len B) (hB : B ≤ p) (hcur : Cur w p a len cap) :
    Calls Tryd.prog 39 #[.pointer (some ⟨p, 0, none⟩)] w fun e w' => ∃ x : Int, inI64 x ∧ e = .returned (.int .i64 x) ∧ Only p w w' ∧ Cur w' p a len cap := by
  go_enter Tryd.func39, Tryd.ntmps39
  go_wp2_with fail
  refine (l1Once_any p a len cap _ _ hc hB hcur).mono ?_
  rintro e w1 ⟨b, rfl, ho, hk⟩
  have hc1 := hc.only ho hB
  cases b with
  | true =>
    go_wp2_with fail
    refine (l1Odd_any p a len cap _ hc1 hB hk).mono ?_
    rintro e w2 ⟨x, hx, rfl, ho2, hk2⟩
    go_wp2
    go_ret
    exact ⟨x, hx, rfl, ho.trans ho2, hk2⟩
  | false =>
    go_wp2_with fail
    refine (l1Int_new p a len cap [-2147483648, -2147483647, -3, -1, 0, 1, 3, 7, 2147483647, 2147483648] 3 w1 hc1 hB hk (by decide) (by decide)).mono ?_
    rintro e w2 ⟨x, hx, rfl, ho2, hk2⟩
    go_wp2
    go_ret
    exact ⟨x, list_in _ (by decide) x hx, rfl, ho.trans ho2, hk2⟩

end Go.Proofs.YtgaodfjmehofgacDoor
namespace Go.Proofs.YtgaodfjmehofgacDoor
open Go.ChangeShapes Go.WideShapes Go.ChangeAt Go.RowKit
set_option maxRecDepth 100000

theorem big_any (a : Option Addr) (len cap : Nat) (w : World) :
    Calls Tryd.prog 4 #[.slice a len cap] w fun e w' => e = .returned (.bool (decide ((1048576 : Int) < (len : Int)))) ∧ w' = w := by
  go_enter Tryd.func4, Tryd.ntmps4
  go_wp2
  go_ret
  exact ⟨rfl, rfl⟩
theorem Code.mono {w : World} {a : Option Addr} {len B B' : Nat} (h : Code w a len B) (h1 : B ≤ B') (h2 : B' ≤ w.heap.size) : Code w a len B' := by
  obtain ⟨x, _, z⟩ := h
  refine ⟨x, h2, ?_⟩
  rcases z with z | ⟨b, off, zs, ha, hb, hc⟩
  · exact .inl z
  · exact .inr ⟨b, off, zs, ha, by omega, hc⟩
/-- the row that came in, in the words of the frame's 'IsRow' -/
theorem code_of_row {w : World} {a : Option Addr} {len cap : Nat} {zs : List Int}
    (h : (a = none ∧ len = 0 ∧ cap = 0 ∧ zs = []) ∨ ∃ x, a = some x ∧ len ≤ cap ∧ cap ≤ maxLen ∧ zs.length = cap ∧ (∀ i, i < zs.length → w.cell? (x.add i) = some (.int .u8 (zs.getD i 0))) ∧ ∀ n ∈ zs, (Lit.int .u8 n).wf = true) :
    Code w a len w.heap.size := by
  rcases h with ⟨rfl, rfl, rfl, rfl⟩ | ⟨x, rfl, hl, hm, hz, hc, hw⟩
  · exact ⟨by omega, Nat.le_refl _, .inl rfl⟩
  · unfold maxLen at hm
    refine ⟨by omega, Nat.le_refl _, ?_⟩
    by_cases h0 : len = 0
    · exact .inl h0
    · obtain ⟨b, off, rfl, hcell⟩ := ints_at hc (by omega)
      have hb : b < w.heap.size := by
        have := hcell 0 (by omega)
        cases hh : w.heap[b]? with
        | none => simp [World.cell?, hh] at this
        | some o => exact (Array.getElem?_eq_some_iff.1 hh).1
      refine .inr ⟨b, off, fun i => zs.getD i 0, rfl, hb, fun i hi => ⟨hcell i (by omega), ?_⟩⟩
      have hi' : i < zs.length := by omega
      have e : zs.getD i 0 = zs[i] := by simp [hi']
      show 0 ≤ zs.getD i 0 ∧ zs.getD i 0 ≤ 255
      rw [e]
      exact bounds_u8 (hw _ (List.getElem_mem hi'))
end Go.Proofs.YtgaodfjmehofgacDoor
