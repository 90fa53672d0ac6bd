/-
  Contracts of the draws of chapter 1 (l1Odd, l1Raw, DrawPlus, DrawHalf, DrawUpto): each answers ints, and of memory that was there nothing turns. Own work.
-/
import Derived.Test.YtpfddfkjmbnpaacCur2
namespace Go.Proofs.Ytpfddfkjmbnpaac
open Go.ChangeShapes Go.WideShapes Go.ChangeAt Go.RowKit
set_option maxRecDepth 100000

def inI64 (x : Int) : Prop := -9223372036854775808 ≤ x ∧ x ≤ 9223372036854775807
theorem cells_list (w : World) (l : List Int) (t : Nat) (i : Nat) (hi : i < l.length) : (w.alloc (.cells (l.map (Value.int .i64)).toArray t)).cell? ⟨w.heap.size, 0 + i, none⟩ = some (.int .i64 (l.getD i 0)) := by
  have e : (w.alloc (.cells (l.map (Value.int .i64)).toArray t)).heap[w.heap.size]? = some (.cells (l.map (Value.int .i64)).toArray t) := (MapKept.heap_alloc w _).1
  unfold World.cell?
  rw [e]
  simp [hi]

set_option maxHeartbeats 400000 in
theorem l1Int_new (p : Nat) (a : Option Addr) (len cap : Nat) (l : List Int) (t : Nat) (w : World) {B : Nat} (hc : Code w a len B) (hB : B ≤ p) (hcur : Cur w p a len cap) (hn : 0 < l.length) (hn' : l.length ≤ 9223372036854775807) :
    Calls Try.prog 42 #[.pointer (some ⟨p, 0, none⟩), .slice (some ⟨w.heap.size, 0, none⟩) l.length l.length] (w.alloc (.cells (l.map (Value.int .i64)).toArray t)) fun e w' => ∃ x, x ∈ l ∧ e = .returned (.int .i64 x) ∧ Only p w w' ∧ Cur w' p a len cap := by
  have ho := (Only.refl p w).alloc (.cells (l.map (Value.int .i64)).toArray t)
  have ho2 : Only w.heap.size w (w.alloc (.cells (l.map (Value.int .i64)).toArray t)) := (Only.refl _ w).alloc _
  refine (l1Int_any p a len cap w.heap.size 0 l.length l.length (fun i => l.getD i 0) _ (hc.only ho hB) hB (hcur.only ho2 (Nat.ne_of_lt hcur.1)) (by show w.heap.size < (w.heap.push _).size; simp) (Nat.ne_of_gt hcur.1) hn hn' (cells_list w l t)).mono ?_
  rintro e w' ⟨i, hi, rfl, h1, h2⟩
  exact ⟨l[i], List.getElem_mem hi, by simp [hi], ho.trans h1, h2⟩
theorem list_in (l : List Int) (h : l.all (fun x => decide (-9223372036854775808 ≤ x) && decide (x ≤ 9223372036854775807)) = true) (x : Int) (hx : x ∈ l) : inI64 x := by
  have := List.all_eq_true.1 h x hx
  simpa [inI64] using this

set_option maxHeartbeats 400000 in
theorem l1Odd_any (p : Nat) (a : Option Addr) (len cap : Nat) (w : World) {B : Nat} (hc : Code w a len B) (hB : B ≤ p) (hcur : Cur w p a len cap) :
    Calls Try.prog 64 #[.pointer (some ⟨p, 0, none⟩)] w fun e w' => ∃ x : Int, inI64 x ∧ e = .returned (.int .i64 x) ∧ Only p w w' ∧ Cur w' p a len cap := by
  go_enter Try.func64, Try.ntmps64
  go_wp2_with fail
  refine (l1Int_new p a len cap [-1, 0, 1, 2, 255, 256, 65535, 2147483647, 2147483648, 4294967295, 4294967296, -2147483648, 9223372036854775807, -9223372036854775808] 3 w hc hB hcur (by decide) (by decide)).mono ?_
  rintro e w' ⟨x, hx, rfl, ho, hk⟩
  go_wp2
  go_ret
  exact ⟨x, list_in _ (by decide) x hx, rfl, ho, hk⟩
set_option maxHeartbeats 400000 in
theorem l1Raw_any (p : Nat) (a : Option Addr) (len cap : Nat) (w : World) {B : Nat} (hc : Code w a len B) (hB : B ≤ p) (hcur : Cur w p a len cap) :
    Calls Try.prog 43 #[.pointer (some ⟨p, 0, none⟩)] w fun e w' => ∃ x : Int, inI64 x ∧ e = .returned (.int .i64 x) ∧ Only p w w' ∧ Cur w' p a len cap := by
  go_enter Try.func43, Try.ntmps43
  go_wp2_with fail
  refine (l1Once_any p a len cap _ _ hc hB hcur).mono ?_
  rintro e w1 ⟨b, rfl, ho, hk⟩
  have hc1 := hc.only ho hB
  cases b with
  | true =>
    go_wp2_with fail
    refine (l1Odd_any p a len cap _ hc1 hB hk).mono ?_
    rintro e w2 ⟨x, hx, rfl, ho2, hk2⟩
    go_wp2
    go_ret
    exact ⟨x, hx, rfl, ho.trans ho2, hk2⟩
  | false =>
    go_wp2_with fail
    refine (l1Int_new p a len cap [-2147483648, -2147483647, -3, -1, 0, 1, 3, 7, 2147483647, 2147483648] 3 w1 hc1 hB hk (by decide) (by decide)).mono ?_
    rintro e w2 ⟨x, hx, rfl, ho2, hk2⟩
    go_wp2
    go_ret
    exact ⟨x, list_in _ (by decide) x hx, rfl, ho.trans ho2, hk2⟩

end Go.Proofs.Ytpfddfkjmbnpaac
