/-
  Contracts of the draws of texts and amounts in chapter 1 (l1Str, DrawNumText, DrawParseNum): each answers an int, or a text, and of memory that was there nothing turns. Own work.
-/
import Derived.Test.YtjfepkhcfeglcaaDoorCur3
import Derived.Test.YtjfepkhcfeglcaaDoorNumText
import Derived.Test.YtjfepkhcfeglcaaDoorCurLaw
namespace Go.Proofs.YtjfepkhcfeglcaaDoor
open Go.ChangeShapes Go.WideShapes Go.ChangeAt Go.RowKit

theorem cells_strs (w : World) (l : List ByteArray) (t : Nat) (i : Nat) (hi : i < l.length) : (w.alloc (.cells (l.map Value.string).toArray t)).cell? ⟨w.heap.size, 0 + i, none⟩ = some (.string (l.getD i ByteArray.empty)) := by
  have e : (w.alloc (.cells (l.map Value.string).toArray t)).heap[w.heap.size]? = some (.cells (l.map Value.string).toArray t) := (MapKept.heap_alloc w _).1
  unfold World.cell?
  rw [e]
  simp [hi]
set_option maxHeartbeats 400000 in
theorem l1Str_new (p : Nat) (a : Option Addr) (len cap : Nat) (l : List ByteArray) (t : Nat) (w : World) {B : Nat} (hc : Code w a len B) (hB : B ≤ p) (hcur : Cur w p a len cap) (hn : 0 < l.length) (hn' : l.length ≤ 9223372036854775807) :
    Calls Tryd.prog 18 #[.pointer (some ⟨p, 0, none⟩), .slice (some ⟨w.heap.size, 0, none⟩) l.length l.length] (w.alloc (.cells (l.map Value.string).toArray t)) fun e w' => ∃ x, x ∈ l ∧ e = .returned (.string x) ∧ Only p w w' ∧ Cur w' p a len cap := by
  have ho := (Only.refl p w).alloc (.cells (l.map Value.string).toArray t)
  have ho2 : Only w.heap.size w (w.alloc (.cells (l.map Value.string).toArray t)) := (Only.refl _ w).alloc _
  have hc0 := hc.only ho hB
  have hk0 := hcur.only ho2 (Nat.ne_of_lt hcur.1)
  have hcells := cells_strs w l t
  have hq : w.heap.size < (w.alloc (.cells (l.map Value.string).toArray t)).heap.size := by show w.heap.size < (w.heap.push _).size; simp
  have hqp : w.heap.size ≠ p := Nat.ne_of_gt hcur.1
  generalize hW : w.alloc (.cells (l.map Value.string).toArray t) = W at *
  generalize hQ : w.heap.size = q at *
  have HQ : Hid (w.heap.size = q) := hQ
  clear hQ hW hcur hc
  go_enter Tryd.func18, Tryd.ntmps18
  go_wp2_with fail
  refine (l1Below_any p a len cap _ _ hc0 hB hk0).mono ?_
  rintro e w1 ⟨x, hx0, hx1, rfl, h1, hk⟩
  have hx2 := hx1 (by omega)
  have hcell : w1.cell? ⟨q, x.toNat, none⟩ = some (.string (l.getD x.toNat ByteArray.empty)) := by
    have := hcells x.toNat (by omega)
    rw [Nat.zero_add] at this
    rw [h1.cell (q := ⟨q, x.toNat, none⟩) hq hqp]
    exact this
  clear hcells
  go_wp2
  go_ret
  have hi : x.toNat < l.length := by omega
  exact ⟨l[x.toNat], List.getElem_mem hi, by simp, ho.trans h1, hk⟩
set_option maxHeartbeats 400000 in
theorem drawNumText_any (a : Option Addr) (len cap : Nat) (w : World) (hc : Code w a len w.heap.size) :
    Calls Tryd.prog 5 #[.slice a len cap] w fun e w' => ∃ x : Int, inI64 x ∧ e = .returned (.int .i64 x) ∧ Below w.heap.size w w' := by
  go_enter Tryd.func5, Tryd.ntmps5
  go_wp2_with fail
  refine (l1New_any a len cap _ hc).mono ?_
  rintro e w1 ⟨h, rfl, hw⟩
  have hb : Below w.heap.size w w1 := by rw [hw]; exact (Below.refl _ _).alloc (Nat.le_refl _) _
  have hk : Cur w1 w.heap.size a len cap := by rw [hw]; exact Cur.made w a len cap h _
  clear hw
  go_wp2_with fail
  refine (l1Raw_any w.heap.size a len cap _ (hc.below hb) (Nat.le_refl _) hk).mono ?_
  rintro e w2 ⟨x, hx, rfl, ho, hk2⟩
  go_wp2
  go_ret
  exact ⟨x, hx, rfl, hb.trans (ho.below (Nat.le_refl _) hb.size)⟩
theorem itoa_len (n : Int) (h0 : -9223372036854775808 ≤ n) (h1 : n ≤ 9223372036854775807) : (Lib.itoa n).length ≤ 21 := by
  have hb := dig_len 19 n.natAbs (by have : (10 : Nat) ^ (19 + 1) = 100000000000000000000 := by decide
                                     omega)
  unfold Lib.itoa
  by_cases hn : n < 0
  · rw [if_pos hn]; simp; omega
  · rw [if_neg hn]
    have e : n.toNat = n.natAbs := by omega
    rw [e]; omega
/-- the texts that are drawn -/
def numTexts : List ByteArray := [⟨#[]⟩, ⟨#[45]⟩, ⟨#[48]⟩, ⟨#[45, 48]⟩, ⟨#[48, 48]⟩, ⟨#[48, 49]⟩, ⟨#[45, 48, 49]⟩, ⟨#[55]⟩, ⟨#[45, 55]⟩, ⟨#[50, 49, 52, 55, 52, 56, 51, 54, 52, 55]⟩, ⟨#[50, 49, 52, 55, 52, 56, 51, 54, 52, 56]⟩, ⟨#[45, 50, 49, 52, 55, 52, 56, 51, 54, 52, 55]⟩, ⟨#[45, 50, 49, 52, 55, 52, 56, 51, 54, 52, 56]⟩, ⟨#[57, 57, 57, 57, 57, 57, 57, 57, 57, 57, 57]⟩, ⟨#[49, 120]⟩, ⟨#[32, 49]⟩]
theorem numTexts_size (x : ByteArray) (h : x ∈ numTexts) : x.size ≤ 21 := by
  have ha : numTexts.all (fun x => decide (x.size ≤ 21)) = true := by decide
  simpa using List.all_eq_true.1 ha x h
set_option maxHeartbeats 800000 in
theorem drawParseNum_any (a : Option Addr) (len cap : Nat) (w : World) (hc : Code w a len w.heap.size) :
    Calls Tryd.prog 8 #[.slice a len cap] w fun e w' => ∃ t : ByteArray, t.size ≤ 21 ∧ e = .returned (.string t) ∧ Below w.heap.size w w' := by
  go_enter Tryd.func8, Tryd.ntmps8
  go_wp2_with fail
  refine (l1New_any a len cap _ hc).mono ?_
  rintro e w1 ⟨h, rfl, hw⟩
  have hb : Below w.heap.size w w1 := by rw [hw]; exact (Below.refl _ _).alloc (Nat.le_refl _) _
  have hk : Cur w1 w.heap.size a len cap := by rw [hw]; exact Cur.made w a len cap h _
  clear hw
  go_wp2_with fail
  refine (l1Once_any w.heap.size a len cap _ _ (hc.below hb) (Nat.le_refl _) hk).mono ?_
  rintro e w2 ⟨b, rfl, ho, hk2⟩
  have hb2 := hb.trans (ho.below (Nat.le_refl _) hb.size)
  cases b with
  | true =>
    go_wp2_with fail
    refine (l1Str_new w.heap.size a len cap numTexts 9 w2 (hc.below hb2) (Nat.le_refl _) hk2 (by decide) (by decide)).mono ?_
    rintro e w3 ⟨x, hx, rfl, ho3, hk3⟩
    go_wp2
    go_ret
    exact ⟨x, numTexts_size x hx, rfl, hb2.trans (ho3.below (Nat.le_refl _) hb2.size)⟩
  | false =>
    go_wp2_with fail
    refine (l1Raw_any w.heap.size a len cap _ (hc.below hb2) (Nat.le_refl _) hk2).mono ?_
    rintro e w3 ⟨x, hx, rfl, ho3, hk3⟩
    have hb3 := hb2.trans (ho3.below (Nat.le_refl _) hb2.size)
    go_wp2_with fail
    refine (specNumText_any _ _ hx.1 hx.2).mono ?_
    rintro e w4 ⟨rfl, hb4⟩
    have hb5 := hb3.trans (hb4.mono hb3.size)
    go_wp2
    go_ret
    exact ⟨_, by show (Lib.itoa x).toArray.size ≤ 21; simpa using itoa_len x hx.1 hx.2, rfl, hb5⟩
end Go.Proofs.YtjfepkhcfeglcaaDoor
