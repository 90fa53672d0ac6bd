/-
  Contracts of chapter 2's draws DrawPutNum, DrawGetNum. Own work.
-/
import Derived.Test.YtamckedkilkooaaDrawB
import Derived.Test.YtamckedkilkooaaCurLaw
namespace Go.Proofs.Ytamckedkilkooaa
open Go.ChangeShapes Go.WideShapes Go.ChangeAt Go.RowKit

/-- bytes that were drawn: a slice of the call's own, with its capacity, and what it reads -/
def DrawnB (w : World) (q n c : Nat) (f : Nat → Int) (w' : World) : Prop := n ≤ 100 ∧ n ≤ c ∧ U8 n f ∧ Own .u8 w' w.heap.size q (some ⟨q, 0, none⟩) n f ∧ Below w.heap.size w w'
theorem U8.enc4 (n : Int) : U8 4 (enc n) := by
  have r := bnd_rng n
  intro i hi
  unfold enc
  (repeat' split) <;> omega
theorem U8.cat {n m : Nat} {f g : Nat → Int} (hf : U8 n f) (hg : U8 m g) : U8 (n + m) (cat n f g) := by
  intro i hi
  unfold Go.Proofs.Ytamckedkilkooaa.cat
  split
  · exact hf i (by assumption)
  · exact hg (i - n) (by omega)
set_option maxHeartbeats 400000 in
theorem drawPutNum_any (a : Option Addr) (len cap : Nat) (w : World) (hc : Code w a len w.heap.size) :
    Calls Try.prog 21 #[.slice a len cap] w fun e w' => ∃ q n c f x, e = .returned (.tuple #[.slice (some ⟨q, 0, none⟩) n c, .int .i64 x]) ∧ inI64 x ∧ DrawnB w q n c f w' := by
  go_enter Try.func21, Try.ntmps21
  go_wp2_with fail
  refine (l1New_any a len cap _ hc).mono ?_
  rintro e w1 ⟨h, rfl, hw⟩
  have hb : Below w.heap.size w w1 := by rw [hw]; exact (Below.refl _ _).alloc (Nat.le_refl _) _
  have hk : Cur w1 w.heap.size a len cap := by rw [hw]; exact Cur.made w a len cap h _
  clear hw
  go_wp2_with fail
  refine (l1Below_any w.heap.size a len cap _ _ (hc.below hb) (Nat.le_refl _) hk).mono ?_
  rintro e w2 ⟨y, hy0, hy1, rfl, ho, hk2⟩
  have hy2 := hy1 (by omega)
  obtain ⟨n, rfl⟩ := Int.eq_ofNat_of_zero_le hy0
  have hb2 := hb.trans (ho.below (Nat.le_refl _) hb.size)
  clear hb ho hk hy1
  go_wp2_with fail
  refine (l1Bytes_any w.heap.size a len cap n _ (hc.below hb2) (Nat.le_refl _) hk2 (by omega)).mono ?_
  rintro e w3 ⟨q, c, f, rfl, hcp, hu, hoq, ho, hk3⟩
  have hb3 := hb2.trans (ho.below (Nat.le_refl _) hb2.size)
  have hq : w.heap.size < q := by have h1 := hoq.1; have h2 := hk2.1; omega
  clear hb2 ho hk2
  go_wp2_with fail
  refine (l1Raw_any w.heap.size a len cap _ (hc.below hb3) (Nat.le_refl _) hk3).mono ?_
  rintro e w4 ⟨x, hx, rfl, ho, hk4⟩
  have hoq4 := hoq.only ho (by omega)
  have hb4 := hb3.trans (ho.below (Nat.le_refl _) hb3.size)
  clear hoq hk3 hb3 ho
  go_wp2
  go_ret2
  exact ⟨q, n, c, f, x, rfl, hx, by omega, hcp, hu, ⟨by omega, hoq4.2⟩, hb4⟩
set_option maxHeartbeats 1000000 in
theorem drawGetNum_any (a : Option Addr) (len cap : Nat) (w : World) (hc : Code w a len w.heap.size) :
    Calls Try.prog 24 #[.slice a len cap] w fun e w' => ∃ q n c f x, e = .returned (.tuple #[.slice (some ⟨q, 0, none⟩) n c, .int .i64 x]) ∧ inI64 x ∧ DrawnB w q n c f w' := by
  go_enter Try.func24, Try.ntmps24
  go_wp2_with fail
  refine (l1New_any a len cap _ hc).mono ?_
  rintro e w1 ⟨h, rfl, hw⟩
  have hb : Below w.heap.size w w1 := by rw [hw]; exact (Below.refl _ _).alloc (Nat.le_refl _) _
  have hk : Cur w1 w.heap.size a len cap := by rw [hw]; exact Cur.made w a len cap h _
  clear hw
  go_wp2_with fail
  refine (l1Once_any w.heap.size a len cap _ _ (hc.below hb) (Nat.le_refl _) hk).mono ?_
  rintro e w2 ⟨t, rfl, ho, hk2⟩
  have hb2 := hb.trans (ho.below (Nat.le_refl _) hb.size)
  clear hb ho hk
  cases t with
  | true =>
    go_wp2_with fail
    refine (l1Byte_any w.heap.size a len cap _ (hc.below hb2) (Nat.le_refl _) hk2).mono ?_
    rintro e w3 ⟨y, hy0, hy1, rfl, ho, hk3⟩
    have hb3 := hb2.trans (ho.below (Nat.le_refl _) hb2.size)
    clear hb2 ho hk2
    obtain ⟨w4, hw4⟩ : ∃ w4, w4 = w3.alloc (.cells (vals .u8 5 (fun j => if j = 4 then y else 0)).toArray 5) := ⟨_, rfl⟩
    have hoq : Own .u8 w4 w.heap.size w3.heap.size (some ⟨w3.heap.size, 0, none⟩) 5 (fun j => if j = 4 then y else 0) := by rw [hw4]; exact own_row (heap_alloc_new w3 _) hb3.size
    have hb4 : Below w.heap.size w w4 := by rw [hw4]; exact hb3.alloc hb3.size _
    have hk4 : Cur w4 w.heap.size a len cap := by rw [hw4]; exact hk3.only ((Only.refl w3.heap.size w3).alloc _) (Nat.ne_of_lt hk3.1)
    have hu : U8 5 (fun j => if j = 4 then y else 0) := fun i hi => by
      show 0 ≤ (if i = 4 then y else 0) ∧ (if i = 4 then y else 0) ≤ 255
      split <;> omega
    have HW : Hid (w4 = w3.alloc (.cells (vals .u8 5 (fun j => if j = 4 then y else 0)).toArray 5)) := hw4
    have hs3 : w.heap.size < w3.heap.size := hk3.1
    clear hw4 hk3 hb3
    go_wp2_with fail
    have e5 : (#[Value.int .u8 0, Value.int .u8 0, Value.int .u8 0, Value.int .u8 0, Value.int .u8 y] : Array Value) = (vals .u8 5 (fun j => if j = 4 then y else 0)).toArray := rfl
    rw [e5, ← HW.out]
    clear HW e5
    refine (l1Below_any w.heap.size a len cap _ _ (hc.below hb4) (Nat.le_refl _) hk4).mono ?_
    rintro e w5 ⟨z, hz0, hz1, rfl, ho, hk5⟩
    have hz2 := hz1 (by omega)
    have hoq5 := hoq.only ho (by omega)
    have hb5 := hb4.trans (ho.below (Nat.le_refl _) hb4.size)
    clear hoq hb4 ho hk4 hk5 hz1
    go_wp2
    go_ret2
    exact ⟨_, 5, 5, _, z, rfl, ⟨by omega, by omega⟩, by omega, by omega, hu, hoq5, hb5⟩
  | false =>
    go_wp2_with fail
    refine (l1Below_any w.heap.size a len cap _ _ (hc.below hb2) (Nat.le_refl _) hk2).mono ?_
    rintro e w3 ⟨y, hy0, hy1, rfl, ho, hk3⟩
    have hy2 := hy1 (by omega)
    obtain ⟨n, rfl⟩ := Int.eq_ofNat_of_zero_le hy0
    have hb3 := hb2.trans (ho.below (Nat.le_refl _) hb2.size)
    clear hb2 ho hk2 hy1
    go_wp2_with fail
    refine (l1Bytes_any w.heap.size a len cap n _ (hc.below hb3) (Nat.le_refl _) hk3 (by omega)).mono ?_
    rintro e w4 ⟨q, c, f, rfl, hcp, hu, hoq, ho, hk4⟩
    have hb4 := hb3.trans (ho.below (Nat.le_refl _) hb3.size)
    have hq : w.heap.size < q := by have h1 := hoq.1; have h2 := hk3.1; omega
    clear hb3 ho hk3
    go_wp2_with fail
    refine (l1Raw_any w.heap.size a len cap _ (hc.below hb4) (Nat.le_refl _) hk4).mono ?_
    rintro e w5 ⟨x, hx, rfl, ho, hk5⟩
    have hoq5 := hoq.only ho (by omega)
    have hb5 := hb4.trans (ho.below (Nat.le_refl _) hb4.size)
    clear hoq hk4 hb4 ho
    go_wp2_with fail
    refine (specPutNum_cap x _ q n c f _ (by omega) hoq5.rd).mono ?_
    rintro e w6 ⟨q6, c6, rfl, hc6, hb, hoq6⟩
    have hb6 := below_app hb5 hb hb5.size
    have hk6 : Cur w6 w.heap.size a len cap := hk5.same (hb.block _ hk5.1) hb.size
    have hq6 : w.heap.size < q6 := by have h1 := hoq6.1; have h2 := hk5.1; omega
    have hu6 : U8 (n + 4) (cat n f (enc x)) := U8.cat hu (U8.enc4 x)
    clear hoq5 hb hb5 hk5
    go_wp2_with fail
    refine (l1Int_new w.heap.size a len cap [0, 0, 1, 2, -1, 9223372036854775807] 3 w6 (hc.below hb6) (Nat.le_refl _) hk6 (by decide) (by decide)).mono ?_
    rintro e w7 ⟨z, hz, rfl, ho, hk7⟩
    have hoq7 := hoq6.only ho (by omega)
    have hb7 := hb6.trans (ho.below (Nat.le_refl _) hb6.size)
    have hz2 := list_in _ (by decide) z hz
    clear hoq6 ho hb6 hk6 hk7 hz
    go_wp2
    go_ret2
    exact ⟨q6, n + 4, c6, _, z, rfl, hz2, by omega, hc6, hu6, ⟨by omega, hoq7.2⟩, hb7⟩
end Go.Proofs.Ytamckedkilkooaa
