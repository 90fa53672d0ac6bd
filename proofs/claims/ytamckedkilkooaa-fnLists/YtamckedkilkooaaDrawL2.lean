/-
  Contracts of chapter 2's draws DrawPacked, DrawUnpacked, DrawGetList, DrawPutList. Own work.
-/
import Derived.Test.YtamckedkilkooaaDrawBend
import Derived.Test.YtamckedkilkooaaDrawB2
import Derived.Test.YtamckedkilkooaaList5
namespace Go.Proofs.Ytamckedkilkooaa
open Go.ChangeShapes Go.WideShapes Go.ChangeAt Go.RowKit

theorem U8.encL {m : Nat} (g : Nat → Int) (hm : m ≤ 255) : U8 (1 + 4 * m) (encL m g) := by
  intro i hi
  unfold Go.Proofs.Ytamckedkilkooaa.encL
  split
  · omega
  · exact U8.enc4 _ _ (by omega)
theorem U8.pl {n m : Nat} {f : Nat → Int} (g : Nat → Int) (hf : U8 n f) : U8 (plN n m) (plF n m f g) := by
  unfold plN plF
  by_cases hm : m ≤ 255
  · rw [if_pos hm, if_pos hm]; exact U8.cat hf (U8.encL g hm)
  · rw [if_neg hm, if_neg hm]; exact hf
set_option maxHeartbeats 400000 in
theorem drawPacked_any (a : Option Addr) (len cap : Nat) (w : World) (hc : Code w a len w.heap.size) :
    Calls Try.prog 27 #[.slice a len cap] w fun e w' => ∃ q c n f, e = .returned (.slice (some ⟨q, 0, none⟩) n c) ∧ n ≤ 4 ∧ I64 n f ∧ Own .i64 w' w.heap.size q (some ⟨q, 0, none⟩) n f ∧ Below w.heap.size w w' := by
  go_enter Try.func27, Try.ntmps27
  go_wp2_with fail
  refine (l1New_any a len cap _ hc).mono ?_
  rintro e w1 ⟨h, rfl, hw⟩
  have hb : Below w.heap.size w w1 := by rw [hw]; exact (Below.refl _ _).alloc (Nat.le_refl _) _
  have hk : Cur w1 w.heap.size a len cap := by rw [hw]; exact Cur.made w a len cap h _
  clear hw
  go_wp2_with fail
  refine (l2List_any w.heap.size a len cap _ (hc.below hb) (Nat.le_refl _) hk).mono ?_
  rintro e w2 ⟨q, c, n, f, rfl, hn, hcp, hi, hoq, ho, hk2, _⟩
  have hb2 := hb.trans (ho.below (Nat.le_refl _) hb.size)
  have hq : w.heap.size ≤ q := Nat.le_trans hb.size hoq.1
  go_wp2
  go_ret
  exact ⟨q, c, n, f, rfl, hn, hi, ⟨hq, hoq.2⟩, hb2⟩
set_option maxHeartbeats 400000 in
theorem drawUnpacked_any (a : Option Addr) (len cap : Nat) (w : World) (hc : Code w a len w.heap.size) :
    Calls Try.prog 30 #[.slice a len cap] w fun e w' => ∃ q c n f, e = .returned (.slice (some ⟨q, 0, none⟩) n c) ∧ DrawnB w q n c f w' := by
  go_enter Try.func30, Try.ntmps30
  go_wp2_with fail
  refine (l1New_any a len cap _ hc).mono ?_
  rintro e w1 ⟨h, rfl, hw⟩
  have hb : Below w.heap.size w w1 := by rw [hw]; exact (Below.refl _ _).alloc (Nat.le_refl _) _
  have hk : Cur w1 w.heap.size a len cap := by rw [hw]; exact Cur.made w a len cap h _
  clear hw
  go_wp2_with fail
  refine (l2List_any w.heap.size a len cap _ (hc.below hb) (Nat.le_refl _) hk).mono ?_
  rintro e w2 ⟨q, c, n, f, rfl, hn, hcp, hi, hoq, ho, hk2, _⟩
  have hb2 := hb.trans (ho.below (Nat.le_refl _) hb.size)
  clear hb hk ho hi
  go_wp2_with fail
  refine (specPacked_any _ q n c f _ hoq.rd).mono ?_
  rintro e w3 ⟨q3, c3, rfl, hb, hoq3⟩
  have hb3 := below_app hb2 hb hb2.size
  have hk3 : Cur w3 w.heap.size a len cap := hk2.same (hb.block _ hk2.1) hb.size
  have hu3 : U8 (plN 0 n) (plF 0 n (fun _ => 0) f) := U8.pl f (fun i hi => by omega)
  have hl3 : plN 0 n ≤ 17 := by unfold plN; rw [if_pos (by omega)]; omega
  clear hb hb2 hoq hk2
  go_wp2_with fail
  refine (l1Bend_any w.heap.size a len cap _ (hc.below hb3) (Nat.le_refl _) hk3 _ q3 (plN 0 n) c3 _ (by omega) hu3 hoq3.rd).mono ?_
  rintro e w4 ⟨q4, c4, n4, f4, rfl, hn4, hcp4, hu4, hoq4, ho, hk4⟩
  have hb4 := hb3.trans (ho.below (Nat.le_refl _) hb3.size)
  have hq : w.heap.size ≤ q4 := Nat.le_trans hb3.size hoq4.1
  go_wp2
  go_ret
  exact ⟨q4, c4, n4, f4, rfl, by omega, hcp4, hu4, ⟨hq, hoq4.2⟩, hb4⟩
set_option maxHeartbeats 1000000 in
theorem drawGetList_any (a : Option Addr) (len cap : Nat) (w : World) (hc : Code w a len w.heap.size) :
    Calls Try.prog 32 #[.slice a len cap] w fun e w' => ∃ q n c f x, e = .returned (.tuple #[.slice (some ⟨q, 0, none⟩) n c, .int .i64 x]) ∧ (-9223372036854775808 ≤ x ∧ x ≤ 9223372036854775807) ∧ DrawnB w q n c f w' := by
  go_enter Try.func32, Try.ntmps32
  go_wp2_with fail
  refine (l1New_any a len cap _ hc).mono ?_
  rintro e w1 ⟨h, rfl, hw⟩
  have hb : Below w.heap.size w w1 := by rw [hw]; exact (Below.refl _ _).alloc (Nat.le_refl _) _
  have hk : Cur w1 w.heap.size a len cap := by rw [hw]; exact Cur.made w a len cap h _
  clear hw
  go_wp2_with fail
  refine (l1Below_any w.heap.size a len cap _ _ (hc.below hb) (Nat.le_refl _) hk).mono ?_
  rintro e w2 ⟨y, hy0, hy1, rfl, ho, hk2⟩
  have hy2 := hy1 (by omega)
  obtain ⟨n, rfl⟩ := Int.eq_ofNat_of_zero_le hy0
  have hb2 := hb.trans (ho.below (Nat.le_refl _) hb.size)
  clear hb ho hk hy1
  go_wp2_with fail
  refine (l1Bytes_any w.heap.size a len cap n _ (hc.below hb2) (Nat.le_refl _) hk2 (by omega)).mono ?_
  rintro e w3 ⟨q, c, f, rfl, hcp, hu, hoq, ho, hk3⟩
  have hb3 := hb2.trans (ho.below (Nat.le_refl _) hb2.size)
  have hq : w.heap.size < q := by have h1 := hoq.1; have h2 := hk2.1; omega
  clear hb2 ho hk2
  go_wp2_with fail
  refine (l2List_any w.heap.size a len cap _ (hc.below hb3) (Nat.le_refl _) hk3).mono ?_
  rintro e w4 ⟨ql, cl, m, g, rfl, hm, _, _, hol, ho, hk4, _⟩
  have hb4 := hb3.trans (ho.below (Nat.le_refl _) hb3.size)
  have hoq4 := hoq.only ho (by omega)
  clear hb3 ho hk3 hoq
  go_wp2_with fail
  refine (specPutList_all _ _ q ql n c m cl f g _ (by omega) hoq4.rd hol.rd).mono ?_
  rintro e w5 ⟨q5, c5, rfl, hb, hoq5⟩
  have hb5 := below_app hb4 hb hb4.size
  have hk5 : Cur w5 w.heap.size a len cap := hk4.same (hb.block _ hk4.1) hb.size
  have hu5 : U8 (plN n m) (plF n m f g) := U8.pl g hu
  have hl5 := plN_le n m
  clear hb hb4 hoq4 hol hk4
  go_wp2_with fail
  refine (l1Bend_any w.heap.size a len cap _ (hc.below hb5) (Nat.le_refl _) hk5 _ q5 (plN n m) c5 _ (by omega) hu5 hoq5.rd).mono ?_
  rintro e w6 ⟨q6, c6, n6, f6, rfl, hn6, hcp6, hu6, hoq6, ho, hk6⟩
  have hb6 := hb5.trans (ho.below (Nat.le_refl _) hb5.size)
  have hq6 : w.heap.size < q6 := by have h1 := hoq6.1; have h2 := hk5.1; omega
  have hm6 : plN n m ≤ 18 := by unfold plN; rw [if_pos (by omega)]; omega
  clear hb5 ho hk5 hoq5 hu5
  go_wp2_with fail
  refine (l1Int_new w.heap.size a len cap [0, 0, 0, 1, -3] 3 w6 (hc.below hb6) (Nat.le_refl _) hk6 (by decide) (by decide)).mono ?_
  rintro e w7 ⟨z, hz, rfl, ho, hk7⟩
  have hoq7 := hoq6.only ho (by omega)
  have hb7 := hb6.trans (ho.below (Nat.le_refl _) hb6.size)
  have hz2 : -3 ≤ z ∧ z ≤ 1 := by simp at hz; omega
  clear hoq6 ho hb6 hk6 hk7 hz
  go_wp2
  go_ret2
  exact ⟨q6, n6, c6, f6, _, rfl, by omega, by omega, hcp6, hu6, ⟨by omega, hoq7.2⟩, hb7⟩
end Go.Proofs.Ytamckedkilkooaa
