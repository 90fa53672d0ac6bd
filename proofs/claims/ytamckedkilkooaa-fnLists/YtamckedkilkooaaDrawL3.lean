/-
  The contract of chapter 2's draw DrawPutList. Own work.
-/
import Derived.Test.YtamckedkilkooaaDrawL2
namespace Go.Proofs.Ytamckedkilkooaa
open Go.ChangeShapes Go.WideShapes Go.ChangeAt Go.RowKit

def lenOf : Value → Nat | .slice _ n _ => n | _ => 0
def DrawnPL (w : World) (e : Ending) (w' : World) : Prop :=
  ∃ q n c f ql m cl g, e = .returned (.tuple #[.slice (some ⟨q, 0, none⟩) n c, .slice (some ⟨ql, 0, none⟩) m cl]) ∧ n ≤ 2 ∧ m ≤ 260 ∧ Own .u8 w' w.heap.size q (some ⟨q, 0, none⟩) n f ∧ Own .i64 w' w.heap.size ql (some ⟨ql, 0, none⟩) m g ∧ Below w.heap.size w w'
set_option maxHeartbeats 1000000 in
theorem drawPutList_any (a : Option Addr) (len cap : Nat) (w : World) (hc : Code w a len w.heap.size) :
    Calls Try.prog 35 #[.slice a len cap] w fun e w' => DrawnPL w e w' := by
  obtain ⟨i0, hi, hz0, hz1, hz2⟩ := info_parts Try.infoInt
  go_enter Try.func35, Try.ntmps35
  go_wp2_with fail
  refine (l1New_any a len cap _ hc).mono ?_
  rintro e w1 ⟨h, rfl, hw⟩
  have hb : Below w.heap.size w w1 := by rw [hw]; exact (Below.refl _ _).alloc (Nat.le_refl _) _
  have hk : Cur w1 w.heap.size a len cap := by rw [hw]; exact Cur.made w a len cap h _
  clear hw
  go_wp2_with fail
  refine (l1Below_any w.heap.size a len cap _ _ (hc.below hb) (Nat.le_refl _) hk).mono ?_
  rintro e w2 ⟨y, hy0, hy1, rfl, ho, hk2⟩
  have hy2 := hy1 (by omega)
  obtain ⟨n, rfl⟩ := Int.eq_ofNat_of_zero_le hy0
  have hb2 := hb.trans (ho.below (Nat.le_refl _) hb.size)
  clear hb ho hk hy1
  go_wp2_with fail
  refine (l1Bytes_any w.heap.size a len cap n _ (hc.below hb2) (Nat.le_refl _) hk2 (by omega)).mono ?_
  rintro e w3 ⟨q, c, f, rfl, hcp, hu, hoq, ho, hk3⟩
  have hb3 := hb2.trans (ho.below (Nat.le_refl _) hb2.size)
  have hq : w.heap.size < q := by have h1 := hoq.1; have h2 := hk2.1; omega
  have hq3 : q < w3.heap.size := hoq.2.1
  clear hb2 ho hk2 hcp hu
  go_wp2_with fail
  refine (l2List_any w.heap.size a len cap _ (hc.below hb3) (Nat.le_refl _) hk3).mono ?_
  rintro e w4 ⟨ql, cl, m, g, rfl, hm, _, _, hol, ho, hk4, hown⟩
  have hb4 := hb3.trans (ho.below (Nat.le_refl _) hb3.size)
  have hoq4 := hoq.only ho (by omega)
  have hs3 : w.heap.size ≤ w3.heap.size := hb3.size
  clear hb3 ho hk3 hoq
  go_wp2_with fail
  refine (l1Once_any w.heap.size a len cap _ _ (hc.below hb4) (Nat.le_refl _) hk4).mono ?_
  rintro e w5 ⟨t, rfl, ho, hk5⟩
  have hb5 := hb4.trans (ho.below (Nat.le_refl _) hb4.size)
  have hoq5 := hoq4.only ho (by omega)
  have hol5 := hol.only ho (by have := hol.1; omega)
  have hown5 := owns_only hown ho (by omega)
  clear hb4 ho hk4 hoq4 hol hown
  cases t with
  | false =>
    go_wp2
    go_ret2
    exact ⟨q, n, c, f, ql, m, cl, g, rfl, by omega, by omega, ⟨by omega, hoq5.2⟩, ⟨by have := hol5.1; omega, hol5.2⟩, hb5⟩
  | true =>
    clear hol5
    go_wp2
    go_loopw [6] (fun v wr => ∃ k ql cl : Nat, ∃ g : Nat → Int, k ≤ 256 ∧ v = .slice (some ⟨ql, 0, none⟩) k cl ∧ wr.ownsRow w3.heap.size 3 1 v k (vals .i64 k g) ∧ Below w.heap.size w wr ∧ Cur wr w.heap.size a len cap ∧ Own .u8 wr w.heap.size q (some ⟨q, 0, none⟩) n f) (fun v _ => 256 - lenOf v)
    case atStart => exact ⟨m, ql, cl, g, by omega, rfl, hown5, hb5, hk5, ⟨by omega, hoq5.2⟩⟩
    case round =>
      clear hown5 hb5 hk5 hoq5 hm
      obtain ⟨k, ql, cl, g, hk, rfl, hown, hb, hcu, hoq⟩ := hrel
      go_wp2_with fail
      refine (l1Int_new w.heap.size a len cap [255, 256] 3 wr (hc.below hb) (Nat.le_refl _) hcu (by decide) (by decide)).mono ?_
      rintro e w6 ⟨z, hz, rfl, ho, hcu6⟩
      have hzr : 255 ≤ z ∧ z ≤ 256 := by simp at hz; omega
      have hown6 := owns_only hown ho (by omega)
      have hoq6 := hoq.only ho (by omega)
      have hb6 := hb.trans (ho.below (Nat.le_refl _) hb.size)
      have hs6 : w3.heap.size ≤ w6.heap.size := by
        have h1 := hown6.lt ql rfl
        omega
      clear hown hb hcu hoq ho hz
      by_cases hlt : (k : Int) < z
      · go_wp2_with (at_builtin; refine wpList_append_own _ rfl (.tmp 23) (.tmp 24) 35 rfl w3.heap.size 3 i0 (.int .i64 0) 1 8 Try.underlying35 hi hz0 hz1 hz2 rfl (by decide) _ _ _ rfl (hown6.alloc _) ⟨w6.heap.size, 0, none⟩ 1 1 [_] rfl rfl (cells_new _ _ _) (by intro u hu; simp at hu; subst hu; rfl) (by unfold maxLen; omega) (by omega) (by simp; omega) ?_)
        intro v7 w7 hown7 hgr7 hnil7
        have hown8 : w7.ownsRow w3.heap.size 3 1 v7 (k + 1) (vals .i64 (k + 1) (fun j => if j = k then 1 else g j)) := by
          rw [vals_one_snoc', vals_congr (g := g) (fun i hi => by rw [if_neg (by omega)]), if_pos rfl]
          exact hown7
        have hnil8 : v7 ≠ .slice none 0 0 := hnil7
        have hrow : ∀ k', (Value.slice (some ⟨ql, 0, none⟩) k cl).ownBlock = some k' → w3.heap.size ≤ k' := fun k' hk' => (hown6.lt k' hk').1
        have hb7 : Below w.heap.size w w7 := (hb6.alloc hb6.size _).grown hgr7 (by have := hb6.size; simp; omega) (fun k' hk' => by have := hrow k' hk'; omega)
        have hsame : ∀ x, x < w3.heap.size → w7.heap[x]? = w6.heap[x]? := fun x hx => (hgr7.block x (by simp; omega) (fun e => by have := hrow x e.symm; omega)).trans (Below.heap_alloc w6 _ x (by omega))
        have hsz : w6.heap.size ≤ w7.heap.size := by have := hgr7.size; simp at this; omega
        have hcu7 : Cur w7 w.heap.size a len cap := hcu6.same (hsame _ (by omega)) hsz
        have hoq7 : Own .u8 w7 w.heap.size q (some ⟨q, 0, none⟩) n f := hoq6.same (hsame _ hq3) hsz
        obtain ⟨q7, c7, rfl, _, _⟩ := own_of_cap hown8 hnil8
        clear hown7 hgr7 hnil7 hnil8 hown6 hrow hsame hsz hcu6 hoq6 hb6
        go_wp2
        go_roundw
        case rel => first | exact ⟨k + 1, q7, c7, _, by omega, rfl, hown8, hb7, hcu7, hoq7⟩ | ((repeat apply Exists.intro); exact ⟨⟨k + 1, q7, c7, _, by omega, rfl, hown8, hb7, hcu7, hoq7⟩, rfl⟩)
        case measure => simp [lenOf]; omega
      · obtain ⟨q8, c8, e8, hol8⟩ := own_of hown6 (by simp)
        simp only [Value.slice.injEq, Option.some.injEq, Addr.mk.injEq, and_true, true_and] at e8
        obtain ⟨rfl, rfl⟩ := e8
        have hl8 := hol8.1
        clear hown6
        go_wp2
        go_ret2
        exact ⟨q, n, c, f, ql, k, cl, g, rfl, by omega, by omega, hoq6, ⟨by omega, hol8.2⟩, hb6⟩
end Go.Proofs.Ytamckedkilkooaa
