/-
  What FnLists needs: a list comes back of its bytes, and bytes of the list that they are. Own work.
-/
import Derived.Test.YtamckedkilkooaaDrawL3
import Derived.Test.YtamckedkilkooaaNums
namespace Go.Proofs.Ytamckedkilkooaa
open Go.ChangeShapes Go.WideShapes Go.ChangeAt Go.RowKit

theorem cat_zero (f g : Nat → Int) : ∀ i, cat 0 f g i = g i := fun i => by unfold cat; rw [if_neg (by omega), Nat.sub_zero]
theorem encL_at (m : Nat) (g : Nat → Int) (j k : Nat) (hk : k < 4) : encL m g (1 + 4 * j + k) = enc (g j) k := by
  unfold encL
  rw [if_neg (by omega), show (1 + 4 * j + k - 1) / 4 = j by omega, show (1 + 4 * j + k - 1) % 4 = k by omega]
theorem num4_encL (m : Nat) (g : Nat → Int) (j : Nat) : num4 (encL m g) (1 + 4 * j) = bnd (g j) + 2147483648 := by
  have r := bnd_rng (g j)
  unfold num4
  rw [part4, encL_at _ _ _ 0 (by omega), encL_at _ _ _ 1 (by omega), encL_at _ _ _ 2 (by omega), encL_at _ _ _ 3 (by omega)]
  have e0 : enc (g j) 0 = (bnd (g j) + 2147483648) / 16777216 := rfl
  have e1 : enc (g j) 1 = (bnd (g j) + 2147483648) / 65536 % 256 := rfl
  have e2 : enc (g j) 2 = (bnd (g j) + 2147483648) / 256 % 256 := rfl
  have e3 : enc (g j) 3 = (bnd (g j) + 2147483648) % 256 := rfl
  rw [e0, e1, e2, e3]
  omega
theorem gok_encL {m j : Nat} (g : Nat → Int) (hj : j < m) : gok (1 + 4 * m) (encL m g) (0 + 1 + 4 * (j : Int)) = true := by
  have r := bnd_rng (g j)
  rw [gok_in (by omega), show ((0 : Int) + 1 + 4 * (j : Int)).toNat = 1 + 4 * j by omega, num4_encL]
  simp; omega
theorem gnum_encL {m j : Nat} (g : Nat → Int) (hj : j < m) : gnum (1 + 4 * m) (encL m g) (0 + 1 + 4 * (j : Int)) = bd (g j) := by
  unfold gnum
  rw [if_pos (gok_encL g hj), show ((0 : Int) + 1 + 4 * (j : Int)).toNat = 1 + 4 * j by omega, num4_encL]
  show bnd (g j) + 2147483648 - 2147483648 = bnd (g j)
  omega
theorem glC_encL (m : Nat) (g : Nat → Int) : glC (encL m g) 0 = m := by
  unfold glC
  show ((m : Int)).toNat = m
  omega
theorem glOk_encL (m : Nat) (g : Nat → Int) : glOk (1 + 4 * m) (encL m g) 0 = true :=
  gl_yes (by omega) (fun j hj => gok_encL g (by rw [glC_encL] at hj; exact hj))
theorem unOk_encL (m : Nat) (g : Nat → Int) : unOk (1 + 4 * m) (encL m g) = true := by
  unfold unOk glX
  rw [glOk_encL, glC_encL, if_pos rfl]
  simp
theorem unN_encL (m : Nat) (g : Nat → Int) : unN (1 + 4 * m) (encL m g) = m := by
  unfold unN glN
  rw [if_pos (unOk_encL m g), if_pos (glOk_encL m g), glC_encL]
theorem implPacked_small (al : Option Addr) (bl m cl : Nat) (g : Nat → Int) (w : World) (hm : m ≤ 255) (hg : Rd .i64 w bl al m g) :
    Calls Try.prog 28 #[.slice al m cl] w fun e w' => ∃ q cap, e = .returned (.slice (some ⟨q, 0, none⟩) (1 + 4 * m) cap) ∧ 1 + 4 * m ≤ cap ∧ Below w.heap.size w w' ∧ Own .u8 w' w.heap.size q (some ⟨q, 0, none⟩) (1 + 4 * m) (encL m g) := by
  go_enter Try.func28, Try.ntmps28
  go_wp2_with fail
  refine (implPutList_cap none al 0 bl 0 0 m cl (fun _ => 0) g _ (by omega) hm (.inl rfl) hg).mono ?_
  rintro e w2 ⟨q, cap, rfl, hcp, hb, ho⟩
  rw [Nat.zero_add] at hcp ho
  replace ho := ho.congr (fun i _ => cat_zero _ _ i)
  go_wp2
  go_ret
  exact ⟨q, cap, rfl, hcp, hb, ho⟩
theorem implUnpacked_pack (a : Option Addr) (b m c : Nat) (g : Nat → Int) (w : World) (hm : m ≤ 255) (hcap : 1 + 4 * m ≤ c) (h : Rd .u8 w b a (1 + 4 * m) (encL m g)) :
    Calls Try.prog 29 #[.slice a (1 + 4 * m) c] w fun e w' => ∃ q cap, e = .returned (.tuple #[.slice (some ⟨q, 0, none⟩) m cap, .bool true]) ∧ Below w.heap.size w w' ∧ Own .i64 w' w.heap.size q (some ⟨q, 0, none⟩) m (fun i => bd (g i)) := by
  refine (implUnpacked_any a b (1 + 4 * m) c (encL m g) w (by omega) hcap (U8.encL g hm) h).mono ?_
  rintro e w' ⟨q, cap, h1, h2, h3⟩
  rw [unN_encL, unOk_encL] at h1
  rw [unN_encL] at h3
  exact ⟨q, cap, h1, h2, h3.congr (fun i hi => gnum_encL g hi)⟩
/-- bytes that are a list's are those that Packed makes of it -/
theorem un_back {n : Nat} {f : Nat → Int} (hu : U8 n f) (h : unOk n f = true) : 1 + 4 * unN n f = n ∧ ∀ i, i < n → encL (unN n f) (unF n f) i = f i := by
  unfold unOk at h
  rw [Bool.and_eq_true] at h
  obtain ⟨h1, h2⟩ := h
  have hok : unOk n f = true := by unfold unOk; rw [h1, h2]; rfl
  have h0 : (0 : Int) < (n : Int) := by
    unfold glOk at h1
    rw [Bool.and_eq_true] at h1
    have := of_decide_eq_true h1.1
    exact this.2
  have ec : unN n f = glC f 0 := by unfold unN glN; rw [if_pos hok, if_pos h1]
  have hf0 := hu 0 (by omega)
  have hC : (glC f 0 : Int) = f 0 := by unfold glC; show ((f 0).toNat : Int) = f 0; omega
  have hlen : 1 + 4 * glC f 0 = n := by
    have h3 : glX n f 0 = (n : Int) := by simpa using h2
    unfold glX at h3
    rw [if_pos h1] at h3
    omega
  rw [ec]
  refine ⟨hlen, fun i hi => ?_⟩
  by_cases hi0 : i = 0
  · subst hi0
    show (glC f 0 : Int) = f 0
    exact hC
  · have hj : (i - 1) / 4 < glC f 0 := by omega
    have hg : gok n f (0 + 1 + 4 * (((i - 1) / 4 : Nat) : Int)) = true := by
      unfold glOk at h1
      rw [Bool.and_eq_true] at h1
      exact List.all_eq_true.1 h1.2 _ (List.mem_range.2 hj)
    obtain ⟨i', e1, e2, _, e4⟩ := enc_back hu hg
    have := e4 ((i - 1) % 4) (by omega)
    unfold encL
    rw [if_neg hi0]
    show enc (gnum n f (0 + 1 + 4 * (((i - 1) / 4 : Nat) : Int))) ((i - 1) % 4) = f i
    rw [this]
    congr 1
    omega
theorem implPacked_back (al : Option Addr) (bl cl n : Nat) (f : Nat → Int) (w : World) (hu : U8 n f) (hok : unOk n f = true) (hg : Rd .i64 w bl al (unN n f) (unF n f)) :
    Calls Try.prog 28 #[.slice al (unN n f) cl] w fun e w' => ∃ q cap, e = .returned (.slice (some ⟨q, 0, none⟩) n cap) ∧ Below w.heap.size w w' ∧ Own .u8 w' w.heap.size q (some ⟨q, 0, none⟩) n f := by
  obtain ⟨hl, hf⟩ := un_back hu hok
  refine (implPacked_small al bl (unN n f) cl (unF n f) w (unN_le n f hu) hg).mono ?_
  rintro e w' ⟨q, cap, h1, _, h2, h3⟩
  rw [hl] at h1 h3
  exact ⟨q, cap, h1, h2, h3.congr hf⟩
end Go.Proofs.Ytamckedkilkooaa
