/-
  Contracts of chapter 2's PutList: the specification's. Own work.
-/
import Derived.Test.YtamckedkilkooaaBytes2
namespace Go.Proofs.Ytamckedkilkooaa
open Go.ChangeShapes Go.WideShapes Go.ChangeAt Go.RowKit

/-- a list's bytes: how many, and four bytes of each -/
def encL (m : Nat) (g : Nat → Int) : Nat → Int := fun i => if i = 0 then (m : Int) else enc (g ((i - 1) / 4)) ((i - 1) % 4)
theorem encL_step (n m k : Nat) (f g : Nat → Int) : ∀ i, i < n + 1 + 4 * k + 4 → cat (n + 1 + 4 * k) (cat n f (encL m g)) (enc (g k)) i = cat n f (encL m g) i := by
  intro i hi
  unfold cat
  by_cases h : i < n + 1 + 4 * k
  · rw [if_pos h]
  · rw [if_neg h, if_neg (by omega)]
    unfold encL
    rw [if_neg (by omega), show (i - n - 1) / 4 = k by omega, show (i - n - 1) % 4 = i - (n + 1 + 4 * k) by omega]
theorem encL_head (n m : Nat) (f g : Nat → Int) : ∀ i, i < n + 1 → cat n f (fun _ => (m : Int)) i = cat n f (encL m g) i := by
  intro i hi
  unfold cat
  by_cases h : i < n
  · rw [if_pos h, if_pos h]
  · rw [if_neg h, if_neg h, show i - n = 0 by omega]; rfl
theorem vals1 (k : IntKind) (f : Nat → Int) : vals k 1 f = [.int k (f 0)] := rfl

set_option maxHeartbeats 1000000 in
theorem specPutList_any (ad : Addr) (al : Option Addr) (b bl n c m cl : Nat) (f g : Nat → Int) (w : World) (hn : n ≤ 140737488350000) (hm : m ≤ 255) (h : Rd .u8 w b (some ad) n f) (hg : Rd .i64 w bl al m g) :
    Calls Try.prog 38 #[.slice (some ad) n c, .slice al m cl] w fun e w' => ∃ q cap, e = .returned (.slice (some ⟨q, 0, none⟩) (n + 1 + 4 * m) cap) ∧ Below w.heap.size w w' ∧ Own .u8 w' w.heap.size q (some ⟨q, 0, none⟩) (n + 1 + 4 * m) (cat n f (encL m g)) := by
  obtain ⟨i0, hi, hz0, hz1, hz2⟩ := info_parts Try.infoU8
  go_enter Try.func38, Try.ntmps38
  have hb0 : Below w.heap.size w (w.alloc (.cells #[] 5)) := (Below.refl _ _).alloc (Nat.le_refl _) _
  have hown0 : (w.alloc (.cells #[] 5)).ownsRow w.heap.size 5 1 (.slice (some ⟨w.heap.size, 0, none⟩) 0 0) 0 [] := World.ownsRow_lit w #[] 0 (Nat.le_refl _) (by decide) rfl
  have hnews := (h.grew hb0).news
  go_wp2_with (at_builtin; refine wpList_append_own _ rfl (.tmp 7) (.tmp 8) 22 rfl w.heap.size 5 i0 (.int .u8 0) 1 1 Try.underlying22 hi hz0 hz1 hz2 rfl (by decide) _ _ _ rfl hown0 ad n c (vals .u8 n f) rfl (by rw [vals_len, Nat.mul_one]) hnews (vals_one _ _ _) (by unfold maxLen; omega) (by omega) hb0.size ?_)
  intro v1 w1 hown1 hgr1 hnil1
  have hb1 : Below w.heap.size w w1 := hb0.grown hgr1 hb0.size (by intro k hk; simp [Value.ownBlock] at hk; omega)
  clear hown0 hgr1 hnews h
  go_wp2_with (at_builtin; refine wpList_append_own _ rfl (.tmp 14) (.tmp 18) 22 rfl w.heap.size 5 i0 (.int .u8 0) 1 1 Try.underlying22 hi hz0 hz1 hz2 rfl (by decide) _ _ _ rfl (hown1.alloc _) ⟨w1.heap.size, 0, none⟩ 1 1 [_] rfl rfl (cells_new _ _ _) (by intro u hu; simp at hu; subst hu; rfl) (by unfold maxLen; omega) (by omega) (by have := hb1.size; simp; omega) ?_)
  intro v2 w2 hown2 hgr2 hnil2
  have hb2 : Below w.heap.size w w2 := (hb1.alloc hb1.size _).grown hgr2 (by have := hb1.size; simp; omega) (fun k hk => (hown1.lt k hk).1)
  have hown3 : w2.ownsRow w.heap.size 5 1 v2 (n + 1) (vals .u8 (n + 1) (cat n f (fun _ => (m : Int)))) := by
    rw [← vals_cat, vals1]
    exact hown2
  obtain ⟨q, cap, rfl, ho⟩ := own_of hown3 hnil2
  replace ho := ho.congr (encL_head n m f g)
  clear hown2 hown3 hgr2 hnil2 hown1 hnil1 hb1 hb0
  go_wp2
  go_loopw [5, 6] (fun v i wr => ∃ k q cap : Nat, k ≤ m ∧ i = .int .i64 k ∧ v = .slice (some ⟨q, 0, none⟩) (n + 1 + 4 * k) cap ∧ Below w.heap.size w wr ∧ Own .u8 wr w.heap.size q (some ⟨q, 0, none⟩) (n + 1 + 4 * k) (cat n f (encL m g))) (fun _ i _ => m - (intOf i).toNat)
  case atStart => exact ⟨0, q, cap, Nat.zero_le _, rfl, rfl, hb2, ho⟩
  case round =>
    clear ho hb2
    obtain ⟨k, q, cap, hk, rfl, rfl, hb, ho⟩ := hrel
    by_cases hlt : k < m
    · rcases hg.grew hb with h3 | ⟨o1, rfl, h3⟩
      · omega
      have e1 := h3 k hlt
      clear h3
      go_wp2_with fail
      refine (specPutNum_any (g k) _ q (n + 1 + 4 * k) cap _ _ (by omega) ho.rd).mono ?_
      rintro e w3 ⟨q3, cap3, rfl, hb3, ho3⟩
      have hB := below_app hb hb3 hb.size
      have ho4 : Own .u8 w3 w.heap.size q3 (some ⟨q3, 0, none⟩) (n + 1 + 4 * (k + 1)) (cat n f (encL m g)) := ⟨Nat.le_trans hb.size ho3.1, (ho3.congr (encL_step n m k f g)).2⟩
      clear ho3 hb3 ho e1 hb
      go_wp2
      go_roundw
      case rel => exact ⟨k + 1, q3, cap3, by omega, by go_num, rfl, hB, ho4⟩
      case measure => simp [intOf]; omega
    · obtain rfl : k = m := by omega
      go_wp2
      go_ret
      exact ⟨q, cap, rfl, hb, ho⟩
end Go.Proofs.Ytamckedkilkooaa
