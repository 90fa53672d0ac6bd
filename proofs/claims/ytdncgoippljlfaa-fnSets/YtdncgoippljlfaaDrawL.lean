/-
  Contracts of the draws of lists of ints (l2List, DrawPacked) and of 'sameInts', which holds two lists against each other. Own work.
-/
import Derived.Test.YtdncgoippljlfaaDrawB
import Derived.Test.YtdncgoippljlfaaCurLaw
namespace Go.Proofs.Ytdncgoippljlfaa
open Go.ChangeShapes Go.WideShapes Go.ChangeAt Go.RowKit

def I64 (n : Nat) (f : Nat → Int) : Prop := ∀ i, i < n → inI64 (f i)
set_option maxHeartbeats 400000 in
theorem sameInts_same (a1 a2 : Option Addr) (b1 b2 n c1 c2 : Nat) (f : Nat → Int) (w : World) (hn : n ≤ 9223372036854775807) (h1 : Rd .i64 w b1 a1 n f) (h2 : Rd .i64 w b2 a2 n f) :
    Calls Try.prog 37 #[.slice a1 n c1, .slice a2 n c2] w fun e w' => e = .returned (.bool true) ∧ Below w.heap.size w w' := by
  go_enter Try.func37, Try.ntmps37
  go_wp2
  go_loopw [5] (fun i wr => ∃ k : Nat, k ≤ n ∧ i = .int .i64 k ∧ Below w.heap.size w wr) (fun i _ => n - (intOf i).toNat)
  case atStart => exact ⟨0, Nat.zero_le _, rfl, Below.refl _ _⟩
  case round =>
    obtain ⟨k, hk, rfl, hb⟩ := hrel
    by_cases hlt : k < n
    · rcases h1.grew hb with h3 | ⟨o1, rfl, h3⟩
      · omega
      rcases h2.grew hb with h4 | ⟨o2, rfl, h4⟩
      · omega
      have e1 := h3 k hlt
      have e2 := h4 k hlt
      clear h1 h2 h3 h4
      go_wp2
      go_quiet (fail)
      go_wp2
      go_roundw
      case rel => exact ⟨k + 1, by omega, by go_num, below_drewN hb _⟩
      case measure => simp [intOf]; omega
    · go_wp2
      go_ret
      exact ⟨rfl, hb⟩
/-- a list that was drawn -/
def DrawnL (p : Nat) (a : Option Addr) (len cap : Nat) (w : World) (most : Nat) (e : Ending) (w' : World) : Prop :=
  ∃ q c n f, e = .returned (.slice (some ⟨q, 0, none⟩) n c) ∧ n ≤ most ∧ n ≤ c ∧ I64 n f ∧ Own .i64 w' w.heap.size q (some ⟨q, 0, none⟩) n f ∧ Only p w w' ∧ Cur w' p a len cap ∧ w'.ownsRow w.heap.size 3 1 (.slice (some ⟨q, 0, none⟩) n c) n (vals .i64 n f)
set_option maxHeartbeats 1000000 in
theorem l2List_any (p : Nat) (a : Option Addr) (len cap : Nat) (w : World) {B : Nat} (hc : Code w a len B) (hB : B ≤ p) (hcur : Cur w p a len cap) :
    Calls Try.prog 61 #[.pointer (some ⟨p, 0, none⟩)] w fun e w' => DrawnL p a len cap w 4 e w' := by
  obtain ⟨i0, hi, hz0, hz1, hz2⟩ := info_parts Try.infoInt
  have ho0 : Only p w (w.alloc (.cells #[] 3)) := (Only.refl _ _).alloc _
  have ho1 : Only w.heap.size w (w.alloc (.cells #[] 3)) := (Only.refl _ _).alloc _
  have hown0 : (w.alloc (.cells #[] 3)).ownsRow w.heap.size 3 1 (.slice (some ⟨w.heap.size, 0, none⟩) 0 0) 0 [] := World.ownsRow_lit w #[] 0 (Nat.le_refl _) (by decide) rfl
  have hcur0 := hcur.only ho1 (Nat.ne_of_lt hcur.1)
  have hp : p < w.heap.size := hcur.1
  clear hcur ho1
  go_enter Try.func61, Try.ntmps61
  go_wp2_with fail
  refine (l1Below_any p a len cap _ _ (hc.only ho0 hB) hB hcur0).mono ?_
  rintro e w2 ⟨y, hy0, hy1, rfl, ho, hk2⟩
  have hy2 := hy1 (by omega)
  obtain ⟨n, rfl⟩ := Int.eq_ofNat_of_zero_le hy0
  have hown2 := owns_only hown0 ho hp
  have hoo := ho0.trans ho
  clear hown0 ho0 ho hcur0 hy1
  go_wp2
  go_loopw [3, 4] (fun v i wr => ∃ k : Nat, ∃ f : Nat → Int, k ≤ n ∧ i = .int .i64 (n - k) ∧ I64 k f ∧ wr.ownsRow w.heap.size 3 1 v k (vals .i64 k f) ∧ v ≠ .slice none 0 0 ∧ Only p w wr ∧ Cur wr p a len cap) (fun _ i _ => (intOf i).toNat)
  case atStart => exact ⟨0, fun _ => 0, Nat.zero_le _, by simp, fun i hi => by omega, hown2, by simp, hoo, hk2⟩
  case round =>
    clear hown2 hoo hk2
    obtain ⟨k, f, hk, rfl, hu, hown, hnil, ho, hcu⟩ := hrel
    by_cases hlt : k < n
    · have hcc := hc.only ho hB
      go_wp2_with fail
      refine (l1Raw_any p a len cap wr hcc hB hcu).mono ?_
      rintro e w3 ⟨x, hx, rfl, ho3, hcu3⟩
      have hoo := ho.trans ho3
      have hown3 := owns_only hown ho3 hp
      have hs3 : w.heap.size ≤ w3.heap.size := hoo.size
      clear hown ho ho3 hcu hcc
      go_wp2_with (at_builtin; refine wpList_append_own _ rfl (.tmp 12) (.tmp 15) 35 rfl w.heap.size 3 i0 (.int .i64 0) 1 8 Try.underlying35 hi hz0 hz1 hz2 rfl (by decide) _ _ _ rfl (hown3.alloc _) ⟨w3.heap.size, 0, none⟩ 1 1 [_] rfl rfl (cells_new _ _ _) (by intro u hu; simp at hu; subst hu; rfl) (by unfold maxLen; omega) (by omega) (by simp; omega) ?_)
      intro v4 w4 hown4 hgr4 hnil4
      have ho4 : Only p w w4 := (hoo.alloc _).grown hgr4 (fun k hk => (hown3.lt k hk).1)
      have hown5 : w4.ownsRow w.heap.size 3 1 v4 (k + 1) (vals .i64 (k + 1) (fun j => if j = k then x else f j)) := by
        rw [vals_one_snoc', vals_congr (g := f) (fun i hi => by rw [if_neg (by omega)]), if_pos rfl]
        exact hown4
      have hu5 : I64 (k + 1) (fun j => if j = k then x else f j) := fun i hi => by
        show inI64 (if i = k then x else f i)
        split
        · exact hx
        · exact hu i (by omega)
      have hcu4 : Cur w4 p a len cap := hcu3.same ((hgr4.block p (by simp; have := hcu3.1; omega) (fun e => by have := (hown3.lt p e.symm).1; omega)).trans (Below.heap_alloc w3 _ p hcu3.1)) (by have := hgr4.size; simp at this; omega)
      have hnil5 : v4 ≠ .slice none 0 0 := hnil4
      clear hown4 hgr4 hown3 hnil4 hnil hcu3 hoo hx hu
      go_wp2
      go_roundw
      case rel => first | exact ⟨k + 1, _, by omega, by go_num, hu5, hown5, hnil5, ho4, hcu4⟩ | ((repeat apply Exists.intro); exact ⟨⟨k + 1, _, by omega, by go_num, hu5, hown5, hnil5, ho4, hcu4⟩, rfl⟩)
      case measure => simp [intOf]; omega
    · obtain rfl : k = n := by omega
      obtain ⟨q, cp, rfl, hcp, hoq⟩ := own_of_cap hown hnil
      clear hnil
      go_wp2
      go_ret
      exact ⟨q, cp, k, f, rfl, by omega, hcp, hu, hoq, ho, hcu, hown⟩
end Go.Proofs.Ytdncgoippljlfaa
