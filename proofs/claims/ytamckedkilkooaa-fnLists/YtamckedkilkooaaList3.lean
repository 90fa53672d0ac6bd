/-
  Contracts of chapter 2's GetList: the specification's. Own work.
-/
import Derived.Test.YtamckedkilkooaaBytes3
namespace Go.Proofs.Ytamckedkilkooaa
open Go.ChangeShapes Go.WideShapes Go.ChangeAt Go.RowKit

/-- how many numbers a list at that place says it has; whether they are there; how many come back, which, and the place behind -/
def glC (f : Nat → Int) (at' : Int) : Nat := (f at'.toNat).toNat
def glOk (n : Nat) (f : Nat → Int) (at' : Int) : Bool := decide (0 ≤ at' ∧ at' < (n : Int)) && (List.range (glC f at')).all (fun j => gok n f (at' + 1 + 4 * (j : Int)))
def glN (n : Nat) (f : Nat → Int) (at' : Int) : Nat := if glOk n f at' = true then glC f at' else 0
def glF (n : Nat) (f : Nat → Int) (at' : Int) : Nat → Int := fun j => gnum n f (at' + 1 + 4 * (j : Int))
def glX (n : Nat) (f : Nat → Int) (at' : Int) : Int := if glOk n f at' = true then at' + 1 + 4 * (glC f at' : Int) else 0
theorem gl_out {n : Nat} {f : Nat → Int} {at' : Int} (h : ¬ (0 ≤ at' ∧ at' < (n : Int))) : glOk n f at' = false := by simp only [glOk, h]; simp
theorem gl_no {n : Nat} {f : Nat → Int} {at' : Int} {j : Nat} (hj : j < glC f at') (h : gok n f (at' + 1 + 4 * (j : Int)) = false) : glOk n f at' = false := by
  unfold glOk
  rw [Bool.and_eq_false_iff]
  refine .inr ?_
  rw [List.all_eq_false]
  exact ⟨j, List.mem_range.2 hj, by simp [h]⟩
theorem gl_yes {n : Nat} {f : Nat → Int} {at' : Int} (hr : 0 ≤ at' ∧ at' < (n : Int)) (h : ∀ j, j < glC f at' → gok n f (at' + 1 + 4 * (j : Int)) = true) : glOk n f at' = true := by
  unfold glOk
  rw [Bool.and_eq_true]
  exact ⟨by simpa using hr, List.all_eq_true.2 fun j hj => h j (List.mem_range.1 hj)⟩
theorem glN_le (n : Nat) (f : Nat → Int) (at' : Int) (hu : U8 n f) : glN n f at' ≤ 255 := by
  unfold glN
  split
  · rename_i h
    have h1 : 0 ≤ at' ∧ at' < (n : Int) := by
      unfold glOk at h
      rw [Bool.and_eq_true] at h
      simpa using h.1
    have := hu at'.toNat (by omega)
    unfold glC
    omega
  · omega
theorem gl_bad {n : Nat} {f : Nat → Int} {at' : Int} {q : Nat} (h : glOk n f at' = false) : Ending.returned (.tuple #[.slice (some ⟨q, 0, none⟩) 0 0, .int .i64 0, .bool false]) = .returned (.tuple #[.slice (some ⟨q, 0, none⟩) (glN n f at') 0, .int .i64 (glX n f at'), .bool (glOk n f at')]) := by
  simp [glN, glX, h]
theorem gl_good {n : Nat} {f : Nat → Int} {at' : Int} {q cap : Nat} (h : glOk n f at' = true) : Ending.returned (.tuple #[.slice (some ⟨q, 0, none⟩) (glC f at') cap, .int .i64 (at' + 1 + 4 * (glC f at' : Int)), .bool true]) = .returned (.tuple #[.slice (some ⟨q, 0, none⟩) (glN n f at') cap, .int .i64 (glX n f at'), .bool (glOk n f at')]) := by
  simp [glN, glX, h]
/-- an empty slice that was laid just now -/
theorem own_lit0 {k : IntKind} {w : World} {B : Nat} {t : TypeId} {f : Nat → Int} (h : B ≤ w.heap.size) : Own k (w.alloc (.cells #[] t)) B w.heap.size (some ⟨w.heap.size, 0, none⟩) 0 f :=
  ⟨h, by simp, .inl rfl, free_row (heap_alloc_new w _)⟩
theorem owns_kept {w w' : World} {B : Nat} {e : TypeId} {v : Value} {n : Nat} {xs : List Value} (h : w.ownsRow B e 1 v n xs) (hb : Below w.heap.size w w') : w'.ownsRow B e 1 v n xs :=
  h.kept (row := none) ⟨hb.os, hb.tape, hb.output, hb.size, fun k hk _ => hb.block k hk⟩ (by cases v.ownBlock <;> simp)
theorem gnext_ok {n : Nat} {f : Nat → Int} {at' : Int} (h : gok n f at' = true) : gnext n f at' = at' + 4 := by unfold gnext; rw [if_pos h]
theorem gok_rng {n : Nat} {f : Nat → Int} {at' : Int} (h : gok n f at' = true) : at' ≤ (n : Int) - 4 := by
  unfold gok at h
  rw [Bool.and_eq_true] at h
  have := of_decide_eq_true h.1
  exact this.2
theorem vals_one_snoc (k : IntKind) (n : Nat) (f : Nat → Int) : vals k (n + 1) f = vals k n f ++ [.int k (f n)] := by
  symm
  refine vals_ext (by simp [vals_len]) (fun j hj => ?_)
  by_cases h : j < n
  · rw [List.getElem?_append_left (by rw [vals_len]; exact h), vals_get, if_pos h]
  · rw [List.getElem?_append_right (by rw [vals_len]; omega), vals_len, show j - n = 0 by omega]
    obtain rfl : j = n := by omega
    rfl
def GlPost (n : Nat) (f : Nat → Int) (at' : Int) (w : World) (e : Ending) (w' : World) : Prop :=
  ∃ q cap, e = .returned (.tuple #[.slice (some ⟨q, 0, none⟩) (glN n f at') cap, .int .i64 (glX n f at'), .bool (glOk n f at')]) ∧ Below w.heap.size w w' ∧ Own .i64 w' w.heap.size q (some ⟨q, 0, none⟩) (glN n f at') (glF n f at')
theorem gl_post_bad {n : Nat} {f : Nat → Int} {at' : Int} {w wr : World} {t : TypeId} (h : glOk n f at' = false) (hb : Below w.heap.size w wr) :
    GlPost n f at' w (.returned (.tuple #[.slice (some ⟨wr.heap.size, 0, none⟩) 0 0, .int .i64 0, .bool false])) (wr.alloc (.cells #[] t)) := by
  refine ⟨wr.heap.size, 0, gl_bad h, hb.alloc hb.size _, ?_⟩
  have e : glN n f at' = 0 := by simp [glN, h]
  rw [e]
  exact own_lit0 hb.size

set_option maxHeartbeats 1000000 in
theorem specGetList_run (a : Option Addr) (b n c i m : Nat) (f : Nat → Int) (w : World) (hn : n ≤ 140737488351232) (hin : i < n) (hM : Hid (f i = (m : Int))) (hm : m ≤ 255) (hu : U8 n f) (h : Rd .u8 w b a n f) :
    Calls Try.prog 34 #[.slice a n c, .int .i64 i] w fun e w' => GlPost n f i w e w' := by
  obtain ⟨i0, hi, hz0, hz1, hz2⟩ := info_parts Try.infoInt
  have HC : Hid (glC f (i : Int) = m) := show _ = _ by unfold glC; rw [Int.toNat_natCast, hM.out]; omega
  have hb0 : Below w.heap.size w (w.alloc (.cells #[] 3)) := below_new _ _
  have hown0 : (w.alloc (.cells #[] 3)).ownsRow w.heap.size 3 1 (.slice (some ⟨w.heap.size, 0, none⟩) 0 0) 0 [] := World.ownsRow_lit w #[] 0 (Nat.le_refl _) (by decide) rfl
  have h2 := h.grew hb0
  rcases h2 with h2 | ⟨off, rfl, h2⟩
  · omega
  have e1 := h2 i hin
  rw [hM.out] at e1
  clear h2
  have hd1 : decide ((i : Int) < 0) = false := by simp
  have hd2 : decide (n ≤ i) = false := by simp; omega
  go_enter Try.func34, Try.ntmps34
  go_wp2
  go_loopw [7, 8, 9] (fun v k r wr => ∃ j : Nat, j ≤ m ∧ k = .int .i64 (i + 1 + 4 * j) ∧ r = .int .i64 (m - j) ∧ Below w.heap.size w wr ∧ wr.ownsRow w.heap.size 3 1 v j (vals .i64 j (glF n f i)) ∧ v ≠ .slice none 0 0 ∧ Hid (∀ j', j' < j → gok n f ((i : Int) + 1 + 4 * (j' : Int)) = true)) (fun _ _ r _ => (intOf r).toNat)
  case atStart => exact ⟨0, Nat.zero_le _, by simp, by simp, hb0, hown0, by simp, fun j hj => by omega⟩
  case round =>
    clear hown0 hb0 e1
    obtain ⟨j, hj, rfl, rfl, hb, hown, hnil, hall⟩ := hrel
    by_cases hlt : j < m
    · cases hgk : gok n f ((i : Int) + 1 + 4 * (j : Int)) with
      | false =>
        have hbad : Hid (glOk n f (i : Int) = false) := gl_no (j := j) (by rw [HC.out]; exact hlt) hgk
        go_wp2_with fail
        refine (specGetNum_any _ b n c _ f wr hn hu (h.grew hb)).mono ?_
        rintro e w3 ⟨rfl, hb3⟩
        have hB := below_app hb hb3 hb.size
        go_wp2
        go_ret3
        exact gl_post_bad hbad.out hB
      | true =>
        go_wp2_with fail
        refine (specGetNum_any _ b n c _ f wr hn hu (h.grew hb)).mono ?_
        rintro e w3 ⟨rfl, hb3⟩
        have hB := below_app hb hb3 hb.size
        have hown3 := owns_kept hown hb3
        have hx := gnext_ok hgk
        have hxr := gok_rng hgk
        clear hown hb3 hb
        go_wp2_with (at_builtin; refine wpList_append_own _ rfl (.tmp 44) (.tmp 46) 35 rfl w.heap.size 3 i0 (.int .i64 0) 1 8 Try.underlying35 hi hz0 hz1 hz2 rfl (by decide) _ _ _ rfl (hown3.alloc _) ⟨w3.heap.size, 0, none⟩ 1 1 [_] rfl rfl (cells_new _ _ _) (by intro u hu; simp at hu; subst hu; rfl) (by unfold maxLen; omega) (by omega) (by have := hB.size; simp; omega) ?_)
        intro v4 w4 hown4 hgr4 hnil4
        have hB4 : Below w.heap.size w w4 := (hB.alloc hB.size _).grown hgr4 (by have := hB.size; simp; omega) (fun k hk => (hown3.lt k hk).1)
        have hown5 : w4.ownsRow w.heap.size 3 1 v4 (j + 1) (vals .i64 (j + 1) (glF n f i)) := by rw [vals_one_snoc]; exact hown4
        have hall5 : Hid (∀ j', j' < j + 1 → gok n f ((i : Int) + 1 + 4 * (j' : Int)) = true) := fun j' hj' => by
          by_cases e : j' = j
          · subst e; exact hgk
          · exact hall j' (by omega)
        have hnil5 : v4 ≠ .slice none 0 0 := hnil4
        clear hown4 hgr4 hown3 hB hall hnil hgk hnil4
        go_wp2
        go_roundw
        case rel => first | exact ⟨j + 1, by omega, by go_num, by go_num, hB4, hown5, hnil5, hall5⟩ | ((repeat apply Exists.intro); exact ⟨⟨j + 1, by omega, by go_num, by go_num, hB4, hown5, hnil5, hall5⟩, rfl⟩)
        case measure => simp [intOf]; omega
    · obtain rfl : j = m := by omega
      have hgood : Hid (glOk n f (i : Int) = true) := gl_yes (by omega) (fun j' hj' => hall j' (by rw [HC.out] at hj'; exact hj'))
      obtain ⟨q, cap, rfl, ho⟩ := own_of hown hnil
      have hend : GlPost n f i w (.returned (.tuple #[.slice (some ⟨q, 0, none⟩) j cap, .int .i64 ((i : Int) + 1 + 4 * (j : Int)), .bool true])) wr := by
        refine ⟨q, cap, ?_, hb, ?_⟩
        · rw [← gl_good hgood.out, HC.out]
        · have e : glN n f (i : Int) = j := by unfold glN; rw [if_pos hgood.out, HC.out]
          rw [e]; exact ho
      clear hown hnil hall
      go_wp2
      go_ret3
      exact hend
theorem specGetList_any (a : Option Addr) (b n c : Nat) (at' : Int) (f : Nat → Int) (w : World) (hn : n ≤ 140737488351232) (_ha : -9223372036854775808 ≤ at' ∧ at' ≤ 9223372036854775807) (hu : U8 n f) (h : Rd .u8 w b a n f) :
    Calls Try.prog 34 #[.slice a n c, .int .i64 at'] w fun e w' => GlPost n f at' w e w' := by
  by_cases hr : 0 ≤ at' ∧ at' < (n : Int)
  · obtain ⟨h1, h2⟩ := hr
    obtain ⟨i, rfl⟩ := Int.eq_ofNat_of_zero_le h1
    have hin : i < n := by omega
    have hv := hu i hin
    exact specGetList_run a b n c i (f i).toNat f w hn hin (show _ = _ by omega) (by omega) hu h
  · have hbad : Hid (glOk n f at' = false) := gl_out hr
    by_cases h0 : at' < 0
    · go_enter Try.func34, Try.ntmps34
      clear h
      go_wp2
      go_ret3
      exact gl_post_bad hbad.out (Below.refl _ _)
    · have h1 : (n : Int) ≤ at' := by omega
      clear hr h
      go_enter Try.func34, Try.ntmps34
      go_wp2
      go_ret3
      exact gl_post_bad hbad.out (Below.refl _ _)
end Go.Proofs.Ytamckedkilkooaa
