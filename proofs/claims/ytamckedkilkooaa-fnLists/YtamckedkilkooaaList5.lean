/-
  Contracts of chapter 2's Packed and Unpacked. Own work.
-/
import Derived.Test.YtamckedkilkooaaList2
import Derived.Test.YtamckedkilkooaaList4
namespace Go.Proofs.Ytamckedkilkooaa
open Go.ChangeShapes Go.WideShapes Go.ChangeAt Go.RowKit

set_option maxHeartbeats 400000 in
theorem specPacked_any (al : Option Addr) (bl m cl : Nat) (g : Nat → Int) (w : World) (hg : Rd .i64 w bl al m g) :
    Calls Try.prog 53 #[.slice al m cl] w fun e w' => ∃ q cap, e = .returned (.slice (some ⟨q, 0, none⟩) (plN 0 m) cap) ∧ Below w.heap.size w w' ∧ Own .u8 w' w.heap.size q (some ⟨q, 0, none⟩) (plN 0 m) (plF 0 m (fun _ => 0) g) := by
  have hb0 : Below w.heap.size w (w.alloc (.cells #[] 5)) := below_new _ _
  have hg2 := hg.grew hb0
  clear hg
  go_enter Try.func53, Try.ntmps53
  go_wp2_with fail
  refine (specPutList_all ⟨w.heap.size, 0, none⟩ al w.heap.size bl 0 0 m cl (fun _ => 0) g _ (by omega) (.inl rfl) hg2).mono ?_
  rintro e w2 ⟨q, cap, rfl, hb, ho⟩
  have hB := below_app hb0 hb hb0.size
  have hq : w.heap.size ≤ q := Nat.le_trans hb0.size ho.1
  go_wp2
  go_ret
  exact ⟨q, cap, rfl, hB, ⟨hq, ho.2⟩⟩
set_option maxHeartbeats 400000 in
theorem implPacked_any (al : Option Addr) (bl m cl : Nat) (g : Nat → Int) (w : World) (hg : Rd .i64 w bl al m g) :
    Calls Try.prog 28 #[.slice al m cl] w fun e w' => ∃ q cap, e = .returned (.slice (some ⟨q, 0, none⟩) (plN 0 m) cap) ∧ Below w.heap.size w w' ∧ Own .u8 w' w.heap.size q (some ⟨q, 0, none⟩) (plN 0 m) (plF 0 m (fun _ => 0) g) := by
  go_enter Try.func28, Try.ntmps28
  go_wp2_with fail
  refine (implPutList_all none al 0 bl 0 0 m cl (fun _ => 0) g _ (by omega) (.inl rfl) hg).mono ?_
  rintro e w2 ⟨q, cap, rfl, hb, ho⟩
  go_wp2
  go_ret
  exact ⟨q, cap, rfl, hb, ho⟩

def unOk (n : Nat) (f : Nat → Int) : Bool := glOk n f 0 && (glX n f 0 == (n : Int))
def unN (n : Nat) (f : Nat → Int) : Nat := if unOk n f = true then glN n f 0 else 0
def unF (n : Nat) (f : Nat → Int) : Nat → Int := glF n f 0
theorem unN_le (n : Nat) (f : Nat → Int) (hu : U8 n f) : unN n f ≤ 255 := by
  have := glN_le n f 0 hu
  unfold unN; split <;> omega
def UnPost (n : Nat) (f : Nat → Int) (w : World) (e : Ending) (w' : World) : Prop :=
  ∃ q cap, e = .returned (.tuple #[.slice (some ⟨q, 0, none⟩) (unN n f) cap, .bool (unOk n f)]) ∧ Below w.heap.size w w' ∧ Own .i64 w' w.heap.size q (some ⟨q, 0, none⟩) (unN n f) (unF n f)
theorem un_bad {n : Nat} {f : Nat → Int} {w wr : World} {t : TypeId} (h : unOk n f = false) (hb : Below w.heap.size w wr) :
    UnPost n f w (.returned (.tuple #[.slice (some ⟨wr.heap.size, 0, none⟩) 0 0, .bool false])) (wr.alloc (.cells #[] t)) := by
  have e : unN n f = 0 := by simp [unN, h]
  refine ⟨wr.heap.size, 0, by rw [e, h], hb.alloc hb.size _, ?_⟩
  rw [e]
  exact own_lit0 hb.size
theorem un_good {n q cap : Nat} {f : Nat → Int} {w wr : World} (h : unOk n f = true) (hb : Below w.heap.size w wr) (ho : Own .i64 wr w.heap.size q (some ⟨q, 0, none⟩) (glN n f 0) (glF n f 0)) :
    UnPost n f w (.returned (.tuple #[.slice (some ⟨q, 0, none⟩) (glN n f 0) cap, .bool true])) wr := by
  have e : unN n f = glN n f 0 := by simp [unN, h]
  exact ⟨q, cap, by rw [e, h], hb, by rw [e]; exact ho⟩
set_option maxHeartbeats 400000 in
theorem specUnpacked_any (a : Option Addr) (b n c : Nat) (f : Nat → Int) (w : World) (hn : n ≤ 140737488351232) (hu : U8 n f) (h : Rd .u8 w b a n f) :
    Calls Try.prog 31 #[.slice a n c] w fun e w' => UnPost n f w e w' := by
  go_enter Try.func31, Try.ntmps31
  go_wp2_with fail
  refine (specGetList_any a b n c 0 f w hn (by omega) hu h).mono ?_
  rintro e w2 ⟨q, cap, rfl, hb, ho⟩
  clear h
  cases h1 : glOk n f 0 with
  | false =>
    have hbad : Hid (unOk n f = false) := show _ = _ by unfold unOk; rw [h1]; rfl
    go_wp2
    go_ret2
    exact un_bad hbad.out hb
  | true =>
    cases h2 : (glX n f 0 == (n : Int)) with
    | false =>
      have hbad : Hid (unOk n f = false) := show _ = _ by unfold unOk; rw [h1, h2]; rfl
      have h3 : (glX n f 0 != (n : Int)) = true := by simpa using h2
      go_wp2
      go_ret2
      exact un_bad hbad.out hb
    | true =>
      have hok : Hid (unOk n f = true) := show _ = _ by unfold unOk; rw [h1, h2]; rfl
      have h3 : (glX n f 0 != (n : Int)) = false := by simpa using h2
      go_wp2
      go_ret2
      exact un_good hok.out hb ho
set_option maxHeartbeats 400000 in
theorem implUnpacked_any (a : Option Addr) (b n c : Nat) (f : Nat → Int) (w : World) (hn : n ≤ 140737488351232) (hcap : n ≤ c) (hu : U8 n f) (h : Rd .u8 w b a n f) :
    Calls Try.prog 29 #[.slice a n c] w fun e w' => UnPost n f w e w' := by
  go_enter Try.func29, Try.ntmps29
  go_wp2_with fail
  refine (implGetList_any a b n c 0 f w hn hcap (by omega) hu h).mono ?_
  rintro e w2 ⟨q, cap, rfl, hb, ho⟩
  clear h
  cases h1 : glOk n f 0 with
  | false =>
    have hbad : Hid (unOk n f = false) := show _ = _ by unfold unOk; rw [h1]; rfl
    go_wp2
    go_ret2
    exact un_bad hbad.out hb
  | true =>
    cases h2 : (glX n f 0 == (n : Int)) with
    | false =>
      have hbad : Hid (unOk n f = false) := show _ = _ by unfold unOk; rw [h1, h2]; rfl
      have h3 : (glX n f 0 != (n : Int)) = true := by simpa using h2
      go_wp2
      go_ret2
      exact un_bad hbad.out hb
    | true =>
      have hok : Hid (unOk n f = true) := show _ = _ by unfold unOk; rw [h1, h2]; rfl
      have h3 : (glX n f 0 != (n : Int)) = false := by simpa using h2
      go_wp2
      go_ret2
      exact un_good hok.out hb ho
end Go.Proofs.Ytamckedkilkooaa
