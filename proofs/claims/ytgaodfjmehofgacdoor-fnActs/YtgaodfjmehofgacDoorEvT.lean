/-
  Chapter 6: what is said: the program's said, bentText, thingText; the words of a thing (txE). Written by tools/ev.gen.py. Own work.
-/
import Derived.Test.YtgaodfjmehofgacDoorDoorText
import Derived.Test.YtgaodfjmehofgacDoorEvD
import Derived.Deep.RegionHeld
namespace Go.Proofs.YtgaodfjmehofgacDoor
open Go.ChangeShapes Go.WideShapes Go.ChangeAt Go.RowKit
set_option maxRecDepth 100000
set_option linter.unusedVariables false
set_option linter.unusedSimpArgs false

theorem tx_size (n : Int) (h0 : -9223372036854775808 ≤ n) (h1 : n ≤ 9223372036854775807) : (tx n).size ≤ 21 := by
  show (Lib.itoa n).toArray.size ≤ 21
  have hb := dig_len 19 n.natAbs (by have : (10 : Nat) ^ (19 + 1) = 100000000000000000000 := by decide
                                     omega)
  unfold Lib.itoa
  split
  · simp; omega
  · have e : n.toNat = n.natAbs := by omega
    first | (rw [e]; simpa using Nat.le_trans hb (by omega)) | (simp; omega)
/-- a word, and the numbers behind it -/
def say (wd : ByteArray) (f : Nat → Int) : Nat → ByteArray
  | 0 => wd
  | k + 1 => say wd f k ++ ((⟨#[32]⟩ : ByteArray) ++ tx (f k))
def In64 (x : Int) : Prop := -9223372036854775808 ≤ x ∧ x ≤ 9223372036854775807
theorem say_size (wd : ByteArray) (f : Nat → Int) (hw : wd.size ≤ 10) (hf : ∀ j, In64 (f j)) : ∀ k, (say wd f k).size ≤ 10 + 22 * k
  | 0 => by simpa [say] using hw
  | k + 1 => by
    have h1 := say_size wd f hw hf k
    have h2 := tx_size (f k) (hf k).1 (hf k).2
    have h3 : (⟨#[32]⟩ : ByteArray).size = 1 := rfl
    show (say wd f k ++ ((⟨#[32]⟩ : ByteArray) ++ tx (f k))).size ≤ _
    rw [ByteArray.size_append, ByteArray.size_append, h3]
    omega
set_option maxHeartbeats 1000000 in
theorem said_any (wd : ByteArray) (b n c : Nat) (a : Option Addr) (f : Nat → Int) (w : World) (hn : n ≤ 3) (hw : wd.size ≤ 10) (hf : ∀ j, In64 (f j)) (h : Rd .i64 w b a n f) (ht : Pow w) :
    Calls Tryd.prog 32 #[.string wd, .slice a n c] w fun r w' => r = .returned (.string (say wd f n)) ∧ Below w.heap.size w w' := by
  have HT : Hid (Pow w) := ht
  clear ht
  go_enter Tryd.func32, Tryd.ntmps32
  go_wp2
  go_loopw [0, 9] (fun s i wr => ∃ k : Nat, k ≤ n ∧ s = .string (say wd f k) ∧ i = .int .i64 k ∧ Below w.heap.size w wr) (fun _ i _ => n - (intOf i).toNat)
  case atStart => exact ⟨0, Nat.zero_le _, rfl, rfl, Below.refl _ _⟩
  case round =>
    obtain ⟨k, hk, rfl, rfl, hb⟩ := hrel
    by_cases hlt : k < n
    · have hrd := h.grew hb
      rcases hrd with h0 | ⟨off, rfl, hc⟩
      · omega
      have k0 := hc k hlt
      have y1 : (0 : Int) ≤ (k : Int) := by omega
      have y2 : (k : Int) < (n : Int) := by omega
      have s1 := say_size wd f hw hf k
      obtain ⟨z0, z1⟩ := hf k
      have s2 := tx_size (f k) z0 z1
      have HS : Hid (say wd f (k + 1) = say wd f k ++ ((⟨#[32]⟩ : ByteArray) ++ tx (f k))) := rfl
      generalize say wd f k = S at *
      generalize f k = z at *
      clear hc h hf
      go_wp2_with fail
      refine (implNumText_any z _ z0 z1 (HT.out.below hb)).mono ?_
      rintro r w2 ⟨rfl, hb2⟩
      have hbb := below_app hb hb2 hb.size
      clear hb hb2
      generalize tx z = Z at *
      go_wp2
      go_roundw
      case rel => exact ⟨k + 1, by omega, by rw [HS.out], by go_num, hbb⟩
      case measure => simp [intOf]; omega
    · obtain rfl : k = n := by omega
      go_wp2
      go_ret
      exact ⟨rfl, hb⟩
def bnB (b : Bool) : ByteArray := if b then (⟨#[32, 98, 101, 110, 116]⟩ : ByteArray) else ⟨#[]⟩
theorem bentText_any (b : Bool) (w : World) : Calls Tryd.prog 34 #[.bool b] w fun r w' => r = .returned (.string (bnB b)) ∧ w' = w := by
  cases b
  all_goals
    go_enter Tryd.func34, Tryd.ntmps34
    go_wp2
    go_ret
    exact ⟨rfl, rfl⟩
def fn1 (a : Int) : Nat → Int := fun _ => a
def fn2 (a b : Int) : Nat → Int := fun i => if i = 0 then a else b
def fn3 (a b c : Int) : Nat → Int := fun i => if i = 0 then a else if i = 1 then b else c
theorem in_fn1 {a : Int} (h : In64 a) : ∀ j, In64 (fn1 a j) := fun _ => h
theorem in_fn2 {a b : Int} (h : In64 a) (k : In64 b) : ∀ j, In64 (fn2 a b j) := fun j => by unfold fn2; split <;> assumption
theorem in_fn3 {a b c : Int} (h : In64 a) (k : In64 b) (l : In64 c) : ∀ j, In64 (fn3 a b c j) := fun j => by unfold fn3; split; assumption; split <;> assumption
theorem rd1_at {w : World} {g t : Nat} {a : Int} (h : w.heap[g]? = some (.cells #[.int .i64 a] t (0, 0))) : Rd .i64 w g (some ⟨g, 0, none⟩) 1 (fn1 a) :=
  .inr ⟨0, rfl, fun i hi => by
    obtain rfl : i = 0 := by omega
    exact cell_of_row w g 0 _ t (0, 0) h⟩
theorem rd2_at {w : World} {g t : Nat} {a b : Int} (h : w.heap[g]? = some (.cells #[.int .i64 a, .int .i64 b] t (0, 0))) : Rd .i64 w g (some ⟨g, 0, none⟩) 2 (fn2 a b) :=
  .inr ⟨0, rfl, fun i hi => by
    rcases (show i = 0 ∨ i = 1 by omega) with rfl | rfl
    · exact cell_of_row w g 0 _ t (0, 0) h
    · exact cell_of_row w g 1 _ t (0, 0) h⟩
theorem rd3_at {w : World} {g t : Nat} {a b c : Int} (h : w.heap[g]? = some (.cells #[.int .i64 a, .int .i64 b, .int .i64 c] t (0, 0))) : Rd .i64 w g (some ⟨g, 0, none⟩) 3 (fn3 a b c) :=
  .inr ⟨0, rfl, fun i hi => by
    rcases (show i = 0 ∨ i = 1 ∨ i = 2 by omega) with rfl | rfl | rfl
    · exact cell_of_row w g 0 _ t (0, 0) h
    · exact cell_of_row w g 1 _ t (0, 0) h
    · exact cell_of_row w g 2 _ t (0, 0) h⟩
def wf64 (e : Ev) : Prop := In64 e.sr ∧ In64 e.pi ∧ In64 e.si ∧ In64 e.nn ∧ In64 e.zo
theorem Ev.wf.in64 {e : Ev} (h : e.wf) : wf64 e := by
  have k : ∀ x, (Lit.int .i64 x).wf = true → In64 x := fun x hx => bounds_i64 hx
  exact ⟨k _ (h _ (by simp)), k _ (h _ (by simp)), k _ (h _ (by simp)), k _ (h _ (by simp)), k _ (h _ (by simp))⟩
end Go.Proofs.YtgaodfjmehofgacDoor
