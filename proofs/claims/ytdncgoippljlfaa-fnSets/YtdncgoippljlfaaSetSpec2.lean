/-
  Contracts of chapter 3's specification: With, Without, Union, Meet, Rest, Within. Own work.
-/
import Derived.Test.YtdncgoippljlfaaSetOf2
namespace Go.Proofs.Ytdncgoippljlfaa
open Go.ChangeShapes Go.WideShapes Go.ChangeAt Go.RowKit

def sLen (L : List Int) : Nat := (setL L).length
def sEl (L : List Int) : Nat → Int := el (setL L)
theorem sLen_le (L : List Int) : sLen L ≤ L.length := setL_len L
/-- what a function answers that answers a set: of the numbers of L -/
def SetPost (L : List Int) (w : World) (e : Ending) (w' : World) : Prop :=
  ∃ q cap, e = .returned (.slice (some ⟨q, 0, none⟩) (sLen L) cap) ∧ Below w.heap.size w w' ∧ Own .i64 w' w.heap.size q (some ⟨q, 0, none⟩) (sLen L) (sEl L)
theorem SetPost.up {L : List Int} {w w1 : World} {e : Ending} {w' : World} (h : SetPost L w1 e w') (hb : Below w.heap.size w w1) : SetPost L w e w' := by
  obtain ⟨q, cap, h1, h2, h3⟩ := h
  exact ⟨q, cap, h1, below_app hb h2 hb.size, Nat.le_trans hb.size h3.1, h3.2⟩
def wtL (n : Nat) (f : Nat → Int) (x : Int) : List Int := lst n f ++ [x]
def unL (n : Nat) (f : Nat → Int) (m : Nat) (g : Nat → Int) : List Int := lst n f ++ lst m g
def mtL (n : Nat) (f : Nat → Int) (m : Nat) (g : Nat → Int) : List Int := (lst n f).filter (fun x => hs m g x)
def rsL (n : Nat) (f : Nat → Int) (m : Nat) (g : Nat → Int) : List Int := (lst n f).filter (fun x => !hs m g x)
def wn (n : Nat) (f : Nat → Int) (m : Nat) (g : Nat → Int) : Bool := (lst n f).all (fun x => hs m g x)
theorem specSetOf_list (a : Option Addr) (b n c : Nat) (f : Nat → Int) (w : World) (hn : n ≤ 3000000) (h : Rd .i64 w b a n f) :
    Calls Try.prog 44 #[.slice a n c] w fun e w' => SetPost (lst n f) w e w' := specSetOf_any a b n c f w hn h
theorem post_of_list {L : List Int} {w : World} {e : Ending} {w' : World} (h : SetPost (lst L.length (el L)) w e w') : SetPost L w e w' := by rw [lst_el] at h; exact h
theorem news_one (w : World) (L : List Value) (t : TypeId) : ∀ j u, L[j]? = some u → (w.alloc (.cells L.toArray t)).cell? ((⟨w.heap.size, 0, none⟩ : Addr).add j) = some u := news_row (heap_alloc_new w _)

theorem wn_no {n m i : Nat} {f g : Nat → Int} (hi : i < n) (h : hs m g (f i) = false) : wn n f m g = false := by
  unfold wn
  rw [List.all_eq_false]
  exact ⟨f i, mem_lst.2 ⟨i, hi, rfl⟩, by simp [h]⟩
theorem wn_yes {n m : Nat} {f g : Nat → Int} (h : ∀ i, i < n → hs m g (f i) = true) : wn n f m g = true := by
  unfold wn
  rw [List.all_eq_true]
  intro x hx
  obtain ⟨i, hi, rfl⟩ := mem_lst.1 hx
  exact h i hi
end Go.Proofs.Ytdncgoippljlfaa
