/-
  Contracts of chapter 3's specification: Meet, Rest, Without. Own work.
-/
import Derived.Test.YtdncgoippljlfaaSetSpec2
namespace Go.Proofs.Ytdncgoippljlfaa
open Go.ChangeShapes Go.WideShapes Go.ChangeAt Go.RowKit

theorem filt_keep {n : Nat} {f : Nat → Int} {p : Int → Bool} (h : p (f n) = true) : (lst (n + 1) f).filter p = (lst n f).filter p ++ [f n] := by
  rw [lst_succ, List.filter_append]; simp [h]
theorem filt_drop {n : Nat} {f : Nat → Int} {p : Int → Bool} (h : p (f n) = false) : (lst (n + 1) f).filter p = (lst n f).filter p := by
  rw [lst_succ, List.filter_append]; simp [h]
theorem vals_snoc_list (L : List Int) (x : Int) : vals .i64 (L.length + 1) (el (L ++ [x])) = vals .i64 L.length (el L) ++ [.int .i64 x] := by
  rw [vals_one_snoc']
  congr 1
  · exact vals_congr fun i hi => el_left hi
  · rw [el_right (Nat.le_refl _), Nat.sub_self]; rfl
/-- the list without one number -/
def woL (n : Nat) (f : Nat → Int) (x : Int) : List Int := rsL n f 1 (fun _ => x)
end Go.Proofs.Ytdncgoippljlfaa
