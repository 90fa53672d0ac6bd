/-
  Chapter 3: contracts of the program's Within, Meet, Rest, Without. Own work.
-/
import Derived.Test.YtdncgoippljlfalSetImpl
namespace Go.Proofs.Ytdncgoippljlfal
open Go.ChangeShapes Go.WideShapes Go.ChangeAt Go.RowKit Go.Shelf
attribute [local go_sem] Oper.semAt_some

theorem from_at (s : Nat) (ad : Addr) (b n c : Nat) (f : Nat → Int) (w : World) (hs : w.heap.size = s) (hn : n ≤ 3000000) (h : Rd .i64 w b (some ad) n f) :
    Calls Try.prog 33 #[.slice (some ⟨s, 0, none⟩) 1 1] (w.alloc (.cells #[.slice (some ad) n c] 22)) fun e w' =>
      ∃ b a cap, e = .returned (.agg #[.slice a (sLen (lst n f)) cap]) ∧ Rd .i64 w' b a (sLen (lst n f)) (sEl (lst n f)) ∧ Below w.heap.size w w' ∧ w.heap.size ≤ b ∧ b < w'.heap.size := by
  subst hs
  exact from_one ad b n c f w hn h
theorem keeps_below {W W' : World} (h : Below W.heap.size W W') : KeepsOthers W W' := ⟨h.size, fun k _ hk _ => (h.block k (Array.getElem?_eq_some_iff.1 hk).1).trans hk⟩
theorem hs_set (n : Nat) (f : Nat → Int) (x : Int) : hs (sLen (lst n f)) (sEl (lst n f)) x = hs n f x := by
  rw [Bool.eq_iff_iff, hs_iff, hs_iff]; exact mem_s
theorem s_ascL (L : List Int) : Asc (lst (sLen L) (sEl L)) := by rw [lst_s]; exact asc_setL L

end Go.Proofs.Ytdncgoippljlfal
