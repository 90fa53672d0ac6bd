/-
  The contract of the specification's SetOf: the numbers of a list, each once, ascending. Own work.
-/
import Derived.Test.YtdncgoippljlfaaSetSpec
namespace Go.Proofs.Ytdncgoippljlfaa
open Go.ChangeShapes Go.WideShapes Go.ChangeAt Go.RowKit

theorem own_empty {w : World} {base X : Nat} {e : TypeId} (h : w.heap[X]? = some (.cells #[] e (0, 0))) (hb : base ≤ X) : w.ownsRow base e 1 (.slice (some ⟨X, 0, none⟩) 0 0) 0 [] :=
  ⟨by simp, .inr ⟨X, 0, #[], rfl, hb, h, Nat.le_refl _, by decide, by simp, by simp⟩⟩
theorem news_row {w : World} {g : Nat} {L : List Value} {t : TypeId} (h : w.heap[g]? = some (.cells L.toArray t (0, 0))) : ∀ j u, L[j]? = some u → w.cell? ((⟨g, 0, none⟩ : Addr).add j) = some u := by
  intro j u hu
  have e : (⟨g, 0, none⟩ : Addr).add j = ⟨g, j, none⟩ := by unfold Addr.add; split <;> simp_all
  rw [e, cell_of_row w g j _ t (0, 0) h]
  simpa using hu
/-- where a number belongs in an ascending list that does not have it -/
theorem ins_at {S : List Int} {x : Int} {k : Nat} (hS : Asc S) (hk : k ≤ S.length) (h1 : ∀ j, j < k → el S j < x) (h2 : ∀ j, k ≤ j → j < S.length → x < el S j) : ins x S = S.take k ++ [x] ++ S.drop k := by
  have e : S = S.take k ++ S.drop k := (List.take_append_drop k S).symm
  have hS' : Asc (S.take k ++ S.drop k) := by rw [← e]; exact hS
  have := ins_split (x := x) hS' (fun a ha => by
    obtain ⟨j, hj, rfl⟩ := List.mem_iff_getElem.1 ha
    have hj' : j < k := by rw [List.length_take] at hj; omega
    have := h1 j hj'
    rw [el_get (by omega)] at this
    rw [List.getElem_take]; exact this) (fun b hb => by
    obtain ⟨j, hj, rfl⟩ := List.mem_iff_getElem.1 hb
    have hj' : k + j < S.length := by rw [List.length_drop] at hj; omega
    have := h2 (k + j) (by omega) hj'
    rw [el_get hj'] at this
    rw [List.getElem_drop]; exact this)
  rw [← e] at this
  exact this
theorem asc_lt {S : List Int} (h : Asc S) {i j : Nat} (hij : i < j) (hj : j < S.length) : el S i < el S j := by
  rw [el_get (by omega), el_get hj]
  exact List.pairwise_iff_getElem.1 h i j (by omega) hj hij
/-- what is laid together of a cut list and one number more -/
theorem vals_three (S : List Int) (x : Int) (k : Nat) (hk : k ≤ S.length) : vals .i64 k (el S) ++ [.int .i64 x] ++ vals .i64 (S.length - k) (fun j => el S (k + j)) = vals .i64 (S.length + 1) (el (S.take k ++ [x] ++ S.drop k)) := by
  refine vals_ext (by simp [vals_len]; omega) (fun j hj => ?_)
  have hlen : (S.take k).length = k := by rw [List.length_take]; omega
  by_cases h1 : j < k
  · rw [List.append_assoc, List.getElem?_append_left (by rw [vals_len]; exact h1), vals_get, if_pos h1]
    rw [List.append_assoc, el_left (by omega), el_take h1]
  · rw [List.append_assoc, List.getElem?_append_right (by rw [vals_len]; omega), vals_len]
    by_cases h2 : j = k
    · subst h2
      have e0 : el (S.take j ++ [x] ++ S.drop j) j = x := by
        rw [List.append_assoc, el_right (by omega), hlen, Nat.sub_self]
        rfl
      rw [e0]; simp
    · rw [List.getElem?_append_right (by simp; omega)]
      simp only [List.length_singleton]
      rw [vals_get, if_pos (by omega)]
      have e0 : el (S.take k ++ [x] ++ S.drop k) j = el S (j - 1) := by
        rw [el_right (by rw [List.length_append, hlen]; simp; omega), List.length_append, hlen, List.length_singleton, el_drop]
        congr 1
        omega
      rw [e0]
      congr 2
      congr 1
      omega
end Go.Proofs.Ytdncgoippljlfaa
