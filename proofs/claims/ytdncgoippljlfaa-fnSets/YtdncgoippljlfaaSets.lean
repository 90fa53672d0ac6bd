/-
  Sets of numbers as ascending lists: what is in them, and that there is but one of the same numbers. Own work.
-/
import Derived.Test.YtdncgoippljlfaaRow
namespace Go.Proofs.Ytdncgoippljlfaa
open Go.ChangeShapes Go.WideShapes Go.ChangeAt Go.RowKit

def el (L : List Int) : Nat → Int := fun i => L.getD i 0
def lst (n : Nat) (f : Nat → Int) : List Int := (List.range n).map f
theorem lst_len (n : Nat) (f : Nat → Int) : (lst n f).length = n := by simp [lst]
theorem el_lst {n : Nat} {f : Nat → Int} {i : Nat} (h : i < n) : el (lst n f) i = f i := by simp [el, lst, h]
theorem el_get {L : List Int} {i : Nat} (h : i < L.length) : el L i = L[i] := by simp [el, h]
theorem el_q (L : List Int) (i : Nat) : el L i = (L[i]?).getD 0 := by unfold el; rw [List.getD_eq_getElem?_getD]
theorem el_left {A B : List Int} {i : Nat} (h : i < A.length) : el (A ++ B) i = el A i := by rw [el_q, el_q, List.getElem?_append_left h]
theorem el_right {A B : List Int} {i : Nat} (h : A.length ≤ i) : el (A ++ B) i = el B (i - A.length) := by rw [el_q, el_q, List.getElem?_append_right h]
theorem el_drop {L : List Int} {k i : Nat} : el (L.drop k) i = el L (k + i) := by rw [el_q, el_q, List.getElem?_drop]
theorem el_take {L : List Int} {k i : Nat} (h : i < k) : el (L.take k) i = el L i := by rw [el_q, el_q, List.getElem?_take, if_pos h]
theorem mem_lst {n : Nat} {f : Nat → Int} {x : Int} : x ∈ lst n f ↔ ∃ i, i < n ∧ f i = x := by simp [lst]
theorem lst_congr {n : Nat} {f g : Nat → Int} (h : ∀ i, i < n → f i = g i) : lst n f = lst n g := by
  unfold lst
  exact List.map_congr_left fun i hi => h i (List.mem_range.1 hi)
theorem lst_el (L : List Int) : lst L.length (el L) = L := by
  apply List.ext_getElem
  · rw [lst_len]
  · intro i h1 h2
    have : i < L.length := by rw [lst_len] at h1; exact h1
    simp [lst, el, this]
theorem lst_succ (n : Nat) (f : Nat → Int) : lst (n + 1) f = lst n f ++ [f n] := by simp [lst, List.range_succ]
theorem lst_cat (n m : Nat) (f g : Nat → Int) : lst (n + m) (cat n f g) = lst n f ++ lst m g := by
  apply List.ext_getElem
  · rw [lst_len, List.length_append, lst_len, lst_len]
  · intro i h1 h2
    have hi : i < n + m := by rw [lst_len] at h1; exact h1
    by_cases h : i < n
    · rw [List.getElem_append_left (by rw [lst_len]; exact h)]
      simp [lst, cat, h]
    · rw [List.getElem_append_right (by rw [lst_len]; omega)]
      simp [lst, cat, h]

def Asc (L : List Int) : Prop := L.Pairwise (fun a b => a < b)
theorem asc_unique : ∀ {A B : List Int}, Asc A → Asc B → (∀ x, x ∈ A ↔ x ∈ B) → A = B
  | [], [], _, _, _ => rfl
  | [], b :: B, _, _, h => by have := (h b).2 (by simp); simp at this
  | a :: A, [], _, _, h => by have := (h a).1 (by simp); simp at this
  | a :: A, b :: B, hA, hB, h => by
    have hA' := List.pairwise_cons.1 hA
    have hB' := List.pairwise_cons.1 hB
    have e : a = b := by
      have h1 := (h a).1 (by simp)
      have h2 := (h b).2 (by simp)
      rcases List.mem_cons.1 h1 with h1 | h1
      · exact h1
      · rcases List.mem_cons.1 h2 with h2 | h2
        · exact h2.symm
        · have := hA'.1 b h2
          have := hB'.1 a h1
          omega
    subst e
    congr 1
    refine asc_unique hA'.2 hB'.2 fun x => ?_
    have hx := h x
    simp only [List.mem_cons] at hx
    constructor
    · intro hxA
      rcases hx.1 (.inr hxA) with e | e
      · subst e; have := hA'.1 x hxA; omega
      · exact e
    · intro hxB
      rcases hx.2 (.inr hxB) with e | e
      · subst e; have := hB'.1 x hxB; omega
      · exact e
def ins (x : Int) : List Int → List Int
  | [] => [x]
  | y :: r => if x < y then x :: y :: r else if x = y then y :: r else y :: ins x r
theorem mem_ins (x y : Int) : ∀ L, y ∈ ins x L ↔ y = x ∨ y ∈ L
  | [] => by simp [ins]
  | z :: r => by
    unfold ins
    split
    · simp
    · split
      · rename_i h; subst h; simp
      · simp only [List.mem_cons, mem_ins x y r]
        constructor
        · rintro (h | h | h)
          · exact .inr (.inl h)
          · exact .inl h
          · exact .inr (.inr h)
        · rintro (h | h | h)
          · exact .inr (.inl h)
          · exact .inl h
          · exact .inr (.inr h)
theorem asc_ins (x : Int) : ∀ L, Asc L → Asc (ins x L)
  | [], _ => by simp [ins, Asc]
  | z :: r, h => by
    have h' := List.pairwise_cons.1 h
    unfold ins
    split
    · rename_i hlt
      refine List.pairwise_cons.2 ⟨fun y hy => ?_, h⟩
      rcases List.mem_cons.1 hy with e | e
      · omega
      · have := h'.1 y e; omega
    · split
      · exact h
      · rename_i h1 h2
        refine List.pairwise_cons.2 ⟨fun y hy => ?_, asc_ins x r h'.2⟩
        rcases (mem_ins x y r).1 hy with e | e
        · omega
        · exact h'.1 y e
/-- the numbers of a list, each once, ascending -/
def setL (L : List Int) : List Int := L.foldl (fun s x => ins x s) []
theorem setL_snoc (L : List Int) (x : Int) : setL (L ++ [x]) = ins x (setL L) := by simp [setL]
theorem setL_both (L : List Int) : Asc (setL L) ∧ ∀ x, x ∈ setL L ↔ x ∈ L := by
  have key : ∀ (M S : List Int), Asc S → Asc (M.foldl (fun s x => ins x s) S) ∧ ∀ x, x ∈ M.foldl (fun s x => ins x s) S ↔ x ∈ S ∨ x ∈ M := by
    intro M
    induction M with
    | nil => intro S hS; exact ⟨hS, fun x => by simp⟩
    | cons y M ih =>
      intro S hS
      obtain ⟨h1, h2⟩ := ih (ins y S) (asc_ins y S hS)
      refine ⟨h1, fun x => ?_⟩
      rw [List.foldl_cons, h2 x, mem_ins, List.mem_cons]
      constructor
      · rintro ((h | h) | h)
        · exact .inr (.inl h)
        · exact .inl h
        · exact .inr (.inr h)
      · rintro (h | h | h)
        · exact .inl (.inr h)
        · exact .inl (.inl h)
        · exact .inr h
  obtain ⟨h1, h2⟩ := key L [] List.Pairwise.nil
  exact ⟨h1, fun x => by rw [show setL L = L.foldl (fun s x => ins x s) [] from rfl, h2 x]; simp⟩
theorem asc_setL (L : List Int) : Asc (setL L) := (setL_both L).1
theorem mem_setL {L : List Int} {x : Int} : x ∈ setL L ↔ x ∈ L := (setL_both L).2 x
theorem setL_eq {S L : List Int} (h1 : Asc S) (h2 : ∀ x, x ∈ S ↔ x ∈ L) : S = setL L := asc_unique h1 (asc_setL L) fun x => (h2 x).trans mem_setL.symm
theorem setL_congr {L M : List Int} (h : ∀ x, x ∈ L ↔ x ∈ M) : setL L = setL M := setL_eq (asc_setL L) fun x => mem_setL.trans (h x)
theorem setL_set (L : List Int) : setL (setL L) = setL L := setL_congr fun _ => mem_setL
theorem setL_asc {S : List Int} (h : Asc S) : setL S = S := (setL_eq h fun _ => Iff.rfl).symm
theorem ins_there {x : Int} {S : List Int} (h : Asc S) (hx : x ∈ S) : ins x S = S :=
  asc_unique (asc_ins x S h) h fun y => by
    rw [mem_ins]
    constructor
    · rintro (e | e)
      · subst e; exact hx
      · exact e
    · exact .inr
theorem ins_split {x : Int} {A B : List Int} (h : Asc (A ++ B)) (hA : ∀ a ∈ A, a < x) (hB : ∀ b ∈ B, x < b) : ins x (A ++ B) = A ++ [x] ++ B := by
  refine asc_unique (asc_ins x _ h) ?_ fun y => ?_
  · have h' := List.pairwise_append.1 h
    rw [List.append_assoc]
    refine List.pairwise_append.2 ⟨h'.1, List.pairwise_cons.2 ⟨hB, h'.2.1⟩, fun a ha b hb => ?_⟩
    rcases List.mem_cons.1 hb with e | e
    · subst e; exact hA a ha
    · exact h'.2.2 a ha b e
  · rw [mem_ins]
    simp only [List.mem_append, List.mem_singleton]
    constructor
    · rintro (h | h | h)
      · exact .inl (.inr h)
      · exact .inl (.inl h)
      · exact .inr h
    · rintro ((h | h) | h)
      · exact .inr (.inl h)
      · exact .inl h
      · exact .inr (.inr h)
theorem setL_len (L : List Int) : (setL L).length ≤ L.length := by
  have key : ∀ (x : Int) (S : List Int), (ins x S).length ≤ S.length + 1 := by
    intro x S
    induction S with
    | nil => simp [ins]
    | cons y r ih =>
      unfold ins
      split
      · simp
      · split
        · simp
        · simp; exact ih
  have k2 : ∀ (M S : List Int), (M.foldl (fun s x => ins x s) S).length ≤ S.length + M.length := by
    intro M
    induction M with
    | nil => intro S; simp
    | cons y M ih =>
      intro S
      rw [List.foldl_cons, List.length_cons]
      have h1 := ih (ins y S)
      have h2 := key y S
      omega
  have := k2 L []
  simpa [setL] using this
end Go.Proofs.Ytdncgoippljlfaa
