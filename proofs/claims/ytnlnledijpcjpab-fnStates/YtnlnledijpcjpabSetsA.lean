/-
  Sets of numbers as ascending lists: what is in them, and that there is but one of the same numbers. Contracts of chapter 3's specification: Has, SetOf. The contract of the specification's SetOf: the numbers of a list, each once, ascending. The contract of the specification's SetOf: the numbers of a list, each once, ascending. Own work.
-/
import Derived.Test.YtnlnledijpcjpabRow
import Derived.Test.YtnlnledijpcjpabRowLaw
import Derived.Deep.RegionLaw
import Derived.Deep.QuietTactic
import Derived.BigQuiet
namespace Go.Proofs.Ytnlnledijpcjpab
open Go.ChangeShapes Go.WideShapes Go.ChangeAt Go.RowKit
set_option maxRecDepth 100000

def el (L : List Int) : Nat → Int := fun i => L.getD i 0
def lst (n : Nat) (f : Nat → Int) : List Int := (List.range n).map f
theorem lst_len (n : Nat) (f : Nat → Int) : (lst n f).length = n := by simp [lst]
theorem el_lst {n : Nat} {f : Nat → Int} {i : Nat} (h : i < n) : el (lst n f) i = f i := by simp [el, lst, h]
theorem el_get {L : List Int} {i : Nat} (h : i < L.length) : el L i = L[i] := by simp [el, h]
theorem el_q (L : List Int) (i : Nat) : el L i = (L[i]?).getD 0 := by unfold el; rw [List.getD_eq_getElem?_getD]
theorem el_left {A B : List Int} {i : Nat} (h : i < A.length) : el (A ++ B) i = el A i := by rw [el_q, el_q, List.getElem?_append_left h]
theorem el_right {A B : List Int} {i : Nat} (h : A.length ≤ i) : el (A ++ B) i = el B (i - A.length) := by rw [el_q, el_q, List.getElem?_append_right h]
theorem el_drop {L : List Int} {k i : Nat} : el (L.drop k) i = el L (k + i) := by rw [el_q, el_q, List.getElem?_drop]
theorem el_take {L : List Int} {k i : Nat} (h : i < k) : el (L.take k) i = el L i := by rw [el_q, el_q, List.getElem?_take, if_pos h]
theorem mem_lst {n : Nat} {f : Nat → Int} {x : Int} : x ∈ lst n f ↔ ∃ i, i < n ∧ f i = x := by simp [lst]
theorem lst_congr {n : Nat} {f g : Nat → Int} (h : ∀ i, i < n → f i = g i) : lst n f = lst n g := by
  unfold lst
  exact List.map_congr_left fun i hi => h i (List.mem_range.1 hi)
theorem lst_el (L : List Int) : lst L.length (el L) = L := by
  apply List.ext_getElem
  · rw [lst_len]
  · intro i h1 h2
    have : i < L.length := by rw [lst_len] at h1; exact h1
    simp [lst, el, this]
theorem lst_succ (n : Nat) (f : Nat → Int) : lst (n + 1) f = lst n f ++ [f n] := by simp [lst, List.range_succ]
theorem lst_cat (n m : Nat) (f g : Nat → Int) : lst (n + m) (cat n f g) = lst n f ++ lst m g := by
  apply List.ext_getElem
  · rw [lst_len, List.length_append, lst_len, lst_len]
  · intro i h1 h2
    have hi : i < n + m := by rw [lst_len] at h1; exact h1
    by_cases h : i < n
    · rw [List.getElem_append_left (by rw [lst_len]; exact h)]
      simp [lst, cat, h]
    · rw [List.getElem_append_right (by rw [lst_len]; omega)]
      simp [lst, cat, h]

def Asc (L : List Int) : Prop := L.Pairwise (fun a b => a < b)
theorem asc_unique : ∀ {A B : List Int}, Asc A → Asc B → (∀ x, x ∈ A ↔ x ∈ B) → A = B
  | [], [], _, _, _ => rfl
  | [], b :: B, _, _, h => by have := (h b).2 (by simp); simp at this
  | a :: A, [], _, _, h => by have := (h a).1 (by simp); simp at this
  | a :: A, b :: B, hA, hB, h => by
    have hA' := List.pairwise_cons.1 hA
    have hB' := List.pairwise_cons.1 hB
    have e : a = b := by
      have h1 := (h a).1 (by simp)
      have h2 := (h b).2 (by simp)
      rcases List.mem_cons.1 h1 with h1 | h1
      · exact h1
      · rcases List.mem_cons.1 h2 with h2 | h2
        · exact h2.symm
        · have := hA'.1 b h2
          have := hB'.1 a h1
          omega
    subst e
    congr 1
    refine asc_unique hA'.2 hB'.2 fun x => ?_
    have hx := h x
    simp only [List.mem_cons] at hx
    constructor
    · intro hxA
      rcases hx.1 (.inr hxA) with e | e
      · subst e; have := hA'.1 x hxA; omega
      · exact e
    · intro hxB
      rcases hx.2 (.inr hxB) with e | e
      · subst e; have := hB'.1 x hxB; omega
      · exact e
def ins (x : Int) : List Int → List Int
  | [] => [x]
  | y :: r => if x < y then x :: y :: r else if x = y then y :: r else y :: ins x r
theorem mem_ins (x y : Int) : ∀ L, y ∈ ins x L ↔ y = x ∨ y ∈ L
  | [] => by simp [ins]
  | z :: r => by
    unfold ins
    split
    · simp
    · split
      · rename_i h; subst h; simp
      · simp only [List.mem_cons, mem_ins x y r]
        constructor
        · rintro (h | h | h)
          · exact .inr (.inl h)
          · exact .inl h
          · exact .inr (.inr h)
        · rintro (h | h | h)
          · exact .inr (.inl h)
          · exact .inl h
          · exact .inr (.inr h)
theorem asc_ins (x : Int) : ∀ L, Asc L → Asc (ins x L)
  | [], _ => by simp [ins, Asc]
  | z :: r, h => by
    have h' := List.pairwise_cons.1 h
    unfold ins
    split
    · rename_i hlt
      refine List.pairwise_cons.2 ⟨fun y hy => ?_, h⟩
      rcases List.mem_cons.1 hy with e | e
      · omega
      · have := h'.1 y e; omega
    · split
      · exact h
      · rename_i h1 h2
        refine List.pairwise_cons.2 ⟨fun y hy => ?_, asc_ins x r h'.2⟩
        rcases (mem_ins x y r).1 hy with e | e
        · omega
        · exact h'.1 y e
/-- the numbers of a list, each once, ascending -/
def setL (L : List Int) : List Int := L.foldl (fun s x => ins x s) []
theorem setL_snoc (L : List Int) (x : Int) : setL (L ++ [x]) = ins x (setL L) := by simp [setL]
theorem setL_both (L : List Int) : Asc (setL L) ∧ ∀ x, x ∈ setL L ↔ x ∈ L := by
  have key : ∀ (M S : List Int), Asc S → Asc (M.foldl (fun s x => ins x s) S) ∧ ∀ x, x ∈ M.foldl (fun s x => ins x s) S ↔ x ∈ S ∨ x ∈ M := by
    intro M
    induction M with
    | nil => intro S hS; exact ⟨hS, fun x => by simp⟩
    | cons y M ih =>
      intro S hS
      obtain ⟨h1, h2⟩ := ih (ins y S) (asc_ins y S hS)
      refine ⟨h1, fun x => ?_⟩
      rw [List.foldl_cons, h2 x, mem_ins, List.mem_cons]
      constructor
      · rintro ((h | h) | h)
        · exact .inr (.inl h)
        · exact .inl h
        · exact .inr (.inr h)
      · rintro (h | h | h)
        · exact .inl (.inr h)
        · exact .inl (.inl h)
        · exact .inr h
  obtain ⟨h1, h2⟩ := key L [] List.Pairwise.nil
  exact ⟨h1, fun x => by rw [show setL L = L.foldl (fun s x => ins x s) [] from rfl, h2 x]; simp⟩
theorem asc_setL (L : List Int) : Asc (setL L) := (setL_both L).1
theorem mem_setL {L : List Int} {x : Int} : x ∈ setL L ↔ x ∈ L := (setL_both L).2 x
theorem setL_eq {S L : List Int} (h1 : Asc S) (h2 : ∀ x, x ∈ S ↔ x ∈ L) : S = setL L := asc_unique h1 (asc_setL L) fun x => (h2 x).trans mem_setL.symm
theorem setL_congr {L M : List Int} (h : ∀ x, x ∈ L ↔ x ∈ M) : setL L = setL M := setL_eq (asc_setL L) fun x => mem_setL.trans (h x)
theorem setL_set (L : List Int) : setL (setL L) = setL L := setL_congr fun _ => mem_setL
theorem setL_asc {S : List Int} (h : Asc S) : setL S = S := (setL_eq h fun _ => Iff.rfl).symm
theorem ins_there {x : Int} {S : List Int} (h : Asc S) (hx : x ∈ S) : ins x S = S :=
  asc_unique (asc_ins x S h) h fun y => by
    rw [mem_ins]
    constructor
    · rintro (e | e)
      · subst e; exact hx
      · exact e
    · exact .inr
theorem ins_split {x : Int} {A B : List Int} (h : Asc (A ++ B)) (hA : ∀ a ∈ A, a < x) (hB : ∀ b ∈ B, x < b) : ins x (A ++ B) = A ++ [x] ++ B := by
  refine asc_unique (asc_ins x _ h) ?_ fun y => ?_
  · have h' := List.pairwise_append.1 h
    rw [List.append_assoc]
    refine List.pairwise_append.2 ⟨h'.1, List.pairwise_cons.2 ⟨hB, h'.2.1⟩, fun a ha b hb => ?_⟩
    rcases List.mem_cons.1 hb with e | e
    · subst e; exact hA a ha
    · exact h'.2.2 a ha b e
  · rw [mem_ins]
    simp only [List.mem_append, List.mem_singleton]
    constructor
    · rintro (h | h | h)
      · exact .inl (.inr h)
      · exact .inl (.inl h)
      · exact .inr h
    · rintro ((h | h) | h)
      · exact .inr (.inl h)
      · exact .inl h
      · exact .inr (.inr h)
theorem setL_len (L : List Int) : (setL L).length ≤ L.length := by
  have key : ∀ (x : Int) (S : List Int), (ins x S).length ≤ S.length + 1 := by
    intro x S
    induction S with
    | nil => simp [ins]
    | cons y r ih =>
      unfold ins
      split
      · simp
      · split
        · simp
        · simp; exact ih
  have k2 : ∀ (M S : List Int), (M.foldl (fun s x => ins x s) S).length ≤ S.length + M.length := by
    intro M
    induction M with
    | nil => intro S; simp
    | cons y M ih =>
      intro S
      rw [List.foldl_cons, List.length_cons]
      have h1 := ih (ins y S)
      have h2 := key y S
      omega
  have := k2 L []
  simpa [setL] using this
end Go.Proofs.Ytnlnledijpcjpab
namespace Go.Proofs.Ytnlnledijpcjpab
open Go.ChangeShapes Go.WideShapes Go.ChangeAt Go.RowKit
set_option maxRecDepth 100000

def hs (n : Nat) (f : Nat → Int) (x : Int) : Bool := (lst n f).contains x
theorem hs_yes {n : Nat} {f : Nat → Int} {x : Int} {i : Nat} (hi : i < n) (h : f i = x) : hs n f x = true := by
  unfold hs
  rw [List.contains_iff_mem]
  exact mem_lst.2 ⟨i, hi, h⟩
theorem hs_no {n : Nat} {f : Nat → Int} {x : Int} (h : ∀ i, i < n → f i ≠ x) : hs n f x = false := by
  cases e : hs n f x with
  | false => rfl
  | true =>
    unfold hs at e
    rw [List.contains_iff_mem] at e
    obtain ⟨i, hi, hx⟩ := mem_lst.1 e
    exact absurd hx (h i hi)
theorem ret_bool {a b : Bool} (h : a = b) : Ending.returned (.bool a) = .returned (.bool b) := by rw [h]
set_option maxHeartbeats 400000 in
theorem specHas_any (a : Option Addr) (b n c : Nat) (x : Int) (f : Nat → Int) (w : World) (hn : n ≤ 9223372036854775807) (h : Rd .i64 w b a n f) :
    Calls Try.prog 74 #[.slice a n c, .int .i64 x] w fun e w' => e = .returned (.bool (hs n f x)) ∧ w' = w := by
  go_enter Try.func74, Try.ntmps74
  go_wp2
  go_loop [5] (fun i => ∃ k : Nat, k ≤ n ∧ i = .int .i64 k ∧ Hid (∀ j, j < k → f j ≠ x)) (fun i => n - (intOf i).toNat)
  case atStart => exact ⟨0, Nat.zero_le _, rfl, fun j hj => by omega⟩
  case round =>
    obtain ⟨k, hk, rfl, hall⟩ := hrel
    by_cases hlt : k < n
    · rcases h with h3 | ⟨o1, rfl, h3⟩
      · omega
      have e1 := h3 k hlt
      clear h3
      by_cases he : f k = x
      · have e2 : (f k == x) = true := by simpa using he
        have HY : Hid (hs n f x = true) := hs_yes hlt he
        clear he
        go_wp2
        go_ret
        exact ⟨ret_bool HY.out.symm, rfl⟩
      · have e2 : (f k == x) = false := by simpa using he
        have hall2 : Hid (∀ j, j < k + 1 → f j ≠ x) := fun j hj => by
          by_cases e : j = k
          · subst e; exact he
          · exact hall j (by omega)
        clear he hall
        go_wp2
        go_round
        case rel => exact ⟨k + 1, by omega, by go_num, hall2⟩
        case measure => simp [intOf]; omega
    · have HN : Hid (hs n f x = false) := hs_no (fun i hi => hall i (by omega))
      clear hall h
      go_wp2
      go_ret
      exact ⟨ret_bool HN.out.symm, rfl⟩
/-- an append as one step of a region that draws its order -/
theorem step_append {P : Program} {ops : Array Oper} {o : Oper} {a : Act} {w : World} {K : Act → World → Prop} {Q : Exit → Act → World → Prop} {E : Prop} (hgd : o.guard = none) (s x : Operand) (t : TypeId)
    (ho : o.op = .call { callee := .builtin .append, args := #[s, x], argTypes := #[t, t] })
    (base : Nat) (e : TypeId) (i : TypeInfo) (z : Value) (bytes : Nat) (ht : P.underlying t = some (.slice e)) (hi : P.info? e = some i) (hz : i.zero = some z)
    (hsize : i.size = 1) (hby : i.bytes = bytes) (hzs : z.cells.size = 1)
    (v : Value) (n : Nat) (xs : List Value) (hs : a.eval s = v) (hown : w.ownsRow base e 1 v n xs)
    (ad : Addr) (m c : Nat) (news : List Value) (hx : a.eval x = .slice (some ad) m c) (hl : news.length = m) (hnews : ∀ j u, news[j]? = some u → w.cell? (ad.add j) = some u) (h1 : ∀ u ∈ news, u.oneCell' = true)
    (h63 : n + m ≤ maxLen) (hbytes : (n + m) * bytes ≤ 140737488355328) (hbase : base ≤ w.heap.size)
    (h : ∀ v' w', w'.ownsRow base e 1 v' (n + m) (xs ++ news) → w.grownBy w' v.ownBlock → (v' = .slice none 0 0 ↔ v = .slice none 0 0 ∧ m = 0) → K (a.put o.dst v') w') : if Region.wanted o (yielded ops a.tmps) = true then Oper.wp P o a w K Q else E := by
  have hw : Region.wanted o (yielded ops a.tmps) = true := by simp [Region.wanted, hgd]
  rw [if_pos hw]
  exact wp_append_own w s x t ho base e i z 1 bytes ht hi hz hsize hby hzs (by decide) v n xs hs hown ad m c news hx (by rw [Nat.mul_one]; exact hl) hnews h1 h63 hbytes hbase h
def stN (n : Nat) (f : Nat → Int) : Nat := (setL (lst n f)).length
def stF (n : Nat) (f : Nat → Int) : Nat → Int := el (setL (lst n f))
theorem stN_le (n : Nat) (f : Nat → Int) : stN n f ≤ n := by
  have := setL_len (lst n f)
  rw [lst_len] at this
  exact this
end Go.Proofs.Ytnlnledijpcjpab
namespace Go.Proofs.Ytnlnledijpcjpab
open Go.ChangeShapes Go.WideShapes Go.ChangeAt Go.RowKit
set_option maxRecDepth 100000

theorem own_empty {w : World} {base X : Nat} {e : TypeId} (h : w.heap[X]? = some (.cells #[] e (0, 0))) (hb : base ≤ X) : w.ownsRow base e 1 (.slice (some ⟨X, 0, none⟩) 0 0) 0 [] :=
  ⟨by simp, .inr ⟨X, 0, #[], rfl, hb, h, Nat.le_refl _, by decide, by simp, by simp⟩⟩
theorem news_row {w : World} {g : Nat} {L : List Value} {t : TypeId} (h : w.heap[g]? = some (.cells L.toArray t (0, 0))) : ∀ j u, L[j]? = some u → w.cell? ((⟨g, 0, none⟩ : Addr).add j) = some u := by
  intro j u hu
  have e : (⟨g, 0, none⟩ : Addr).add j = ⟨g, j, none⟩ := by unfold Addr.add; split <;> simp_all
  rw [e, cell_of_row w g j _ t (0, 0) h]
  simpa using hu
/-- where a number belongs in an ascending list that does not have it -/
theorem ins_at {S : List Int} {x : Int} {k : Nat} (hS : Asc S) (hk : k ≤ S.length) (h1 : ∀ j, j < k → el S j < x) (h2 : ∀ j, k ≤ j → j < S.length → x < el S j) : ins x S = S.take k ++ [x] ++ S.drop k := by
  have e : S = S.take k ++ S.drop k := (List.take_append_drop k S).symm
  have hS' : Asc (S.take k ++ S.drop k) := by rw [← e]; exact hS
  have := ins_split (x := x) hS' (fun a ha => by
    obtain ⟨j, hj, rfl⟩ := List.mem_iff_getElem.1 ha
    have hj' : j < k := by rw [List.length_take] at hj; omega
    have := h1 j hj'
    rw [el_get (by omega)] at this
    rw [List.getElem_take]; exact this) (fun b hb => by
    obtain ⟨j, hj, rfl⟩ := List.mem_iff_getElem.1 hb
    have hj' : k + j < S.length := by rw [List.length_drop] at hj; omega
    have := h2 (k + j) (by omega) hj'
    rw [el_get hj'] at this
    rw [List.getElem_drop]; exact this)
  rw [← e] at this
  exact this
theorem asc_lt {S : List Int} (h : Asc S) {i j : Nat} (hij : i < j) (hj : j < S.length) : el S i < el S j := by
  rw [el_get (by omega), el_get hj]
  exact List.pairwise_iff_getElem.1 h i j (by omega) hj hij
/-- what is laid together of a cut list and one number more -/
theorem vals_three (S : List Int) (x : Int) (k : Nat) (hk : k ≤ S.length) : vals .i64 k (el S) ++ [.int .i64 x] ++ vals .i64 (S.length - k) (fun j => el S (k + j)) = vals .i64 (S.length + 1) (el (S.take k ++ [x] ++ S.drop k)) := by
  refine vals_ext (by simp [vals_len]; omega) (fun j hj => ?_)
  have hlen : (S.take k).length = k := by rw [List.length_take]; omega
  by_cases h1 : j < k
  · rw [List.append_assoc, List.getElem?_append_left (by rw [vals_len]; exact h1), vals_get, if_pos h1]
    rw [List.append_assoc, el_left (by omega), el_take h1]
  · rw [List.append_assoc, List.getElem?_append_right (by rw [vals_len]; omega), vals_len]
    by_cases h2 : j = k
    · subst h2
      have e0 : el (S.take j ++ [x] ++ S.drop j) j = x := by
        rw [List.append_assoc, el_right (by omega), hlen, Nat.sub_self]
        rfl
      rw [e0]; simp
    · rw [List.getElem?_append_right (by simp; omega)]
      simp only [List.length_singleton]
      rw [vals_get, if_pos (by omega)]
      have e0 : el (S.take k ++ [x] ++ S.drop k) j = el S (j - 1) := by
        rw [el_right (by rw [List.length_append, hlen]; simp; omega), List.length_append, hlen, List.length_singleton, el_drop]
        congr 1
        omega
      rw [e0]
      congr 2
      congr 1
      omega
end Go.Proofs.Ytnlnledijpcjpab
namespace Go.Proofs.Ytnlnledijpcjpab
open Go.ChangeShapes Go.WideShapes Go.ChangeAt Go.RowKit
set_option maxRecDepth 100000

theorem below_new' (w : World) (o : Obj) : Below w.heap.size w (w.alloc o) := (Below.refl _ _).alloc (Nat.le_refl _) _
theorem Rd.first' {k : IntKind} {w : World} {b : Nat} {a : Option Addr} {n m : Nat} {f : Nat → Int} (h : Rd k w b a n f) (hm : m ≤ n) : Rd k w b a m f := by
  rcases h with h | ⟨off, ha, hc⟩
  · exact .inl (by omega)
  · exact .inr ⟨off, ha, fun i hi => hc i (by omega)⟩
theorem Rd.off0 {k : IntKind} {w : World} {b : Nat} {n i m : Nat} {f : Nat → Int} (h : Rd k w b (some ⟨b, 0, none⟩) n f) (hm : i + m ≤ n) : Rd k w b (some ⟨b, i, none⟩) m (fun j => f (i + j)) := by
  by_cases h0 : m = 0
  · exact .inl h0
  rcases h with h | ⟨off', ha, hc⟩
  · omega
  · simp only [Option.some.injEq, Addr.mk.injEq, and_true, true_and] at ha
    subst ha
    exact .inr ⟨i, rfl, fun j hj => by have := hc (i + j) (by omega); rwa [Nat.zero_add] at this⟩
theorem Rd.news' {k : IntKind} {w : World} {b : Nat} {ad : Addr} {n : Nat} {f : Nat → Int} (h : Rd k w b (some ad) n f) : ∀ j u, (vals k n f)[j]? = some u → w.cell? (ad.add j) = some u := by
  intro j u hu
  by_cases hn : 0 < n
  · obtain ⟨x, e, hx⟩ := h.src hn
    simp only [Option.some.injEq] at e
    subst e
    exact hx j u hu
  · rw [vals_get, if_neg (by omega)] at hu; cases hu
set_option maxRecDepth 100000 in
set_option maxHeartbeats 4000000 in
theorem specSetOf_any (a : Option Addr) (b n c : Nat) (f : Nat → Int) (w : World) (hn : n ≤ 3000000) (h : Rd .i64 w b a n f) :
    Calls Try.prog 73 #[.slice a n c] w fun e w' => ∃ q cap, e = .returned (.slice (some ⟨q, 0, none⟩) (stN n f) cap) ∧ Below w.heap.size w w' ∧ Own .i64 w' w.heap.size q (some ⟨q, 0, none⟩) (stN n f) (stF n f) := by
  obtain ⟨i0, hi, hz0, hz1, hz2⟩ := info_parts Try.infoInt
  go_enter Try.func73, Try.ntmps73
  go_wp2
  go_loopw [3, 4] (fun v i wr => ∃ k q N cap : Nat, ∃ S : List Int, k ≤ n ∧ i = .int .i64 k ∧ v = .slice (some ⟨q, 0, none⟩) N cap ∧ N ≤ cap ∧ Hid (S = setL (lst k f) ∧ N = S.length) ∧ Below w.heap.size w wr ∧ Own .i64 wr w.heap.size q (some ⟨q, 0, none⟩) N (el S)) (fun _ i _ => n - (intOf i).toNat)
  case atStart => exact ⟨0, w.heap.size, 0, 0, [], Nat.zero_le _, rfl, rfl, Nat.le_refl _, ⟨rfl, rfl⟩, (Below.refl _ _).alloc (Nat.le_refl _) _, ⟨Nat.le_refl _, by simp, .inl rfl, free_row (heap_alloc_new w _)⟩⟩
  case round =>
    obtain ⟨k, q, N, cap, S, hk, rfl, rfl, hcp, HS, hb, ho⟩ := hrel
    have hS : Asc S := by rw [HS.out.1]; exact asc_setL _
    have hNk : N ≤ k := by
      have h1 := setL_len (lst k f)
      rw [lst_len, ← HS.out.1, ← HS.out.2] at h1
      exact h1
    by_cases hlt : k < n
    · have hrd := h.grew hb
      rcases hrd with h3 | ⟨o1, rfl, h3⟩
      · omega
      have e1 := h3 k hlt
      clear h3
      obtain ⟨x, hx⟩ : ∃ x, x = f k := ⟨_, rfl⟩
      rw [← hx] at e1
      have HX : Hid (x = f k) := hx
      clear hx
      have HI : Hid (setL (lst (k + 1) f) = ins x S) := show _ = _ by rw [lst_succ, setL_snoc, ← HS.out.1, HX.out]
      have hl : lst N (el S) = S := by rw [HS.out.2]; exact lst_el S
      have HL : Hid (lst N (el S) = S) := hl
      clear hl
      cases hh : hs N (el S) x with
      | true =>
        have HT : Hid (setL (lst (k + 1) f) = S) := show _ = _ by
          rw [HI.out]
          refine ins_there hS ?_
          unfold hs at hh
          rw [HL.out, List.contains_iff_mem] at hh
          exact hh
        go_wp2_with fail
        refine (specHas_any _ q N cap x (el S) wr (by omega) ho.rd).mono ?_
        rintro e w' ⟨rfl, rfl⟩
        go_wp2
        go_roundw
        case rel => exact ⟨k + 1, q, N, cap, S, by omega, by go_num, rfl, hcp, ⟨HT.out.symm, HS.out.2⟩, hb, ho⟩
        case measure => simp [intOf]; omega
      | false =>
        have hne : Hid (∀ j, j < N → el S j ≠ x) := fun j hj e => by
          have := hs_yes hj e
          rw [hh] at this; cases this
        go_wp2_with fail
        refine (specHas_any _ q N cap x (el S) wr (by omega) ho.rd).mono ?_
        rintro e w' ⟨rfl, rfl⟩
        go_wp2
        go_loopw [5] (fun kk wi => ∃ m : Nat, m ≤ N ∧ kk = .int .i64 m ∧ Below w'.heap.size w' wi ∧ Hid (∀ j, m ≤ j → j < N → x < el S j)) (fun kk _ => (intOf kk).toNat)
        case atStart => exact ⟨N, Nat.le_refl _, rfl, Below.refl _ _, fun j h1 h2 => by omega⟩
        case round =>
          obtain ⟨m, hm, rfl, hbi, hgt⟩ := hrel
          have e1' := (hbi.cell (p := ⟨b, o1 + k, none⟩) (World.block_lt_of_cell? _ _ e1)).trans e1
          have hoi := ho.grew hbi
          by_cases hm0 : 0 < m
          · have e2 := hoi.cell (m - 1) (by omega)
            rw [Nat.zero_add] at e2
            have x1 : (0 : Int) < (m : Int) := by omega
            have x2 : IntKind.i64.wrap ((m : Int) - 1) = ((m - 1 : Nat) : Int) := by rw [IntWalk.i64_in _ (by omega)]; omega
            by_cases hgt2 : x < el S (m - 1)
            · have hgt3 : Hid (∀ j, m - 1 ≤ j → j < N → x < el S j) := fun j h1 h2 => by
                by_cases e : j = m - 1
                · subst e; exact hgt2
                · exact hgt j (by omega) h2
              clear hgt e1
              go_wp2
              go_quiet (fail)
              go_wp2
              go_roundw
              case rel => exact ⟨m - 1, by omega, by go_num, below_drewN hbi _, hgt3⟩
              case measure => simp [intOf]; omega
            · have x3 : el S (m - 1) ≤ x := by omega
              have hlow : ∀ j, j < m → el S j < x := fun j hj => by
                have h1 := hne.out (m - 1) (by omega)
                by_cases e : j = m - 1
                · subst e; omega
                · have := asc_lt hS (i := j) (j := m - 1) (by omega) (by rw [← HS.out.2]; omega)
                  omega
              have hgt' := hgt.out
              go_wp2
              go_quiet (fail)
              go_wp2
              clear x2 x3 e2 hgt2
              obtain ⟨wz, hwz⟩ : ∃ z, z = wr.drewN nq := ⟨_, rfl⟩
              rw [← hwz]
              have hbz : Below w'.heap.size w' wz := by rw [hwz]; exact below_drewN hbi nq
              have hoz := ho.grew hbz
              have e1z := (hbz.cell (p := ⟨b, o1 + k, none⟩) (World.block_lt_of_cell? _ _ e1)).trans e1
              clear hwz hbi hoi e1' hgt
              have hNS : Hid (N = S.length) := HS.out.2
              have HIN : Hid (ins x S = S.take m ++ [x] ++ S.drop m) := ins_at hS (by rw [← hNS.out]; exact hm) hlow (fun j h1 h2 => hgt' j h1 (by rw [hNS.out]; exact h2))
              clear hgt' hlow
              have y1 : (0 : Int) ≤ (m : Int) := by omega
              have y2 : (m : Int) ≤ (cap : Int) := by omega
              have y3 : (m : Int) ≤ (N : Int) := by omega
              have y4 : (k : Int) < (n : Int) := by omega
              have hA1 : Below wz.heap.size wz (wz.alloc (.cells #[] 3)) := below_new' _ _
              have hA2 : Below wz.heap.size wz ((wz.alloc (.cells #[] 3)).alloc (.cells #[.int .i64 x] 3)) := hA1.alloc hA1.size _
              have hA3 : Below wz.heap.size wz ((wz.alloc (.cells #[.int .i64 x] 3)).alloc (.cells #[] 3)) := (below_new' _ _).alloc (below_new' _ _).size _
              have e1a := (hA1.cell (p := ⟨b, o1 + k, none⟩) (World.block_lt_of_cell? _ _ e1z)).trans e1z
              have hX1 : Hid ((wz.alloc (.cells #[] 3)).heap[wz.heap.size]? = some (.cells #[] 3 (0, 0))) := heap_alloc_new wz _
              have hX2 : Hid (((wz.alloc (.cells #[] 3)).alloc (.cells #[.int .i64 x] 3)).heap[wz.heap.size]? = some (.cells #[] 3 (0, 0))) := (Below.heap_alloc _ _ _ (by simp)).trans (heap_alloc_new wz _)
              have hX3 : Hid (((wz.alloc (.cells #[.int .i64 x] 3)).alloc (.cells #[] 3)).heap[wz.heap.size + 1]? = some (.cells #[] 3 (0, 0))) := show _ = _ by have := heap_alloc_new (wz.alloc (.cells #[.int .i64 x] 3)) (.cells #[] 3 (0, 0)); simpa using this
              have hY2 : Hid (((wz.alloc (.cells #[] 3)).alloc (.cells #[.int .i64 x] 3)).heap[wz.heap.size + 1]? = some (.cells [Value.int .i64 x].toArray 3 (0, 0))) := show _ = _ by have := heap_alloc_new (wz.alloc (.cells #[] 3)) (.cells #[.int .i64 x] 3 (0, 0)); simpa using this
              have hY3 : Hid (((wz.alloc (.cells #[.int .i64 x] 3)).alloc (.cells #[] 3)).heap[wz.heap.size]? = some (.cells [Value.int .i64 x].toArray 3 (0, 0))) := (Below.heap_alloc _ _ _ (by simp)).trans (heap_alloc_new wz _)
              have hN1 : Hid (∀ j u, (vals .i64 m (el S))[j]? = some u → (wz.alloc (.cells #[] 3)).cell? ((⟨q, 0, none⟩ : Addr).add j) = some u) := ((hoz.rd.grew hA1).first' hm).news'
              have hN2 : Hid (∀ j u, (vals .i64 m (el S))[j]? = some u → ((wz.alloc (.cells #[] 3)).alloc (.cells #[.int .i64 x] 3)).cell? ((⟨q, 0, none⟩ : Addr).add j) = some u) := ((hoz.rd.grew hA2).first' hm).news'
              have hN3 : Hid (∀ j u, (vals .i64 m (el S))[j]? = some u → ((wz.alloc (.cells #[.int .i64 x] 3)).alloc (.cells #[] 3)).cell? ((⟨q, 0, none⟩ : Addr).add j) = some u) := ((hoz.rd.grew hA3).first' hm).news'
              rcases Nat.lt_or_ge m cap with hmc | hmc
              · have y5 : ¬ cap = m := by omega
                go_wp2
                go_region_law (first | (refine step_append rfl (.tmp 37) (.tmp 40) 24 rfl wz.heap.size 3 i0 (.int .i64 0) 8 Try.underlying24 hi hz0 hz1 hz2 rfl (.slice (some ⟨wz.heap.size, 0, none⟩) 0 0) 0 [] rfl (own_empty hX1.out (by omega)) ⟨q, 0, none⟩ m cap (vals .i64 m (el S)) rfl (vals_len _ _ _) hN1.out (vals_one _ _ _) (by unfold maxLen; omega) (by omega) hA1.size ?_; intro v4 w4 hown4 hgr4 hnil4; have hv4 : v4 ≠ .slice none 0 0 := fun e => (by have h9 := (hnil4.1 e).1; simp at h9); have hb4 : Below wz.heap.size wz w4 := (hA1.drew).grown hgr4 hA1.size (fun k' hk' => (by simp [Value.ownBlock] at hk'; omega)); simp only [Nat.zero_add, List.nil_append] at hown4; have e4 := (hb4.cell (p := ⟨b, o1 + k, none⟩) (World.block_lt_of_cell? _ _ e1z)).trans e1z; clear hnil4 hgr4) | (refine step_append rfl (.tmp 37) (.tmp 40) 24 rfl wz.heap.size 3 i0 (.int .i64 0) 8 Try.underlying24 hi hz0 hz1 hz2 rfl (.slice (some ⟨wz.heap.size, 0, none⟩) 0 0) 0 [] rfl (own_empty hX2.out (by omega)) ⟨q, 0, none⟩ m cap (vals .i64 m (el S)) rfl (vals_len _ _ _) hN2.out (vals_one _ _ _) (by unfold maxLen; omega) (by omega) hA2.size ?_; intro v4 w4 hown4 hgr4 hnil4; have hv4 : v4 ≠ .slice none 0 0 := fun e => (by have h9 := (hnil4.1 e).1; simp at h9); have hb4 : Below wz.heap.size wz w4 := (hA2.drew).grown hgr4 hA2.size (fun k' hk' => (by simp [Value.ownBlock] at hk'; omega)); simp only [Nat.zero_add, List.nil_append] at hown4; have e4 := (hb4.cell (p := ⟨b, o1 + k, none⟩) (World.block_lt_of_cell? _ _ e1z)).trans e1z; have hn4 : ∀ j u, [Value.int .i64 x][j]? = some u → w4.cell? ((⟨wz.heap.size + 1, 0, none⟩ : Addr).add j) = some u := news_row ((hgr4.block (wz.heap.size + 1) (by simp) (by simp [Value.ownBlock])).trans hY2.out); clear hnil4 hgr4) | (refine step_append rfl (.tmp 37) (.tmp 40) 24 rfl wz.heap.size 3 i0 (.int .i64 0) 8 Try.underlying24 hi hz0 hz1 hz2 rfl (.slice (some ⟨wz.heap.size + 1, 0, none⟩) 0 0) 0 [] rfl (own_empty hX3.out (by omega)) ⟨q, 0, none⟩ m cap (vals .i64 m (el S)) rfl (vals_len _ _ _) hN3.out (vals_one _ _ _) (by unfold maxLen; omega) (by omega) hA3.size ?_; intro v4 w4 hown4 hgr4 hnil4; have hv4 : v4 ≠ .slice none 0 0 := fun e => (by have h9 := (hnil4.1 e).1; simp at h9); have hb4 : Below wz.heap.size wz w4 := (hA3.drew).grown hgr4 hA3.size (fun k' hk' => (by simp [Value.ownBlock] at hk'; omega)); simp only [Nat.zero_add, List.nil_append] at hown4; have e4 := (hb4.cell (p := ⟨b, o1 + k, none⟩) (World.block_lt_of_cell? _ _ e1z)).trans e1z; have hn4 : ∀ j u, [Value.int .i64 x][j]? = some u → w4.cell? ((⟨wz.heap.size, 0, none⟩ : Addr).add j) = some u := news_row ((hgr4.block wz.heap.size (by simp; omega) (by simp [Value.ownBlock])).trans hY3.out); clear hnil4 hgr4) | (refine step_append rfl (.tmp 41) (.tmp 46) 24 rfl wz.heap.size 3 i0 (.int .i64 0) 8 Try.underlying24 hi hz0 hz1 hz2 rfl v4 m (vals .i64 m (el S)) rfl (hown4.alloc _) ⟨w4.heap.size, 0, none⟩ 1 1 [.int .i64 x] rfl rfl (news_row (heap_alloc_new w4 _)) (by intro u hu; simp at hu; subst hu; rfl) (by unfold maxLen; omega) (by omega) (hb4.alloc hb4.size (.cells #[.int .i64 x] 3)).size ?_; intro v5 w5 hown5 hgr5 hnil5; have hv5 : v5 ≠ .slice none 0 0 := fun e => hv4 (hnil5.1 e).1; have hb5 : Below wz.heap.size wz w5 := (hb4.alloc hb4.size (.cells #[.int .i64 x] 3)).grown hgr5 (hb4.alloc hb4.size (.cells #[.int .i64 x] 3)).size (fun k' hk' => (hown4.lt k' hk').1); clear hnil5 hgr5) | (refine step_append rfl (.tmp 41) (.tmp 46) 24 rfl wz.heap.size 3 i0 (.int .i64 0) 8 Try.underlying24 hi hz0 hz1 hz2 rfl v4 m (vals .i64 m (el S)) rfl hown4 ⟨wz.heap.size + 1, 0, none⟩ 1 1 [.int .i64 x] rfl rfl hn4 (by intro u hu; simp at hu; subst hu; rfl) (by unfold maxLen; omega) (by omega) hb4.size ?_; intro v5 w5 hown5 hgr5 hnil5; have hv5 : v5 ≠ .slice none 0 0 := fun e => hv4 (hnil5.1 e).1; have hb5 : Below wz.heap.size wz w5 := hb4.grown hgr5 hb4.size (fun k' hk' => (hown4.lt k' hk').1); clear hnil5 hgr5) | (refine step_append rfl (.tmp 41) (.tmp 46) 24 rfl wz.heap.size 3 i0 (.int .i64 0) 8 Try.underlying24 hi hz0 hz1 hz2 rfl v4 m (vals .i64 m (el S)) rfl hown4 ⟨wz.heap.size, 0, none⟩ 1 1 [.int .i64 x] rfl rfl hn4 (by intro u hu; simp at hu; subst hu; rfl) (by unfold maxLen; omega) (by omega) hb4.size ?_; intro v5 w5 hown5 hgr5 hnil5; have hv5 : v5 ≠ .slice none 0 0 := fun e => hv4 (hnil5.1 e).1; have hb5 : Below wz.heap.size wz w5 := hb4.grown hgr5 hb4.size (fun k' hk' => (hown4.lt k' hk').1); clear hnil5 hgr5) | (refine step_append rfl (.tmp 47) (.tmp 50) 24 rfl wz.heap.size 3 i0 (.int .i64 0) 8 Try.underlying24 hi hz0 hz1 hz2 rfl v5 (m + 1) (vals .i64 m (el S) ++ [.int .i64 x]) rfl hown5 ⟨q, m, none⟩ (N - m) (cap - m) (vals .i64 (N - m) (fun j => el S (m + j))) rfl (vals_len _ _ _) ((hoz.rd.grew hb5).off0 (by omega)).news' (vals_one _ _ _) (by unfold maxLen; omega) (by omega) hb5.size ?_; intro v6 w6 hown6 hgr6 hnil6; have hv6 : v6 ≠ .slice none 0 0 := fun e => hv5 (hnil6.1 e).1; have hb6 : Below wz.heap.size wz w6 := hb5.grown hgr6 hb5.size (fun k' hk' => (hown5.lt k' hk').1); clear hnil6 hgr6))
                all_goals
                  have hown7 : w6.ownsRow wz.heap.size 3 1 v6 (N + 1) (vals .i64 (N + 1) (el (S.take m ++ [x] ++ S.drop m))) := by
                    have e9 := vals_three S x m (by rw [← hNS.out]; exact hm)
                    rw [← hNS.out] at e9
                    rw [← e9]
                    have e8 : m + 1 + (N - m) = N + 1 := by omega
                    rw [← e8]
                    exact hown6
                  obtain ⟨q6, cap6, rfl, hcp6, ho6⟩ := own_of_cap hown7 hv6
                  have hB6 : Below w.heap.size w w6 := below_app (below_app hb hbz hb.size) hb6 (Nat.le_trans hb.size hbz.size)
                  have hq6 : w.heap.size ≤ q6 := Nat.le_trans (Nat.le_trans hb.size hbz.size) ho6.1
                  have hfin : Hid (S.take m ++ [x] ++ S.drop m = setL (lst (k + 1) f) ∧ N + 1 = (S.take m ++ [x] ++ S.drop m).length) := ⟨by rw [HI.out, HIN.out], by simp; have := hNS.out; omega⟩
                  clear hown6 hown7 hv6 hb6 hown5 hv5 hb5 hown4 hv4 hb4 hX1 hX2 hX3 hY2 hY3 hN1 hN2 hN3 hA1 hA2 hA3
                  go_wp2
                  go_roundw
                  case rel => first | exact ⟨k + 1, q6, N + 1, cap6, _, by omega, by go_num, rfl, hcp6, hfin, hB6, ⟨hq6, ho6.2⟩⟩ | ((repeat apply Exists.intro); exact ⟨⟨k + 1, q6, N + 1, cap6, _, by omega, by go_num, rfl, hcp6, hfin, hB6, ⟨hq6, ho6.2⟩⟩, rfl⟩)
                  case measure => simp [intOf]; omega
              · obtain rfl : cap = m := by omega
                obtain rfl : N = cap := by omega
                go_wp2
                go_region_law (first | (refine step_append rfl (.tmp 37) (.tmp 40) 24 rfl wz.heap.size 3 i0 (.int .i64 0) 8 Try.underlying24 hi hz0 hz1 hz2 rfl (.slice (some ⟨wz.heap.size, 0, none⟩) 0 0) 0 [] rfl (own_empty hX1.out (by omega)) ⟨q, 0, none⟩ N N (vals .i64 N (el S)) rfl (vals_len _ _ _) hN1.out (vals_one _ _ _) (by unfold maxLen; omega) (by omega) hA1.size ?_; intro v4 w4 hown4 hgr4 hnil4; have hv4 : v4 ≠ .slice none 0 0 := fun e => (by have h9 := (hnil4.1 e).1; simp at h9); have hb4 : Below wz.heap.size wz w4 := (hA1.drew).grown hgr4 hA1.size (fun k' hk' => (by simp [Value.ownBlock] at hk'; omega)); simp only [Nat.zero_add, List.nil_append] at hown4; have e4 := (hb4.cell (p := ⟨b, o1 + k, none⟩) (World.block_lt_of_cell? _ _ e1z)).trans e1z; clear hnil4 hgr4) | (refine step_append rfl (.tmp 37) (.tmp 40) 24 rfl wz.heap.size 3 i0 (.int .i64 0) 8 Try.underlying24 hi hz0 hz1 hz2 rfl (.slice (some ⟨wz.heap.size, 0, none⟩) 0 0) 0 [] rfl (own_empty hX2.out (by omega)) ⟨q, 0, none⟩ N N (vals .i64 N (el S)) rfl (vals_len _ _ _) hN2.out (vals_one _ _ _) (by unfold maxLen; omega) (by omega) hA2.size ?_; intro v4 w4 hown4 hgr4 hnil4; have hv4 : v4 ≠ .slice none 0 0 := fun e => (by have h9 := (hnil4.1 e).1; simp at h9); have hb4 : Below wz.heap.size wz w4 := (hA2.drew).grown hgr4 hA2.size (fun k' hk' => (by simp [Value.ownBlock] at hk'; omega)); simp only [Nat.zero_add, List.nil_append] at hown4; have e4 := (hb4.cell (p := ⟨b, o1 + k, none⟩) (World.block_lt_of_cell? _ _ e1z)).trans e1z; have hn4 : ∀ j u, [Value.int .i64 x][j]? = some u → w4.cell? ((⟨wz.heap.size + 1, 0, none⟩ : Addr).add j) = some u := news_row ((hgr4.block (wz.heap.size + 1) (by simp) (by simp [Value.ownBlock])).trans hY2.out); clear hnil4 hgr4) | (refine step_append rfl (.tmp 37) (.tmp 40) 24 rfl wz.heap.size 3 i0 (.int .i64 0) 8 Try.underlying24 hi hz0 hz1 hz2 rfl (.slice (some ⟨wz.heap.size + 1, 0, none⟩) 0 0) 0 [] rfl (own_empty hX3.out (by omega)) ⟨q, 0, none⟩ N N (vals .i64 N (el S)) rfl (vals_len _ _ _) hN3.out (vals_one _ _ _) (by unfold maxLen; omega) (by omega) hA3.size ?_; intro v4 w4 hown4 hgr4 hnil4; have hv4 : v4 ≠ .slice none 0 0 := fun e => (by have h9 := (hnil4.1 e).1; simp at h9); have hb4 : Below wz.heap.size wz w4 := (hA3.drew).grown hgr4 hA3.size (fun k' hk' => (by simp [Value.ownBlock] at hk'; omega)); simp only [Nat.zero_add, List.nil_append] at hown4; have e4 := (hb4.cell (p := ⟨b, o1 + k, none⟩) (World.block_lt_of_cell? _ _ e1z)).trans e1z; have hn4 : ∀ j u, [Value.int .i64 x][j]? = some u → w4.cell? ((⟨wz.heap.size, 0, none⟩ : Addr).add j) = some u := news_row ((hgr4.block wz.heap.size (by simp; omega) (by simp [Value.ownBlock])).trans hY3.out); clear hnil4 hgr4) | (refine step_append rfl (.tmp 41) (.tmp 46) 24 rfl wz.heap.size 3 i0 (.int .i64 0) 8 Try.underlying24 hi hz0 hz1 hz2 rfl v4 N (vals .i64 N (el S)) rfl (hown4.alloc _) ⟨w4.heap.size, 0, none⟩ 1 1 [.int .i64 x] rfl rfl (news_row (heap_alloc_new w4 _)) (by intro u hu; simp at hu; subst hu; rfl) (by unfold maxLen; omega) (by omega) (hb4.alloc hb4.size (.cells #[.int .i64 x] 3)).size ?_; intro v5 w5 hown5 hgr5 hnil5; have hv5 : v5 ≠ .slice none 0 0 := fun e => hv4 (hnil5.1 e).1; have hb5 : Below wz.heap.size wz w5 := (hb4.alloc hb4.size (.cells #[.int .i64 x] 3)).grown hgr5 (hb4.alloc hb4.size (.cells #[.int .i64 x] 3)).size (fun k' hk' => (hown4.lt k' hk').1); clear hnil5 hgr5) | (refine step_append rfl (.tmp 41) (.tmp 46) 24 rfl wz.heap.size 3 i0 (.int .i64 0) 8 Try.underlying24 hi hz0 hz1 hz2 rfl v4 N (vals .i64 N (el S)) rfl hown4 ⟨wz.heap.size + 1, 0, none⟩ 1 1 [.int .i64 x] rfl rfl hn4 (by intro u hu; simp at hu; subst hu; rfl) (by unfold maxLen; omega) (by omega) hb4.size ?_; intro v5 w5 hown5 hgr5 hnil5; have hv5 : v5 ≠ .slice none 0 0 := fun e => hv4 (hnil5.1 e).1; have hb5 : Below wz.heap.size wz w5 := hb4.grown hgr5 hb4.size (fun k' hk' => (hown4.lt k' hk').1); clear hnil5 hgr5) | (refine step_append rfl (.tmp 41) (.tmp 46) 24 rfl wz.heap.size 3 i0 (.int .i64 0) 8 Try.underlying24 hi hz0 hz1 hz2 rfl v4 N (vals .i64 N (el S)) rfl hown4 ⟨wz.heap.size, 0, none⟩ 1 1 [.int .i64 x] rfl rfl hn4 (by intro u hu; simp at hu; subst hu; rfl) (by unfold maxLen; omega) (by omega) hb4.size ?_; intro v5 w5 hown5 hgr5 hnil5; have hv5 : v5 ≠ .slice none 0 0 := fun e => hv4 (hnil5.1 e).1; have hb5 : Below wz.heap.size wz w5 := hb4.grown hgr5 hb4.size (fun k' hk' => (hown4.lt k' hk').1); clear hnil5 hgr5) | (refine step_append rfl (.tmp 47) (.tmp 50) 24 rfl wz.heap.size 3 i0 (.int .i64 0) 8 Try.underlying24 hi hz0 hz1 hz2 rfl v5 (N + 1) (vals .i64 N (el S) ++ [.int .i64 x]) rfl hown5 ⟨q, 0, none⟩ (0) (0) (vals .i64 (0) (fun j => el S (N + j))) rfl (vals_len _ _ _) (fun j u hu => (by rw [vals_get] at hu; simp at hu)) (vals_one _ _ _) (by unfold maxLen; omega) (by omega) hb5.size ?_; intro v6 w6 hown6 hgr6 hnil6; have hv6 : v6 ≠ .slice none 0 0 := fun e => hv5 (hnil6.1 e).1; have hb6 : Below wz.heap.size wz w6 := hb5.grown hgr6 hb5.size (fun k' hk' => (hown5.lt k' hk').1); clear hnil6 hgr6))
                all_goals
                  have hown7 : w6.ownsRow wz.heap.size 3 1 v6 (N + 1) (vals .i64 (N + 1) (el (S.take N ++ [x] ++ S.drop N))) := by
                    have e9 := vals_three S x N (by rw [← hNS.out]; exact hm)
                    rw [← hNS.out, Nat.sub_self] at e9
                    rw [← e9]
                    exact hown6
                  obtain ⟨q6, cap6, rfl, hcp6, ho6⟩ := own_of_cap hown7 hv6
                  have hB6 : Below w.heap.size w w6 := below_app (below_app hb hbz hb.size) hb6 (Nat.le_trans hb.size hbz.size)
                  have hq6 : w.heap.size ≤ q6 := Nat.le_trans (Nat.le_trans hb.size hbz.size) ho6.1
                  have hfin : Hid (S.take N ++ [x] ++ S.drop N = setL (lst (k + 1) f) ∧ N + 1 = (S.take N ++ [x] ++ S.drop N).length) := ⟨by rw [HI.out, HIN.out], by simp; have := hNS.out; omega⟩
                  clear hown6 hown7 hv6 hb6 hown5 hv5 hb5 hown4 hv4 hb4 hX1 hX2 hX3 hY2 hY3 hN1 hN2 hN3 hA1 hA2 hA3
                  go_wp2
                  go_roundw
                  case rel => first | exact ⟨k + 1, q6, N + 1, cap6, _, by omega, by go_num, rfl, hcp6, hfin, hB6, ⟨hq6, ho6.2⟩⟩ | ((repeat apply Exists.intro); exact ⟨⟨k + 1, q6, N + 1, cap6, _, by omega, by go_num, rfl, hcp6, hfin, hB6, ⟨hq6, ho6.2⟩⟩, rfl⟩)
                  case measure => simp [intOf]; omega
          · have x1 : decide ((0 : Int) < (m : Int)) = false := by simp; omega
            have hlow : ∀ j, j < m → el S j < x := fun j hj => by omega
            have hgt' := hgt.out
            go_wp2
            go_quiet (fail)
            go_wp2
            obtain ⟨wz, hwz⟩ : ∃ z, z = wr.drewN nq := ⟨_, rfl⟩
            rw [← hwz]
            have hbz : Below w'.heap.size w' wz := by rw [hwz]; exact below_drewN hbi nq
            have hoz := ho.grew hbz
            have e1z := (hbz.cell (p := ⟨b, o1 + k, none⟩) (World.block_lt_of_cell? _ _ e1)).trans e1
            clear hwz hbi hoi e1' hgt
            have hNS : Hid (N = S.length) := HS.out.2
            have HIN : Hid (ins x S = S.take m ++ [x] ++ S.drop m) := ins_at hS (by rw [← hNS.out]; exact hm) hlow (fun j h1 h2 => hgt' j h1 (by rw [hNS.out]; exact h2))
            clear hgt' hlow
            have y1 : (0 : Int) ≤ (m : Int) := by omega
            have y2 : (m : Int) ≤ (cap : Int) := by omega
            have y3 : (m : Int) ≤ (N : Int) := by omega
            have y4 : (k : Int) < (n : Int) := by omega
            have hA1 : Below wz.heap.size wz (wz.alloc (.cells #[] 3)) := below_new' _ _
            have hA2 : Below wz.heap.size wz ((wz.alloc (.cells #[] 3)).alloc (.cells #[.int .i64 x] 3)) := hA1.alloc hA1.size _
            have hA3 : Below wz.heap.size wz ((wz.alloc (.cells #[.int .i64 x] 3)).alloc (.cells #[] 3)) := (below_new' _ _).alloc (below_new' _ _).size _
            have e1a := (hA1.cell (p := ⟨b, o1 + k, none⟩) (World.block_lt_of_cell? _ _ e1z)).trans e1z
            have hX1 : Hid ((wz.alloc (.cells #[] 3)).heap[wz.heap.size]? = some (.cells #[] 3 (0, 0))) := heap_alloc_new wz _
            have hX2 : Hid (((wz.alloc (.cells #[] 3)).alloc (.cells #[.int .i64 x] 3)).heap[wz.heap.size]? = some (.cells #[] 3 (0, 0))) := (Below.heap_alloc _ _ _ (by simp)).trans (heap_alloc_new wz _)
            have hX3 : Hid (((wz.alloc (.cells #[.int .i64 x] 3)).alloc (.cells #[] 3)).heap[wz.heap.size + 1]? = some (.cells #[] 3 (0, 0))) := show _ = _ by have := heap_alloc_new (wz.alloc (.cells #[.int .i64 x] 3)) (.cells #[] 3 (0, 0)); simpa using this
            have hY2 : Hid (((wz.alloc (.cells #[] 3)).alloc (.cells #[.int .i64 x] 3)).heap[wz.heap.size + 1]? = some (.cells [Value.int .i64 x].toArray 3 (0, 0))) := show _ = _ by have := heap_alloc_new (wz.alloc (.cells #[] 3)) (.cells #[.int .i64 x] 3 (0, 0)); simpa using this
            have hY3 : Hid (((wz.alloc (.cells #[.int .i64 x] 3)).alloc (.cells #[] 3)).heap[wz.heap.size]? = some (.cells [Value.int .i64 x].toArray 3 (0, 0))) := (Below.heap_alloc _ _ _ (by simp)).trans (heap_alloc_new wz _)
            have hN1 : Hid (∀ j u, (vals .i64 m (el S))[j]? = some u → (wz.alloc (.cells #[] 3)).cell? ((⟨q, 0, none⟩ : Addr).add j) = some u) := ((hoz.rd.grew hA1).first' hm).news'
            have hN2 : Hid (∀ j u, (vals .i64 m (el S))[j]? = some u → ((wz.alloc (.cells #[] 3)).alloc (.cells #[.int .i64 x] 3)).cell? ((⟨q, 0, none⟩ : Addr).add j) = some u) := ((hoz.rd.grew hA2).first' hm).news'
            have hN3 : Hid (∀ j u, (vals .i64 m (el S))[j]? = some u → ((wz.alloc (.cells #[.int .i64 x] 3)).alloc (.cells #[] 3)).cell? ((⟨q, 0, none⟩ : Addr).add j) = some u) := ((hoz.rd.grew hA3).first' hm).news'
            rcases Nat.lt_or_ge m cap with hmc | hmc
            · have y5 : ¬ cap = m := by omega
              go_wp2
              go_region_law (first | (refine step_append rfl (.tmp 37) (.tmp 40) 24 rfl wz.heap.size 3 i0 (.int .i64 0) 8 Try.underlying24 hi hz0 hz1 hz2 rfl (.slice (some ⟨wz.heap.size, 0, none⟩) 0 0) 0 [] rfl (own_empty hX1.out (by omega)) ⟨q, 0, none⟩ m cap (vals .i64 m (el S)) rfl (vals_len _ _ _) hN1.out (vals_one _ _ _) (by unfold maxLen; omega) (by omega) hA1.size ?_; intro v4 w4 hown4 hgr4 hnil4; have hv4 : v4 ≠ .slice none 0 0 := fun e => (by have h9 := (hnil4.1 e).1; simp at h9); have hb4 : Below wz.heap.size wz w4 := (hA1.drew).grown hgr4 hA1.size (fun k' hk' => (by simp [Value.ownBlock] at hk'; omega)); simp only [Nat.zero_add, List.nil_append] at hown4; have e4 := (hb4.cell (p := ⟨b, o1 + k, none⟩) (World.block_lt_of_cell? _ _ e1z)).trans e1z; clear hnil4 hgr4) | (refine step_append rfl (.tmp 37) (.tmp 40) 24 rfl wz.heap.size 3 i0 (.int .i64 0) 8 Try.underlying24 hi hz0 hz1 hz2 rfl (.slice (some ⟨wz.heap.size, 0, none⟩) 0 0) 0 [] rfl (own_empty hX2.out (by omega)) ⟨q, 0, none⟩ m cap (vals .i64 m (el S)) rfl (vals_len _ _ _) hN2.out (vals_one _ _ _) (by unfold maxLen; omega) (by omega) hA2.size ?_; intro v4 w4 hown4 hgr4 hnil4; have hv4 : v4 ≠ .slice none 0 0 := fun e => (by have h9 := (hnil4.1 e).1; simp at h9); have hb4 : Below wz.heap.size wz w4 := (hA2.drew).grown hgr4 hA2.size (fun k' hk' => (by simp [Value.ownBlock] at hk'; omega)); simp only [Nat.zero_add, List.nil_append] at hown4; have e4 := (hb4.cell (p := ⟨b, o1 + k, none⟩) (World.block_lt_of_cell? _ _ e1z)).trans e1z; have hn4 : ∀ j u, [Value.int .i64 x][j]? = some u → w4.cell? ((⟨wz.heap.size + 1, 0, none⟩ : Addr).add j) = some u := news_row ((hgr4.block (wz.heap.size + 1) (by simp) (by simp [Value.ownBlock])).trans hY2.out); clear hnil4 hgr4) | (refine step_append rfl (.tmp 37) (.tmp 40) 24 rfl wz.heap.size 3 i0 (.int .i64 0) 8 Try.underlying24 hi hz0 hz1 hz2 rfl (.slice (some ⟨wz.heap.size + 1, 0, none⟩) 0 0) 0 [] rfl (own_empty hX3.out (by omega)) ⟨q, 0, none⟩ m cap (vals .i64 m (el S)) rfl (vals_len _ _ _) hN3.out (vals_one _ _ _) (by unfold maxLen; omega) (by omega) hA3.size ?_; intro v4 w4 hown4 hgr4 hnil4; have hv4 : v4 ≠ .slice none 0 0 := fun e => (by have h9 := (hnil4.1 e).1; simp at h9); have hb4 : Below wz.heap.size wz w4 := (hA3.drew).grown hgr4 hA3.size (fun k' hk' => (by simp [Value.ownBlock] at hk'; omega)); simp only [Nat.zero_add, List.nil_append] at hown4; have e4 := (hb4.cell (p := ⟨b, o1 + k, none⟩) (World.block_lt_of_cell? _ _ e1z)).trans e1z; have hn4 : ∀ j u, [Value.int .i64 x][j]? = some u → w4.cell? ((⟨wz.heap.size, 0, none⟩ : Addr).add j) = some u := news_row ((hgr4.block wz.heap.size (by simp; omega) (by simp [Value.ownBlock])).trans hY3.out); clear hnil4 hgr4) | (refine step_append rfl (.tmp 41) (.tmp 46) 24 rfl wz.heap.size 3 i0 (.int .i64 0) 8 Try.underlying24 hi hz0 hz1 hz2 rfl v4 m (vals .i64 m (el S)) rfl (hown4.alloc _) ⟨w4.heap.size, 0, none⟩ 1 1 [.int .i64 x] rfl rfl (news_row (heap_alloc_new w4 _)) (by intro u hu; simp at hu; subst hu; rfl) (by unfold maxLen; omega) (by omega) (hb4.alloc hb4.size (.cells #[.int .i64 x] 3)).size ?_; intro v5 w5 hown5 hgr5 hnil5; have hv5 : v5 ≠ .slice none 0 0 := fun e => hv4 (hnil5.1 e).1; have hb5 : Below wz.heap.size wz w5 := (hb4.alloc hb4.size (.cells #[.int .i64 x] 3)).grown hgr5 (hb4.alloc hb4.size (.cells #[.int .i64 x] 3)).size (fun k' hk' => (hown4.lt k' hk').1); clear hnil5 hgr5) | (refine step_append rfl (.tmp 41) (.tmp 46) 24 rfl wz.heap.size 3 i0 (.int .i64 0) 8 Try.underlying24 hi hz0 hz1 hz2 rfl v4 m (vals .i64 m (el S)) rfl hown4 ⟨wz.heap.size + 1, 0, none⟩ 1 1 [.int .i64 x] rfl rfl hn4 (by intro u hu; simp at hu; subst hu; rfl) (by unfold maxLen; omega) (by omega) hb4.size ?_; intro v5 w5 hown5 hgr5 hnil5; have hv5 : v5 ≠ .slice none 0 0 := fun e => hv4 (hnil5.1 e).1; have hb5 : Below wz.heap.size wz w5 := hb4.grown hgr5 hb4.size (fun k' hk' => (hown4.lt k' hk').1); clear hnil5 hgr5) | (refine step_append rfl (.tmp 41) (.tmp 46) 24 rfl wz.heap.size 3 i0 (.int .i64 0) 8 Try.underlying24 hi hz0 hz1 hz2 rfl v4 m (vals .i64 m (el S)) rfl hown4 ⟨wz.heap.size, 0, none⟩ 1 1 [.int .i64 x] rfl rfl hn4 (by intro u hu; simp at hu; subst hu; rfl) (by unfold maxLen; omega) (by omega) hb4.size ?_; intro v5 w5 hown5 hgr5 hnil5; have hv5 : v5 ≠ .slice none 0 0 := fun e => hv4 (hnil5.1 e).1; have hb5 : Below wz.heap.size wz w5 := hb4.grown hgr5 hb4.size (fun k' hk' => (hown4.lt k' hk').1); clear hnil5 hgr5) | (refine step_append rfl (.tmp 47) (.tmp 50) 24 rfl wz.heap.size 3 i0 (.int .i64 0) 8 Try.underlying24 hi hz0 hz1 hz2 rfl v5 (m + 1) (vals .i64 m (el S) ++ [.int .i64 x]) rfl hown5 ⟨q, m, none⟩ (N - m) (cap - m) (vals .i64 (N - m) (fun j => el S (m + j))) rfl (vals_len _ _ _) ((hoz.rd.grew hb5).off0 (by omega)).news' (vals_one _ _ _) (by unfold maxLen; omega) (by omega) hb5.size ?_; intro v6 w6 hown6 hgr6 hnil6; have hv6 : v6 ≠ .slice none 0 0 := fun e => hv5 (hnil6.1 e).1; have hb6 : Below wz.heap.size wz w6 := hb5.grown hgr6 hb5.size (fun k' hk' => (hown5.lt k' hk').1); clear hnil6 hgr6))
              all_goals
                have hown7 : w6.ownsRow wz.heap.size 3 1 v6 (N + 1) (vals .i64 (N + 1) (el (S.take m ++ [x] ++ S.drop m))) := by
                  have e9 := vals_three S x m (by rw [← hNS.out]; exact hm)
                  rw [← hNS.out] at e9
                  rw [← e9]
                  have e8 : m + 1 + (N - m) = N + 1 := by omega
                  rw [← e8]
                  exact hown6
                obtain ⟨q6, cap6, rfl, hcp6, ho6⟩ := own_of_cap hown7 hv6
                have hB6 : Below w.heap.size w w6 := below_app (below_app hb hbz hb.size) hb6 (Nat.le_trans hb.size hbz.size)
                have hq6 : w.heap.size ≤ q6 := Nat.le_trans (Nat.le_trans hb.size hbz.size) ho6.1
                have hfin : Hid (S.take m ++ [x] ++ S.drop m = setL (lst (k + 1) f) ∧ N + 1 = (S.take m ++ [x] ++ S.drop m).length) := ⟨by rw [HI.out, HIN.out], by simp; have := hNS.out; omega⟩
                clear hown6 hown7 hv6 hb6 hown5 hv5 hb5 hown4 hv4 hb4 hX1 hX2 hX3 hY2 hY3 hN1 hN2 hN3 hA1 hA2 hA3
                go_wp2
                go_roundw
                case rel => first | exact ⟨k + 1, q6, N + 1, cap6, _, by omega, by go_num, rfl, hcp6, hfin, hB6, ⟨hq6, ho6.2⟩⟩ | ((repeat apply Exists.intro); exact ⟨⟨k + 1, q6, N + 1, cap6, _, by omega, by go_num, rfl, hcp6, hfin, hB6, ⟨hq6, ho6.2⟩⟩, rfl⟩)
                case measure => simp [intOf]; omega
            · obtain rfl : cap = m := by omega
              obtain rfl : N = cap := by omega
              go_wp2
              go_region_law (first | (refine step_append rfl (.tmp 37) (.tmp 40) 24 rfl wz.heap.size 3 i0 (.int .i64 0) 8 Try.underlying24 hi hz0 hz1 hz2 rfl (.slice (some ⟨wz.heap.size, 0, none⟩) 0 0) 0 [] rfl (own_empty hX1.out (by omega)) ⟨q, 0, none⟩ N N (vals .i64 N (el S)) rfl (vals_len _ _ _) hN1.out (vals_one _ _ _) (by unfold maxLen; omega) (by omega) hA1.size ?_; intro v4 w4 hown4 hgr4 hnil4; have hv4 : v4 ≠ .slice none 0 0 := fun e => (by have h9 := (hnil4.1 e).1; simp at h9); have hb4 : Below wz.heap.size wz w4 := (hA1.drew).grown hgr4 hA1.size (fun k' hk' => (by simp [Value.ownBlock] at hk'; omega)); simp only [Nat.zero_add, List.nil_append] at hown4; have e4 := (hb4.cell (p := ⟨b, o1 + k, none⟩) (World.block_lt_of_cell? _ _ e1z)).trans e1z; clear hnil4 hgr4) | (refine step_append rfl (.tmp 37) (.tmp 40) 24 rfl wz.heap.size 3 i0 (.int .i64 0) 8 Try.underlying24 hi hz0 hz1 hz2 rfl (.slice (some ⟨wz.heap.size, 0, none⟩) 0 0) 0 [] rfl (own_empty hX2.out (by omega)) ⟨q, 0, none⟩ N N (vals .i64 N (el S)) rfl (vals_len _ _ _) hN2.out (vals_one _ _ _) (by unfold maxLen; omega) (by omega) hA2.size ?_; intro v4 w4 hown4 hgr4 hnil4; have hv4 : v4 ≠ .slice none 0 0 := fun e => (by have h9 := (hnil4.1 e).1; simp at h9); have hb4 : Below wz.heap.size wz w4 := (hA2.drew).grown hgr4 hA2.size (fun k' hk' => (by simp [Value.ownBlock] at hk'; omega)); simp only [Nat.zero_add, List.nil_append] at hown4; have e4 := (hb4.cell (p := ⟨b, o1 + k, none⟩) (World.block_lt_of_cell? _ _ e1z)).trans e1z; have hn4 : ∀ j u, [Value.int .i64 x][j]? = some u → w4.cell? ((⟨wz.heap.size + 1, 0, none⟩ : Addr).add j) = some u := news_row ((hgr4.block (wz.heap.size + 1) (by simp) (by simp [Value.ownBlock])).trans hY2.out); clear hnil4 hgr4) | (refine step_append rfl (.tmp 37) (.tmp 40) 24 rfl wz.heap.size 3 i0 (.int .i64 0) 8 Try.underlying24 hi hz0 hz1 hz2 rfl (.slice (some ⟨wz.heap.size + 1, 0, none⟩) 0 0) 0 [] rfl (own_empty hX3.out (by omega)) ⟨q, 0, none⟩ N N (vals .i64 N (el S)) rfl (vals_len _ _ _) hN3.out (vals_one _ _ _) (by unfold maxLen; omega) (by omega) hA3.size ?_; intro v4 w4 hown4 hgr4 hnil4; have hv4 : v4 ≠ .slice none 0 0 := fun e => (by have h9 := (hnil4.1 e).1; simp at h9); have hb4 : Below wz.heap.size wz w4 := (hA3.drew).grown hgr4 hA3.size (fun k' hk' => (by simp [Value.ownBlock] at hk'; omega)); simp only [Nat.zero_add, List.nil_append] at hown4; have e4 := (hb4.cell (p := ⟨b, o1 + k, none⟩) (World.block_lt_of_cell? _ _ e1z)).trans e1z; have hn4 : ∀ j u, [Value.int .i64 x][j]? = some u → w4.cell? ((⟨wz.heap.size, 0, none⟩ : Addr).add j) = some u := news_row ((hgr4.block wz.heap.size (by simp; omega) (by simp [Value.ownBlock])).trans hY3.out); clear hnil4 hgr4) | (refine step_append rfl (.tmp 41) (.tmp 46) 24 rfl wz.heap.size 3 i0 (.int .i64 0) 8 Try.underlying24 hi hz0 hz1 hz2 rfl v4 N (vals .i64 N (el S)) rfl (hown4.alloc _) ⟨w4.heap.size, 0, none⟩ 1 1 [.int .i64 x] rfl rfl (news_row (heap_alloc_new w4 _)) (by intro u hu; simp at hu; subst hu; rfl) (by unfold maxLen; omega) (by omega) (hb4.alloc hb4.size (.cells #[.int .i64 x] 3)).size ?_; intro v5 w5 hown5 hgr5 hnil5; have hv5 : v5 ≠ .slice none 0 0 := fun e => hv4 (hnil5.1 e).1; have hb5 : Below wz.heap.size wz w5 := (hb4.alloc hb4.size (.cells #[.int .i64 x] 3)).grown hgr5 (hb4.alloc hb4.size (.cells #[.int .i64 x] 3)).size (fun k' hk' => (hown4.lt k' hk').1); clear hnil5 hgr5) | (refine step_append rfl (.tmp 41) (.tmp 46) 24 rfl wz.heap.size 3 i0 (.int .i64 0) 8 Try.underlying24 hi hz0 hz1 hz2 rfl v4 N (vals .i64 N (el S)) rfl hown4 ⟨wz.heap.size + 1, 0, none⟩ 1 1 [.int .i64 x] rfl rfl hn4 (by intro u hu; simp at hu; subst hu; rfl) (by unfold maxLen; omega) (by omega) hb4.size ?_; intro v5 w5 hown5 hgr5 hnil5; have hv5 : v5 ≠ .slice none 0 0 := fun e => hv4 (hnil5.1 e).1; have hb5 : Below wz.heap.size wz w5 := hb4.grown hgr5 hb4.size (fun k' hk' => (hown4.lt k' hk').1); clear hnil5 hgr5) | (refine step_append rfl (.tmp 41) (.tmp 46) 24 rfl wz.heap.size 3 i0 (.int .i64 0) 8 Try.underlying24 hi hz0 hz1 hz2 rfl v4 N (vals .i64 N (el S)) rfl hown4 ⟨wz.heap.size, 0, none⟩ 1 1 [.int .i64 x] rfl rfl hn4 (by intro u hu; simp at hu; subst hu; rfl) (by unfold maxLen; omega) (by omega) hb4.size ?_; intro v5 w5 hown5 hgr5 hnil5; have hv5 : v5 ≠ .slice none 0 0 := fun e => hv4 (hnil5.1 e).1; have hb5 : Below wz.heap.size wz w5 := hb4.grown hgr5 hb4.size (fun k' hk' => (hown4.lt k' hk').1); clear hnil5 hgr5) | (refine step_append rfl (.tmp 47) (.tmp 50) 24 rfl wz.heap.size 3 i0 (.int .i64 0) 8 Try.underlying24 hi hz0 hz1 hz2 rfl v5 (N + 1) (vals .i64 N (el S) ++ [.int .i64 x]) rfl hown5 ⟨q, 0, none⟩ (0) (0) (vals .i64 (0) (fun j => el S (N + j))) rfl (vals_len _ _ _) (fun j u hu => (by rw [vals_get] at hu; simp at hu)) (vals_one _ _ _) (by unfold maxLen; omega) (by omega) hb5.size ?_; intro v6 w6 hown6 hgr6 hnil6; have hv6 : v6 ≠ .slice none 0 0 := fun e => hv5 (hnil6.1 e).1; have hb6 : Below wz.heap.size wz w6 := hb5.grown hgr6 hb5.size (fun k' hk' => (hown5.lt k' hk').1); clear hnil6 hgr6))
              all_goals
                have hown7 : w6.ownsRow wz.heap.size 3 1 v6 (N + 1) (vals .i64 (N + 1) (el (S.take N ++ [x] ++ S.drop N))) := by
                  have e9 := vals_three S x N (by rw [← hNS.out]; exact hm)
                  rw [← hNS.out, Nat.sub_self] at e9
                  rw [← e9]
                  exact hown6
                obtain ⟨q6, cap6, rfl, hcp6, ho6⟩ := own_of_cap hown7 hv6
                have hB6 : Below w.heap.size w w6 := below_app (below_app hb hbz hb.size) hb6 (Nat.le_trans hb.size hbz.size)
                have hq6 : w.heap.size ≤ q6 := Nat.le_trans (Nat.le_trans hb.size hbz.size) ho6.1
                have hfin : Hid (S.take N ++ [x] ++ S.drop N = setL (lst (k + 1) f) ∧ N + 1 = (S.take N ++ [x] ++ S.drop N).length) := ⟨by rw [HI.out, HIN.out], by simp; have := hNS.out; omega⟩
                clear hown6 hown7 hv6 hb6 hown5 hv5 hb5 hown4 hv4 hb4 hX1 hX2 hX3 hY2 hY3 hN1 hN2 hN3 hA1 hA2 hA3
                go_wp2
                go_roundw
                case rel => first | exact ⟨k + 1, q6, N + 1, cap6, _, by omega, by go_num, rfl, hcp6, hfin, hB6, ⟨hq6, ho6.2⟩⟩ | ((repeat apply Exists.intro); exact ⟨⟨k + 1, q6, N + 1, cap6, _, by omega, by go_num, rfl, hcp6, hfin, hB6, ⟨hq6, ho6.2⟩⟩, rfl⟩)
                case measure => simp [intOf]; omega
    · obtain rfl : k = n := by omega
      have e8 : stN k f = N := by unfold stN; rw [← HS.out.1]; exact HS.out.2.symm
      have e9 : stF k f = el S := by unfold stF; rw [← HS.out.1]
      have hend : ∃ q' cap', Ending.returned (.slice (some ⟨q, 0, none⟩) N cap) = .returned (.slice (some ⟨q', 0, none⟩) (stN k f) cap') ∧ Below w.heap.size w wr ∧ Own .i64 wr w.heap.size q' (some ⟨q', 0, none⟩) (stN k f) (stF k f) := ⟨q, cap, by rw [e8], hb, by rw [e8, e9]; exact ho⟩
      clear e8 e9
      go_wp2
      go_ret
      exact hend
end Go.Proofs.Ytnlnledijpcjpab
