/-
  Structs, and rows of them, held against each other: what '==' answers (run_eq_pc, run_eq_sd, run_eq_row). Written by a script. Chapter 5: two states held against each other: the specification's SameState; the library's Equal at pieces, the program's rowAt, sameSides, SameState. Own work.
-/
import Derived.Test.YtgaodfjmehofgasDoorState4
import Derived.DeepKeys
import Derived.Test.YtgaodfjmehofgasDoorState5
import Derived.Laws.CopyRow
import Derived.Lib.SlBuf
namespace Go.Proofs.YtgaodfjmehofgasDoor
open Go.ChangeShapes Go.WideShapes Go.ChangeAt Go.RowKit
set_option maxRecDepth 100000
set_option linter.unusedVariables false
set_option linter.unusedSimpArgs false
/-- whether two sides are the same -/
def smD (s t : Sd) : Bool := decide (s.li = t.li) && decide (s.po = t.po) && (s.lo == t.lo)
theorem eqFields_step {P : Program} {d : Nat} {xs ys : Array Value} {f : Field} {fs : List Field} {a b : Value} {r r' : Bool} (w : World) (hn : (f.name == "_") = false) (h1 : (part f.type xs f.offset).run P w = .ok a w) (h2 : (part f.type ys f.offset).run P w = .ok b w) (h3 : (Op.equalIn d f.type a b).run P w = .ok r w) (h4 : (Op.eqFields d xs ys fs).run P w = .ok r' w) : (Op.eqFields d xs ys (f :: fs)).run P w = .ok (r && r') w := by
  have hn' : f.name ≠ "_" := by simpa using hn
  simp only [Op.eqFields, hn', ne_eq, not_false_eq_true, if_true, Sem.run_bind, h1, h2, h3, Result.andThen_ok]
  cases r
  · simp
  · simpa using h4
theorem eqFields_nil {P : Program} {d : Nat} {xs ys : Array Value} (w : World) : (Op.eqFields d xs ys []).run P w = .ok true w := by simp [Op.eqFields]
theorem list_of_map {α β : Type} {g : α → β} : ∀ {l : List α} {b : β} {bs : List β}, l.map g = b :: bs → ∃ a l', l = a :: l' ∧ g a = b ∧ l'.map g = bs
  | a :: l, _, _, h => by
    simp only [List.map_cons, List.cons.injEq] at h
    exact ⟨a, l, rfl, h.1, h.2⟩
/-- the cells of a row of three sides -/
def rwC (a b c : Sd) : List Value := sdC a ++ sdC b ++ sdC c
theorem smD_self (s : Sd) : smD s s = true := by unfold smD; simp
theorem smD_eq {s t : Sd} (h : smD s t = true) : s = t := by
  obtain ⟨a, b, c⟩ := s
  obtain ⟨x, y, z⟩ := t
  unfold smD at h
  simp only [Bool.and_eq_true, decide_eq_true_eq, beq_iff_eq] at h
  obtain ⟨⟨rfl, rfl⟩, rfl⟩ := h
  rfl
theorem smP_eq {p q : Pc} (h : smP p q = true) : p = q := by
  unfold smP at h
  simp only [Bool.and_eq_true, decide_eq_true_eq, beq_iff_eq, and_assoc] at h
  obtain ⟨h0, h1, h2, h3, h4, h5, h6, h7, h8, h9, h10, h11, h12⟩ := h
  cases p; cases q
  simp only at h0 h1 h2 h3 h4 h5 h6 h7 h8 h9 h10 h11 h12
  subst h0 h1 h2 h3 h4 h5 h6 h7 h8 h9 h10 h11 h12
  rfl
end Go.Proofs.YtgaodfjmehofgasDoor
namespace Go.Proofs.YtgaodfjmehofgasDoor
open Go.ChangeShapes Go.WideShapes Go.ChangeAt Go.RowKit
set_option maxRecDepth 100000
set_option linter.unusedVariables false
theorem allf_no {n k : Nat} {f : Nat → Bool} (hk : k < n) (h : f k = false) : (List.range n).all f = false := by rw [List.all_eq_false]; exact ⟨k, List.mem_range.2 hk, by simp [h]⟩
theorem allf_yes {n : Nat} {f : Nat → Bool} (h : ∀ k, k < n → f k = true) : (List.range n).all f = true := by rw [List.all_eq_true]; exact fun k hk => h k (List.mem_range.1 hk)
def eqR (n m : Nat) (f g : Nat → Pc) : Bool := decide (n = m) && (List.range n).all (fun i => smP (f i) (g i))
def eqD (n m : Nat) (f g : Nat → Sd) : Bool := decide (n = m) && (List.range n).all (fun i => smD (f i) (g i))
/-- whether two states are the same -/
def smS (s t : Stt) : Bool := decide (s.ac = t.ac) && decide (s.cl = t.cl) && eqD s.sn t.sn s.ss t.ss && eqR s.pn t.pn s.ps t.ps
end Go.Proofs.YtgaodfjmehofgasDoor
