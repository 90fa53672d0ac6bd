/-
  eqState; the specification's l5Side, StateOk. Written by tools/state6.gen.py. Own work.
-/
import Derived.Test.YtnlnledijpcjpabState5
import Derived.Test.YtnlnledijpcjpabPieceOk
namespace Go.Proofs.Ytnlnledijpcjpab
open Go.ChangeShapes Go.WideShapes Go.ChangeAt Go.RowKit
set_option maxRecDepth 100000
set_option linter.unusedVariables false
def okSd (s : Sd) : Bool := ib s.li (-2147483647) 2147483647 && ib s.po 0 2147483647
set_option maxHeartbeats 1000000 in
theorem l5Side_any (s : Sd) (w : World) : Calls Try.prog 102 #[.agg #[.int .i64 s.li, .int .i64 s.po, .bool s.lo]] w fun e w' => e = .returned (.bool (okSd s)) ∧ Below w.heap.size w w' := by
  cases h : ib s.li (-2147483647) 2147483647
  · have HS : Hid (okSd s = false) := by show okSd s = false; unfold okSd; rw [h]; rfl
    go_enter Try.func102, Try.ntmps102
    go_wp2_with (go_at_call 83; refine (l1In_any _ _ _ _).mono ?_; rintro e w' ⟨rfl, rfl⟩)
    go_ret
    exact ⟨ret_bool' HS.out.symm, (Below.refl _ w).alloc (Nat.le_refl _) _⟩
  · have HS : Hid (okSd s = ib s.po 0 2147483647) := by show okSd s = _; unfold okSd; rw [h]; rfl
    go_enter Try.func102, Try.ntmps102
    go_wp2_with (go_at_call 83; refine (l1In_any _ _ _ _).mono ?_; rintro e w' ⟨rfl, rfl⟩)
    go_ret
    exact ⟨ret_bool' HS.out.symm, (Below.refl _ w).alloc (Nat.le_refl _) _⟩
/-- whether the piece at place i is as chapter 5 wants it -/
def pAt (s : Stt) (i : Nat) : Bool := okP (s.ps i) && (decide (i = 0) || decide ((s.ps (i - 1)).id < (s.ps i).id)) && decide ((s.ps i).ow < s.sn) && decide ((s.ps i).si < s.sn) && decide ((s.ps i).st ≤ s.cl)
def hdS (s : Stt) : Bool := decide (s.pn ≤ 8) && ib s.sn 2 3 && ib s.ac 0 (s.sn - 1) && ib s.cl 0 9999
def psS (s : Stt) : Bool := (List.range s.pn).all (pAt s)
def ssS (s : Stt) : Bool := (List.range s.sn).all (fun i => okSd (s.ss i))
/-- whether a state is as chapter 5 wants it -/
def okS (s : Stt) : Bool := hdS s && psS s && ssS s
theorem all_no {n k : Nat} {f : Nat → Bool} (hk : k < n) (h : f k = false) : (List.range n).all f = false := by rw [List.all_eq_false]; exact ⟨k, List.mem_range.2 hk, by simp [h]⟩
theorem all_yes {n : Nat} {f : Nat → Bool} (h : ∀ k, k < n → f k = true) : (List.range n).all f = true := by rw [List.all_eq_true]; exact fun k hk => h k (List.mem_range.1 hk)

theorem okS_hd {s : Stt} (h : hdS s = false) : okS s = false := by unfold okS; rw [h]; rfl
set_option maxHeartbeats 2000000 in
theorem sok_0 (s : Stt) (w : World) (hn : s.sn ≤ 1048576) (h0 : decide (s.pn ≤ 8) = false) : Calls Try.prog 51 #[(.agg #[.slice s.pa s.pn s.pcap, .slice s.sa s.sn s.scap, .int .i64 s.ac, .int .i64 s.cl])] w fun e w' => e = .returned (.bool (okS s)) ∧ Below w.heap.size w w' := by
  have HP : Hid (okS s = false) := okS_hd (by unfold hdS; rw [h0]; simp)
  have g0 : (8 : Int) < (s.pn : Int) := by have := of_decide_eq_false h0; omega
  clear h0
  go_enter Try.func51, Try.ntmps51
  try simp only [List.append_eq, List.cons_append, List.nil_append]
  go_wp2_with (go_at_call 83; refine (l1In_any _ _ _ _).mono ?_; rintro e w' ⟨rfl, rfl⟩)
  go_ret
  exact ⟨ret_bool' HP.out.symm, (Below.refl _ w).alloc (Nat.le_refl _) _⟩
set_option maxHeartbeats 2000000 in
theorem sok_1 (s : Stt) (w : World) (hn : s.sn ≤ 1048576) (h0 : decide (s.pn ≤ 8) = true) (h1 : ib s.sn 2 3 = false) : Calls Try.prog 51 #[(.agg #[.slice s.pa s.pn s.pcap, .slice s.sa s.sn s.scap, .int .i64 s.ac, .int .i64 s.cl])] w fun e w' => e = .returned (.bool (okS s)) ∧ Below w.heap.size w w' := by
  have HP : Hid (okS s = false) := okS_hd (by unfold hdS; rw [h1]; simp)
  have g0 : decide ((8 : Int) < (s.pn : Int)) = false := decide_eq_false (by have := of_decide_eq_true h0; omega)
  clear h0
  go_enter Try.func51, Try.ntmps51
  try simp only [List.append_eq, List.cons_append, List.nil_append]
  go_wp2_with (go_at_call 83; refine (l1In_any _ _ _ _).mono ?_; rintro e w' ⟨rfl, rfl⟩)
  go_ret
  exact ⟨ret_bool' HP.out.symm, (Below.refl _ w).alloc (Nat.le_refl _) _⟩
set_option maxHeartbeats 2000000 in
theorem sok_2 (s : Stt) (w : World) (hn : s.sn ≤ 1048576) (h0 : decide (s.pn ≤ 8) = true) (h1 : ib s.sn 2 3 = true) (h2 : ib s.ac 0 (s.sn - 1) = false) : Calls Try.prog 51 #[(.agg #[.slice s.pa s.pn s.pcap, .slice s.sa s.sn s.scap, .int .i64 s.ac, .int .i64 s.cl])] w fun e w' => e = .returned (.bool (okS s)) ∧ Below w.heap.size w w' := by
  have HP : Hid (okS s = false) := okS_hd (by unfold hdS; rw [h2]; simp)
  have g0 : decide ((8 : Int) < (s.pn : Int)) = false := decide_eq_false (by have := of_decide_eq_true h0; omega)
  clear h0
  go_enter Try.func51, Try.ntmps51
  try simp only [List.append_eq, List.cons_append, List.nil_append]
  go_wp2_with (go_at_call 83; refine (l1In_any _ _ _ _).mono ?_; rintro e w' ⟨rfl, rfl⟩)
  go_ret
  exact ⟨ret_bool' HP.out.symm, (Below.refl _ w).alloc (Nat.le_refl _) _⟩
set_option maxHeartbeats 2000000 in
theorem sok_3 (s : Stt) (w : World) (hn : s.sn ≤ 1048576) (h0 : decide (s.pn ≤ 8) = true) (h1 : ib s.sn 2 3 = true) (h2 : ib s.ac 0 (s.sn - 1) = true) (h3 : ib s.cl 0 9999 = false) : Calls Try.prog 51 #[(.agg #[.slice s.pa s.pn s.pcap, .slice s.sa s.sn s.scap, .int .i64 s.ac, .int .i64 s.cl])] w fun e w' => e = .returned (.bool (okS s)) ∧ Below w.heap.size w w' := by
  have HP : Hid (okS s = false) := okS_hd (by unfold hdS; rw [h3]; simp)
  have g0 : decide ((8 : Int) < (s.pn : Int)) = false := decide_eq_false (by have := of_decide_eq_true h0; omega)
  clear h0
  go_enter Try.func51, Try.ntmps51
  try simp only [List.append_eq, List.cons_append, List.nil_append]
  go_wp2_with (go_at_call 83; refine (l1In_any _ _ _ _).mono ?_; rintro e w' ⟨rfl, rfl⟩)
  go_ret
  exact ⟨ret_bool' HP.out.symm, (Below.refl _ w).alloc (Nat.le_refl _) _⟩
end Go.Proofs.Ytnlnledijpcjpab
