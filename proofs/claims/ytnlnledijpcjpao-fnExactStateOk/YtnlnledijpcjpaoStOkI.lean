/-
  Chapter 5: the program's StateOk, over hasSide (55ce68f and later). Own work.
-/
import Derived.Test.YtnlnledijpcjpaoStOkB
import Derived.Test.YtnlnledijpcjpaoStHas
import Derived.Test.YtnlnledijpcjpaoState7
import Derived.Test.YtnlnledijpcjpaoPieceOkI
namespace Go.Proofs.Ytnlnledijpcjpao
open Go.ChangeShapes Go.WideShapes Go.ChangeAt Go.RowKit
set_option maxRecDepth 100000
set_option linter.unusedVariables false
set_option maxHeartbeats 4000000 in
theorem implStateOk_any (s : Stt) (w : World) (hok : s.ok w) (hn : s.pn ≤ 1048577) (hn2 : s.sn ≤ 1048577) : Calls Try.prog 12 #[(.agg #[.slice s.pa s.pn s.pcap, .slice s.sa s.sn s.scap, .int .i64 s.ac, .int .i64 s.cl])] w fun e w' => e = .returned (.bool (okS s)) ∧ Below w.heap.size w w' := by
  have hb0 := (Below.refl _ w).alloc (Nat.le_refl _) (.cells #[.slice s.pa s.pn s.pcap, .slice s.sa s.sn s.scap, .int .i64 s.ac, .int .i64 s.cl] 31)
  have x1 := boxR_new w 31 #[.slice s.pa s.pn s.pcap, .slice s.sa s.sn s.scap, .int .i64 s.ac, .int .i64 s.cl]
  generalize hW : w.alloc (.cells #[.slice s.pa s.pn s.pcap, .slice s.sa s.sn s.scap, .int .i64 s.ac, .int .i64 s.cl] 31) = W at hb0 x1
  have c0 := x1.cell 0
  have c1 := x1.cell 1
  have c2 := x1.cell 2
  have c3 := x1.cell 3
  simp at c0 c1 c2 c3
  have y2 : (0 : Int) ≤ (s.sn : Int) ∧ (s.sn : Int) ≤ 1048577 := by omega
  obtain ⟨y3, y4⟩ := y2
  cases h0 : decide (s.pn ≤ 8) with
  | false =>
    have HP : Hid (okS s = false) := okS_hd (by unfold hdS; rw [h0]; simp)
    have g0 : decide ((s.pn : Int) ≤ 8) = false := decide_eq_false (by have := of_decide_eq_false h0; omega)
    clear h0
    go_enter Try.func12, Try.ntmps12
    try simp only [List.append_eq, List.cons_append, List.nil_append]
    go_wp2
    go_ret
    exact ⟨ret_bool' HP.out.symm, hb0⟩
  | true =>
  have g0 : (s.pn : Int) ≤ 8 := by have := of_decide_eq_true h0; omega
  cases h1 : ib s.sn 2 3 with
  | false =>
    have HP : Hid (okS s = false) := okS_hd (by unfold hdS; rw [h1]; simp)
    clear h0
    go_enter Try.func12, Try.ntmps12
    try simp only [List.append_eq, List.cons_append, List.nil_append]
    go_wp2_with (go_at_call 37; refine (between_any _ _ _ _).mono ?_; rintro e w' ⟨rfl, hw'⟩; rw [hw']; clear hw' w')
    go_ret
    exact ⟨ret_bool' HP.out.symm, hb0⟩
  | true =>
  cases h2 : ib s.ac 0 (s.sn - 1) with
  | false =>
    have HP : Hid (okS s = false) := okS_hd (by unfold hdS; rw [h2]; simp)
    clear h0
    go_enter Try.func12, Try.ntmps12
    try simp only [List.append_eq, List.cons_append, List.nil_append]
    go_wp2_with first | (go_at_call 37; refine (between_any _ _ _ _).mono ?_; rintro e w' ⟨rfl, hw'⟩; rw [hw']; clear hw' w') | (go_at_call 38; refine (hasSide_any s s.ac _ hn2).mono ?_; rw [h2]; rintro e w1 ⟨rfl, hb1⟩)
    go_ret
    exact ⟨ret_bool' HP.out.symm, below_app hb0 hb1 hb0.size⟩
  | true =>
  cases h3 : ib s.cl 0 9999 with
  | false =>
    have HP : Hid (okS s = false) := okS_hd (by unfold hdS; rw [h3]; simp)
    clear h0
    go_enter Try.func12, Try.ntmps12
    try simp only [List.append_eq, List.cons_append, List.nil_append]
    go_wp2_with first | (go_at_call 37; refine (between_any _ _ _ _).mono ?_; rintro e w' ⟨rfl, hw'⟩; rw [hw']; clear hw' w') | (go_at_call 38; refine (hasSide_any s s.ac _ hn2).mono ?_; rw [h2]; rintro e w1 ⟨rfl, hb1⟩; have x2 := x1.grew hb1; have d0 := x2.cell 0; have d1 := x2.cell 1; have d2 := x2.cell 2; have d3 := x2.cell 3; simp at d0 d1 d2 d3; clear c0 c1 c2 c3 hW)
    go_ret
    exact ⟨ret_bool' HP.out.symm, below_app hb0 hb1 hb0.size⟩
  | true =>
  have HH : Hid (hdS s = true) := by show hdS s = true; unfold hdS; rw [h0, h1, h2, h3]; rfl
  have HS2 : Hid (∀ u, Below W.heap.size W u → Calls Try.prog 39 #[.slice s.sa s.sn s.scap] u fun e w' => e = .returned (.bool (ssS s)) ∧ Below u.heap.size u w') := fun u hu => sidesOk_any s.sa s.sb s.sn s.scap s.ss u (by omega) (hok.2.2.2.2.2.1.grew sdC_ne (below_app hb0 hu hb0.size))
  have HP2 : Hid (∀ u, Below W.heap.size W u → Calls Try.prog 40 #[(.agg #[.slice s.pa s.pn s.pcap, .slice s.sa s.sn s.scap, .int .i64 s.ac, .int .i64 s.cl])] u fun e w' => e = .returned (.bool (psS s)) ∧ Below u.heap.size u w') := fun u hu => piecesOk_any s u (ok_grew hok (below_app hb0 hu hb0.size)) hn
  clear h0
  cases h4 : ssS s with
  | false =>
    have HP : Hid (okS s = false) := okS_ss h4
    go_enter Try.func12, Try.ntmps12
    try simp only [List.append_eq, List.cons_append, List.nil_append]
    go_wp2_with first | (go_at_call 37; refine (between_any _ _ _ _).mono ?_; rintro e w' ⟨rfl, hw'⟩; rw [hw']; clear hw' w') | (go_at_call 38; refine (hasSide_any s s.ac _ hn2).mono ?_; rw [h2]; rintro e w1 ⟨rfl, hb1⟩; have x2 := x1.grew hb1; have d0 := x2.cell 0; have d1 := x2.cell 1; have d2 := x2.cell 2; have d3 := x2.cell 3; simp at d0 d1 d2 d3; clear c0 c1 c2 c3 hW) | (go_at_call 39; refine (HS2.out w1 hb1).mono ?_; rw [h4]; rintro e w2 ⟨rfl, hb2⟩)
    go_ret
    exact ⟨ret_bool' HP.out.symm, below_app hb0 (below_app hb1 hb2 hb1.size) hb0.size⟩
  | true =>
    have HP : Hid (okS s = psS s) := by show okS s = psS s; unfold okS; rw [HH.out, h4]; simp
    go_enter Try.func12, Try.ntmps12
    try simp only [List.append_eq, List.cons_append, List.nil_append]
    go_wp2_with first | (go_at_call 37; refine (between_any _ _ _ _).mono ?_; rintro e w' ⟨rfl, hw'⟩; rw [hw']; clear hw' w') | (go_at_call 38; refine (hasSide_any s s.ac _ hn2).mono ?_; rw [h2]; rintro e w1 ⟨rfl, hb1⟩; have x2 := x1.grew hb1; have d0 := x2.cell 0; have d1 := x2.cell 1; have d2 := x2.cell 2; have d3 := x2.cell 3; simp at d0 d1 d2 d3; clear c0 c1 c2 c3 hW) | (go_at_call 39; refine (HS2.out w1 hb1).mono ?_; rw [h4]; rintro e w2 ⟨rfl, hb2⟩; have x3 := x2.grew hb2; have e0 := x3.cell 0; have e1 := x3.cell 1; have e2 := x3.cell 2; have e3 := x3.cell 3; simp at e0 e1 e2 e3; clear d0 d1 d2 d3) | (go_at_call 40; refine (HP2.out w2 (below_app hb1 hb2 hb1.size)).mono ?_; rintro e w3 ⟨rfl, hb3⟩)
    go_ret
    exact ⟨ret_bool' HP.out.symm, below_app hb0 (below_app hb1 (below_app hb2 hb3 hb2.size) hb1.size) hb0.size⟩
end Go.Proofs.Ytnlnledijpcjpao
