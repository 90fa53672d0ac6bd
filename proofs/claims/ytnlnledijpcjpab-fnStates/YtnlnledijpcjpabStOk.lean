/-
  Chapter 5: the program's sidesOk, belongs, piecesOk, StateOk. Chapter 5: the program's sidesOk, belongs, piecesOk, StateOk. Chapter 5, the program: hasSide. Written by tools/guf.gen.py. Chapter 5: the program's StateOk, over hasSide (55ce68f and later). Own work.
-/
import Derived.Test.YtnlnledijpcjpabStAt
import Derived.Test.YtnlnledijpcjpabState7
import Derived.Test.YtnlnledijpcjpabPieceOkI
import Derived.Test.YtnlnledijpcjpabState5
import Derived.Test.YtnlnledijpcjpabPcI
namespace Go.Proofs.Ytnlnledijpcjpab
open Go.ChangeShapes Go.WideShapes Go.ChangeAt Go.RowKit
set_option maxRecDepth 100000
set_option linter.unusedVariables false
set_option maxHeartbeats 2000000 in
theorem sidesOk_any (a : Option Addr) (b n c : Nat) (f : Nat → Sd) (w : World) (hn : n ≤ 9223372036854775807) (h : RdE sdC 3 w b a n f) :
    Calls Try.prog 100 #[.slice a n c] w fun e w' => e = .returned (.bool ((List.range n).all (fun i => okSd (f i)))) ∧ Below w.heap.size w w' := by
  go_enter Try.func100, Try.ntmps100
  go_wp2
  go_loopw [7] (fun i wr => ∃ k : Nat, k ≤ n ∧ i = .int .i64 k ∧ Below w.heap.size w wr ∧ Hid (∀ j, j < k → okSd (f j) = true)) (fun i _ => n - (intOf i).toNat)
  case atStart => exact ⟨0, Nat.zero_le _, rfl, Below.refl _ _, fun j hj => by omega⟩
  case round =>
    obtain ⟨k, hk, rfl, hb, hall⟩ := hrel
    by_cases hlt : k < n
    · rcases h.grew sdC_ne hb with g1 | ⟨o1, rfl, g1⟩
      · omega
      obtain ⟨k0, k1, k2⟩ : At3 wr b (o1 + k * 3) (f k) := At3_of (g1 k hlt)
      have y1 : (0 : Int) ≤ (k : Int) := by omega
      have y2 : (k : Int) < (n : Int) := by omega
      have bV := boxR_new wr 68 #[.int .i64 (f k).li, .int .i64 (f k).po, .bool (f k).lo]
      have hbV := below_new2' wr (.cells #[.int .i64 (f k).li, .int .i64 (f k).po, .bool (f k).lo] 68)
      generalize hV : wr.alloc (.cells #[.int .i64 (f k).li, .int .i64 (f k).po, .bool (f k).lo] 68) = V at bV hbV
      clear g1
      have m0 : _ = some (Value.int .i64 (f k).li) := bV.cell 0
      have m1 : _ = some (Value.int .i64 (f k).po) := bV.cell 1
      have hB := below_app hb hbV hb.size
      clear hb hbV bV
      cases h1 : ib (f k).li (-2147483647) 2147483647 with
      | false =>
        have HN : Hid ((List.range n).all (fun i => okSd (f i)) = false) := all_no hlt (by unfold okSd; rw [h1]; rfl)
        go_wp2_with (go_at_call 81; refine (between_any _ _ _ _).mono ?_; rintro e w' ⟨rfl, hw'⟩; rw [hw']; clear hw' w')
        go_ret
        exact ⟨ret_bool' HN.out.symm, hB⟩
      | true =>
      cases h2 : ib (f k).po 0 2147483647 with
      | false =>
        have HN : Hid ((List.range n).all (fun i => okSd (f i)) = false) := all_no hlt (by unfold okSd; rw [h1, h2]; rfl)
        go_wp2_with (go_at_call 81; refine (between_any _ _ _ _).mono ?_; rintro e w' ⟨rfl, hw'⟩; rw [hw']; clear hw' w')
        go_ret
        exact ⟨ret_bool' HN.out.symm, hB⟩
      | true =>
        have HA : Hid (∀ j, j < k + 1 → okSd (f j) = true) := fun j hj => by
          by_cases e : j = k
          · subst e; unfold okSd; rw [h1, h2]; rfl
          · exact hall.out j (by omega)
        clear hall
        go_wp2_with (go_at_call 81; refine (between_any _ _ _ _).mono ?_; rintro e w' ⟨rfl, hw'⟩; rw [hw']; clear hw' w')
        go_roundw
        case rel => first | exact ⟨k + 1, by omega, by go_num, hB, HA⟩ | ((repeat apply Exists.intro); exact ⟨⟨k + 1, by omega, by go_num, hB, HA⟩, rfl⟩)
        case measure => simp [intOf]; omega
    · obtain rfl : k = n := by omega
      have HN : Hid ((List.range k).all (fun i => okSd (f i)) = true) := all_yes hall.out
      clear hall
      go_wp2
      go_ret
      exact ⟨ret_bool' HN.out.symm, hb⟩
theorem ok_grew {s : Stt} {w w' : World} (h : s.ok w) (hb : Below w.heap.size w w') : s.ok w' := ⟨h.1, h.2.1, h.2.2.1.grew pcC_ne hb, h.2.2.2.1, h.2.2.2.2.1, h.2.2.2.2.2.1.grew sdC_ne hb, h.2.2.2.2.2.2⟩
/-- whether a piece belongs to a state -/
def blg (s : Stt) (p : Pc) : Bool := decide (p.ow < s.sn) && decide (p.si < s.sn) && decide (p.st ≤ s.cl)
set_option maxHeartbeats 1000000 in
theorem belongs_any (s : Stt) (p : Pc) (w : World) : Calls Try.prog 135 #[(.agg #[.slice s.pa s.pn s.pcap, .slice s.sa s.sn s.scap, .int .i64 s.ac, .int .i64 s.cl]), (.agg #[.int .i64 p.id, .int .i64 p.ow, .int .i64 p.si, .int .i64 p.zo, .int .i64 p.st, .int .i64 p.po, .int .i64 p.to, .int .i64 p.tr, .int .i64 p.pl, .int .i64 p.mi, .int .i64 p.ma, .bool p.de, .bool p.be])] w fun e w' => e = .returned (.bool (blg s p)) ∧ Below w.heap.size w w' := by
  have hb0 := ((Below.refl _ w).alloc (Nat.le_refl _) (.cells #[.slice s.pa s.pn s.pcap, .slice s.sa s.sn s.scap, .int .i64 s.ac, .int .i64 s.cl] 56)).alloc (by simp) (.cells #[.int .i64 p.id, .int .i64 p.ow, .int .i64 p.si, .int .i64 p.zo, .int .i64 p.st, .int .i64 p.po, .int .i64 p.to, .int .i64 p.tr, .int .i64 p.pl, .int .i64 p.mi, .int .i64 p.ma, .bool p.de, .bool p.be] 31)
  by_cases h1 : p.ow < (s.sn : Int)
  · by_cases h2 : p.si < (s.sn : Int)
    · have HS : Hid (blg s p = decide (p.st ≤ s.cl)) := by show _ = _; unfold blg; rw [decide_eq_true h1, decide_eq_true h2]; rfl
      go_enter Try.func135, Try.ntmps135
      go_wp2
      go_ret
      exact ⟨ret_bool' HS.out.symm, hb0⟩
    · have HS : Hid (blg s p = false) := by show _ = _; unfold blg; rw [decide_eq_false h2]; simp
      have h2' : decide (p.si < (s.sn : Int)) = false := decide_eq_false h2
      go_enter Try.func135, Try.ntmps135
      go_wp2
      go_ret
      exact ⟨ret_bool' HS.out.symm, hb0⟩
  · have HS : Hid (blg s p = false) := by show _ = _; unfold blg; rw [decide_eq_false h1]; simp
    have h1' : decide (p.ow < (s.sn : Int)) = false := decide_eq_false h1
    go_enter Try.func135, Try.ntmps135
    go_wp2
    go_ret
    exact ⟨ret_bool' HS.out.symm, hb0⟩
end Go.Proofs.Ytnlnledijpcjpab
namespace Go.Proofs.Ytnlnledijpcjpab
open Go.ChangeShapes Go.WideShapes Go.ChangeAt Go.RowKit
set_option maxRecDepth 100000
set_option linter.unusedVariables false
/-- the number of the piece ahead -/
def ahd (s : Stt) (k : Nat) : Int := if k = 0 then 0 else (s.ps (k - 1)).id
theorem okP_id {p : Pc} (h : okP p = true) : 1 ≤ p.id := by
  unfold okP okA ib at h
  simp only [Bool.and_eq_true, decide_eq_true_eq] at h
  omega
theorem pAt_eq (s : Stt) (k : Nat) : pAt s k = (okP (s.ps k) && decide (ahd s k < (s.ps k).id) && blg s (s.ps k)) := by
  cases hp : okP (s.ps k) with
  | false => unfold pAt; rw [hp]; rfl
  | true =>
    have h1 := okP_id hp
    unfold pAt ahd blg
    rw [hp]
    by_cases hk : k = 0
    · subst hk
      simp [show (0 : Int) < (s.ps 0).id by omega, Bool.and_assoc]
    · simp [hk, Bool.and_assoc]
set_option maxHeartbeats 1000000 in
theorem piecesOk_any (s : Stt) (w : World) (hok : s.ok w) (hn : s.pn ≤ 1048577) : Calls Try.prog 101 #[(.agg #[.slice s.pa s.pn s.pcap, .slice s.sa s.sn s.scap, .int .i64 s.ac, .int .i64 s.cl])] w fun e w' => e = .returned (.bool (psS s)) ∧ Below w.heap.size w w' := by
  obtain ⟨_, _, r1, _⟩ := hok
  have hb0 := (Below.refl _ w).alloc (Nat.le_refl _) (.cells #[.slice s.pa s.pn s.pcap, .slice s.sa s.sn s.scap, .int .i64 s.ac, .int .i64 s.cl] 56)
  have x1 := boxR_new w 56 #[.slice s.pa s.pn s.pcap, .slice s.sa s.sn s.scap, .int .i64 s.ac, .int .i64 s.cl]
  generalize hW : w.alloc (.cells #[.slice s.pa s.pn s.pcap, .slice s.sa s.sn s.scap, .int .i64 s.ac, .int .i64 s.cl] 56) = W at hb0 x1
  have c0 := x1.cell 0
  simp at c0
  go_enter Try.func101, Try.ntmps101
  go_wp2
  clear hW c0
  go_loopw [3, 9] (fun z i wr => ∃ k : Nat, k ≤ s.pn ∧ i = .int .i64 k ∧ z = .int .i64 (ahd s k) ∧ Below W.heap.size W wr ∧ Hid (∀ j, j < k → pAt s j = true)) (fun _ i _ => s.pn - (intOf i).toNat)
  case atStart => exact ⟨0, Nat.zero_le _, rfl, rfl, Below.refl _ _, fun j hj => by omega⟩
  case round =>
    obtain ⟨k, hk, rfl, rfl, hb, hall⟩ := hrel
    have hB0 := below_app hb0 hb hb0.size
    by_cases hlt : k < s.pn
    · rcases r1.grew pcC_ne hB0 with g1 | ⟨o1, hpa, g1⟩
      · omega
      rw [hpa]
      obtain ⟨k0, k1, k2, k3, k4, k5, k6, k7, k8, k9, k10, k11, k12⟩ : At13 wr s.pb (o1 + k * 13) (s.ps k) := At13_of (g1 k hlt)
      have y1 : (0 : Int) ≤ (k : Int) := by omega
      have y2 : (k : Int) < (s.pn : Int) := by omega
      have bV := box_new wr 31 (s.ps k)
      have hbV := below_new2' wr (.cells #[.int .i64 (s.ps k).id, .int .i64 (s.ps k).ow, .int .i64 (s.ps k).si, .int .i64 (s.ps k).zo, .int .i64 (s.ps k).st, .int .i64 (s.ps k).po, .int .i64 (s.ps k).to, .int .i64 (s.ps k).tr, .int .i64 (s.ps k).pl, .int .i64 (s.ps k).mi, .int .i64 (s.ps k).ma, .bool (s.ps k).de, .bool (s.ps k).be] 31)
      generalize hV : wr.alloc (.cells #[.int .i64 (s.ps k).id, .int .i64 (s.ps k).ow, .int .i64 (s.ps k).si, .int .i64 (s.ps k).zo, .int .i64 (s.ps k).st, .int .i64 (s.ps k).po, .int .i64 (s.ps k).to, .int .i64 (s.ps k).tr, .int .i64 (s.ps k).pl, .int .i64 (s.ps k).mi, .int .i64 (s.ps k).ma, .bool (s.ps k).de, .bool (s.ps k).be] 31) = V at bV hbV
      have HP : Hid (pAt s k = (okP (s.ps k) && decide (ahd s k < (s.ps k).id) && blg s (s.ps k))) := pAt_eq s k
      have HX : Hid (ahd s (k + 1) = (s.ps k).id) := by show _ = _; unfold ahd; simp
      obtain ⟨z, hz⟩ : ∃ z, ahd s k = z := ⟨_, rfl⟩
      rw [hz] at HP ⊢
      clear g1 hz
      obtain ⟨m0, m1, m2, m3, m4, m5, m6, m7, m8, m9, m10, m11, m12⟩ : Cells13 _ _ _ := bV.cells
      have hBV := below_app hb hbV hb.size
      have x3 := (x1.grew hb).grew hbV
      clear hb hbV
      go_wp2_with fail
      refine (implPieceOk_any (s.ps k) V).mono ?_
      rintro e w1 ⟨rfl, hb1⟩
      have b1 := bV.grew hb1
      have x4 := x3.grew hb1
      have hB1 := below_app hBV hb1 hBV.size
      clear k0 k1 k2 k3 k4 k5 k6 k7 k8 k9 k10 k11 k12 m0 m1 m2 m3 m4 m5 m6 m7 m8 m9 m10 m11 m12 bV x3 hBV hb1 hV
      obtain ⟨k0, k1, k2, k3, k4, k5, k6, k7, k8, k9, k10, k11, k12⟩ : Cells13 _ _ _ := b1.cells
      have c0 := x4.cell 0
      have c1 := x4.cell 1
      have c2 := x4.cell 2
      have c3 := x4.cell 3
      simp at c0 c1 c2 c3
      cases hp : okP (s.ps k) with
      | false =>
        have HN : Hid (psS s = false) := all_no hlt (by rw [HP.out, hp]; rfl)
        clear HP
        go_wp2
        go_ret
        exact ⟨ret_bool' HN.out.symm, below_app hb0 hB1 hb0.size⟩
      | true =>
      by_cases hi : (s.ps k).id ≤ z
      · have HN : Hid (psS s = false) := all_no hlt (by rw [HP.out, decide_eq_false (show ¬ (z < (s.ps k).id) by omega)]; simp)
        clear HP
        go_wp2
        go_ret
        exact ⟨ret_bool' HN.out.symm, below_app hb0 hB1 hb0.size⟩
      have hi' : decide ((s.ps k).id ≤ z) = false := decide_eq_false hi
      have HI0 : z < (s.ps k).id := by omega
      have HI : Hid (z < (s.ps k).id) := HI0
      clear HI0
      clear hi
      cases hg : blg s (s.ps k) with
      | false =>
        have HN : Hid (psS s = false) := all_no hlt (by rw [HP.out, hg]; simp)
        clear HP
        go_wp2_with fail
        refine (belongs_any { s with pa := some ⟨s.pb, o1, none⟩ } (s.ps k) _).mono ?_
        rintro e w2 ⟨rfl, hb2⟩
        rw [show blg { s with pa := some ⟨s.pb, o1, none⟩ } (s.ps k) = blg s (s.ps k) from rfl, hg]
        have hB2 := below_app hB1 hb2 hB1.size
        go_wp2
        go_ret
        exact ⟨ret_bool' HN.out.symm, below_app hb0 hB2 hb0.size⟩
      | true =>
        have HA : Hid (∀ j, j < k + 1 → pAt s j = true) := fun j hj => by
          by_cases e : j = k
          · subst e; rw [HP.out, hp, hg, decide_eq_true HI.out]; rfl
          · exact hall.out j (by omega)
        clear hall HP HI
        go_wp2_with fail
        refine (belongs_any { s with pa := some ⟨s.pb, o1, none⟩ } (s.ps k) _).mono ?_
        rintro e w2 ⟨rfl, hb2⟩
        rw [show blg { s with pa := some ⟨s.pb, o1, none⟩ } (s.ps k) = blg s (s.ps k) from rfl, hg]
        have b2 := b1.grew hb2
        have hB2 := below_app hB1 hb2 hB1.size
        clear k0 k1 k2 k3 k4 k5 k6 k7 k8 k9 k10 k11 k12 c0 c1 c2 c3 x4
        obtain ⟨k0, k1, k2, k3, k4, k5, k6, k7, k8, k9, k10, k11, k12⟩ : Cells13 _ _ _ := b2.cells
        go_wp2
        go_roundw
        case rel => first | exact ⟨k + 1, by omega, by go_num, by rw [HX.out], hB2, HA⟩ | ((repeat apply Exists.intro); exact ⟨⟨k + 1, by omega, by go_num, by rw [HX.out], hB2, HA⟩, rfl⟩)
        case measure => simp [intOf]; omega
    · obtain rfl : k = s.pn := by omega
      have HN : Hid (psS s = true) := all_yes hall.out
      clear hall
      go_wp2
      go_ret
      exact ⟨ret_bool' HN.out.symm, hB0⟩
end Go.Proofs.Ytnlnledijpcjpab
namespace Go.Proofs.Ytnlnledijpcjpab
open Go.ChangeShapes Go.WideShapes Go.ChangeAt Go.RowKit
set_option maxRecDepth 100000
set_option linter.unusedVariables false
set_option linter.unusedSimpArgs false

theorem hasSide_any (s : Stt) (side : Int) (w : World) (hn2 : s.sn ≤ 1048577) : Calls Try.prog 99 #[(.agg #[.slice s.pa s.pn s.pcap, .slice s.sa s.sn s.scap, .int .i64 s.ac, .int .i64 s.cl]), .int .i64 side] w fun e w' => e = .returned (.bool (ib side 0 ((s.sn : Int) - 1))) ∧ Below w.heap.size w w' := by
  have hb0 := (Below.refl _ w).alloc (Nat.le_refl _) (.cells #[.slice s.pa s.pn s.pcap, .slice s.sa s.sn s.scap, .int .i64 s.ac, .int .i64 s.cl] 56)
  have x1 := boxR_new w 56 #[.slice s.pa s.pn s.pcap, .slice s.sa s.sn s.scap, .int .i64 s.ac, .int .i64 s.cl]
  generalize hW : w.alloc (.cells #[.slice s.pa s.pn s.pcap, .slice s.sa s.sn s.scap, .int .i64 s.ac, .int .i64 s.cl] 56) = W at hb0 x1
  have c1 := x1.cell 1
  simp at c1
  go_enter Try.func99, Try.ntmps99
  go_wp2_with fail
  refine (between_any _ _ _ _).mono ?_
  rintro e v ⟨rfl, rfl⟩
  go_wp2
  go_ret
  exact ⟨rfl, hb0⟩
end Go.Proofs.Ytnlnledijpcjpab
namespace Go.Proofs.Ytnlnledijpcjpab
open Go.ChangeShapes Go.WideShapes Go.ChangeAt Go.RowKit
set_option maxRecDepth 100000
set_option linter.unusedVariables false
set_option maxHeartbeats 4000000 in
theorem implStateOk_any (s : Stt) (w : World) (hok : s.ok w) (hn : s.pn ≤ 1048577) (hn2 : s.sn ≤ 1048577) : Calls Try.prog 50 #[(.agg #[.slice s.pa s.pn s.pcap, .slice s.sa s.sn s.scap, .int .i64 s.ac, .int .i64 s.cl])] w fun e w' => e = .returned (.bool (okS s)) ∧ Below w.heap.size w w' := by
  have hb0 := (Below.refl _ w).alloc (Nat.le_refl _) (.cells #[.slice s.pa s.pn s.pcap, .slice s.sa s.sn s.scap, .int .i64 s.ac, .int .i64 s.cl] 56)
  have x1 := boxR_new w 56 #[.slice s.pa s.pn s.pcap, .slice s.sa s.sn s.scap, .int .i64 s.ac, .int .i64 s.cl]
  generalize hW : w.alloc (.cells #[.slice s.pa s.pn s.pcap, .slice s.sa s.sn s.scap, .int .i64 s.ac, .int .i64 s.cl] 56) = W at hb0 x1
  have c0 := x1.cell 0
  have c1 := x1.cell 1
  have c2 := x1.cell 2
  have c3 := x1.cell 3
  simp at c0 c1 c2 c3
  have y2 : (0 : Int) ≤ (s.sn : Int) ∧ (s.sn : Int) ≤ 1048577 := by omega
  obtain ⟨y3, y4⟩ := y2
  cases h0 : decide (s.pn ≤ 8) with
  | false =>
    have HP : Hid (okS s = false) := okS_hd (by unfold hdS; rw [h0]; simp)
    have g0 : decide ((s.pn : Int) ≤ 8) = false := decide_eq_false (by have := of_decide_eq_false h0; omega)
    clear h0
    go_enter Try.func50, Try.ntmps50
    try simp only [List.append_eq, List.cons_append, List.nil_append]
    go_wp2
    go_ret
    exact ⟨ret_bool' HP.out.symm, hb0⟩
  | true =>
  have g0 : (s.pn : Int) ≤ 8 := by have := of_decide_eq_true h0; omega
  cases h1 : ib s.sn 2 3 with
  | false =>
    have HP : Hid (okS s = false) := okS_hd (by unfold hdS; rw [h1]; simp)
    clear h0
    go_enter Try.func50, Try.ntmps50
    try simp only [List.append_eq, List.cons_append, List.nil_append]
    go_wp2_with (go_at_call 81; refine (between_any _ _ _ _).mono ?_; rintro e w' ⟨rfl, hw'⟩; rw [hw']; clear hw' w')
    go_ret
    exact ⟨ret_bool' HP.out.symm, hb0⟩
  | true =>
  cases h2 : ib s.ac 0 (s.sn - 1) with
  | false =>
    have HP : Hid (okS s = false) := okS_hd (by unfold hdS; rw [h2]; simp)
    clear h0
    go_enter Try.func50, Try.ntmps50
    try simp only [List.append_eq, List.cons_append, List.nil_append]
    go_wp2_with first | (go_at_call 81; refine (between_any _ _ _ _).mono ?_; rintro e w' ⟨rfl, hw'⟩; rw [hw']; clear hw' w') | (go_at_call 99; refine (hasSide_any s s.ac _ hn2).mono ?_; rw [h2]; rintro e w1 ⟨rfl, hb1⟩)
    go_ret
    exact ⟨ret_bool' HP.out.symm, below_app hb0 hb1 hb0.size⟩
  | true =>
  cases h3 : ib s.cl 0 9999 with
  | false =>
    have HP : Hid (okS s = false) := okS_hd (by unfold hdS; rw [h3]; simp)
    clear h0
    go_enter Try.func50, Try.ntmps50
    try simp only [List.append_eq, List.cons_append, List.nil_append]
    go_wp2_with first | (go_at_call 81; refine (between_any _ _ _ _).mono ?_; rintro e w' ⟨rfl, hw'⟩; rw [hw']; clear hw' w') | (go_at_call 99; refine (hasSide_any s s.ac _ hn2).mono ?_; rw [h2]; rintro e w1 ⟨rfl, hb1⟩; have x2 := x1.grew hb1; have d0 := x2.cell 0; have d1 := x2.cell 1; have d2 := x2.cell 2; have d3 := x2.cell 3; simp at d0 d1 d2 d3; clear c0 c1 c2 c3 hW)
    go_ret
    exact ⟨ret_bool' HP.out.symm, below_app hb0 hb1 hb0.size⟩
  | true =>
  have HH : Hid (hdS s = true) := by show hdS s = true; unfold hdS; rw [h0, h1, h2, h3]; rfl
  have HS2 : Hid (∀ u, Below W.heap.size W u → Calls Try.prog 100 #[.slice s.sa s.sn s.scap] u fun e w' => e = .returned (.bool (ssS s)) ∧ Below u.heap.size u w') := fun u hu => sidesOk_any s.sa s.sb s.sn s.scap s.ss u (by omega) (hok.2.2.2.2.2.1.grew sdC_ne (below_app hb0 hu hb0.size))
  have HP2 : Hid (∀ u, Below W.heap.size W u → Calls Try.prog 101 #[(.agg #[.slice s.pa s.pn s.pcap, .slice s.sa s.sn s.scap, .int .i64 s.ac, .int .i64 s.cl])] u fun e w' => e = .returned (.bool (psS s)) ∧ Below u.heap.size u w') := fun u hu => piecesOk_any s u (ok_grew hok (below_app hb0 hu hb0.size)) hn
  clear h0
  cases h4 : ssS s with
  | false =>
    have HP : Hid (okS s = false) := okS_ss h4
    go_enter Try.func50, Try.ntmps50
    try simp only [List.append_eq, List.cons_append, List.nil_append]
    go_wp2_with first | (go_at_call 81; refine (between_any _ _ _ _).mono ?_; rintro e w' ⟨rfl, hw'⟩; rw [hw']; clear hw' w') | (go_at_call 99; refine (hasSide_any s s.ac _ hn2).mono ?_; rw [h2]; rintro e w1 ⟨rfl, hb1⟩; have x2 := x1.grew hb1; have d0 := x2.cell 0; have d1 := x2.cell 1; have d2 := x2.cell 2; have d3 := x2.cell 3; simp at d0 d1 d2 d3; clear c0 c1 c2 c3 hW) | (go_at_call 100; refine (HS2.out w1 hb1).mono ?_; rw [h4]; rintro e w2 ⟨rfl, hb2⟩)
    go_ret
    exact ⟨ret_bool' HP.out.symm, below_app hb0 (below_app hb1 hb2 hb1.size) hb0.size⟩
  | true =>
    have HP : Hid (okS s = psS s) := by show okS s = psS s; unfold okS; rw [HH.out, h4]; simp
    go_enter Try.func50, Try.ntmps50
    try simp only [List.append_eq, List.cons_append, List.nil_append]
    go_wp2_with first | (go_at_call 81; refine (between_any _ _ _ _).mono ?_; rintro e w' ⟨rfl, hw'⟩; rw [hw']; clear hw' w') | (go_at_call 99; refine (hasSide_any s s.ac _ hn2).mono ?_; rw [h2]; rintro e w1 ⟨rfl, hb1⟩; have x2 := x1.grew hb1; have d0 := x2.cell 0; have d1 := x2.cell 1; have d2 := x2.cell 2; have d3 := x2.cell 3; simp at d0 d1 d2 d3; clear c0 c1 c2 c3 hW) | (go_at_call 100; refine (HS2.out w1 hb1).mono ?_; rw [h4]; rintro e w2 ⟨rfl, hb2⟩; have x3 := x2.grew hb2; have e0 := x3.cell 0; have e1 := x3.cell 1; have e2 := x3.cell 2; have e3 := x3.cell 3; simp at e0 e1 e2 e3; clear d0 d1 d2 d3) | (go_at_call 101; refine (HP2.out w2 (below_app hb1 hb2 hb1.size)).mono ?_; rintro e w3 ⟨rfl, hb3⟩)
    go_ret
    exact ⟨ret_bool' HP.out.symm, below_app hb0 (below_app hb1 (below_app hb2 hb3 hb2.size) hb1.size) hb0.size⟩
end Go.Proofs.Ytnlnledijpcjpab
