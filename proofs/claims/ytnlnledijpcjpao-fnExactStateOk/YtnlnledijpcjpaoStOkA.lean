/-
  Chapter 5: the program's sidesOk, belongs, piecesOk, StateOk. Own work.
-/
import Derived.Test.YtnlnledijpcjpaoStAt
import Derived.Test.YtnlnledijpcjpaoState7
import Derived.Test.YtnlnledijpcjpaoPieceOkI
namespace Go.Proofs.Ytnlnledijpcjpao
open Go.ChangeShapes Go.WideShapes Go.ChangeAt Go.RowKit
set_option maxRecDepth 100000
set_option linter.unusedVariables false
set_option maxHeartbeats 2000000 in
theorem sidesOk_any (a : Option Addr) (b n c : Nat) (f : Nat → Sd) (w : World) (hn : n ≤ 9223372036854775807) (h : RdE sdC 3 w b a n f) :
    Calls Try.prog 39 #[.slice a n c] w fun e w' => e = .returned (.bool ((List.range n).all (fun i => okSd (f i)))) ∧ Below w.heap.size w w' := by
  go_enter Try.func39, Try.ntmps39
  go_wp2
  go_loopw [7] (fun i wr => ∃ k : Nat, k ≤ n ∧ i = .int .i64 k ∧ Below w.heap.size w wr ∧ Hid (∀ j, j < k → okSd (f j) = true)) (fun i _ => n - (intOf i).toNat)
  case atStart => exact ⟨0, Nat.zero_le _, rfl, Below.refl _ _, fun j hj => by omega⟩
  case round =>
    obtain ⟨k, hk, rfl, hb, hall⟩ := hrel
    by_cases hlt : k < n
    · rcases h.grew sdC_ne hb with g1 | ⟨o1, rfl, g1⟩
      · omega
      obtain ⟨k0, k1, k2⟩ : At3 wr b (o1 + k * 3) (f k) := At3_of (g1 k hlt)
      have y1 : (0 : Int) ≤ (k : Int) := by omega
      have y2 : (k : Int) < (n : Int) := by omega
      have bV := boxR_new wr 56 #[.int .i64 (f k).li, .int .i64 (f k).po, .bool (f k).lo]
      have hbV := below_new2' wr (.cells #[.int .i64 (f k).li, .int .i64 (f k).po, .bool (f k).lo] 56)
      generalize hV : wr.alloc (.cells #[.int .i64 (f k).li, .int .i64 (f k).po, .bool (f k).lo] 56) = V at bV hbV
      clear g1
      have m0 : _ = some (Value.int .i64 (f k).li) := bV.cell 0
      have m1 : _ = some (Value.int .i64 (f k).po) := bV.cell 1
      have hB := below_app hb hbV hb.size
      clear hb hbV bV
      cases h1 : ib (f k).li (-2147483647) 2147483647 with
      | false =>
        have HN : Hid ((List.range n).all (fun i => okSd (f i)) = false) := all_no hlt (by unfold okSd; rw [h1]; rfl)
        go_wp2_with (go_at_call 37; refine (between_any _ _ _ _).mono ?_; rintro e w' ⟨rfl, hw'⟩; rw [hw']; clear hw' w')
        go_ret
        exact ⟨ret_bool' HN.out.symm, hB⟩
      | true =>
      cases h2 : ib (f k).po 0 2147483647 with
      | false =>
        have HN : Hid ((List.range n).all (fun i => okSd (f i)) = false) := all_no hlt (by unfold okSd; rw [h1, h2]; rfl)
        go_wp2_with (go_at_call 37; refine (between_any _ _ _ _).mono ?_; rintro e w' ⟨rfl, hw'⟩; rw [hw']; clear hw' w')
        go_ret
        exact ⟨ret_bool' HN.out.symm, hB⟩
      | true =>
        have HA : Hid (∀ j, j < k + 1 → okSd (f j) = true) := fun j hj => by
          by_cases e : j = k
          · subst e; unfold okSd; rw [h1, h2]; rfl
          · exact hall.out j (by omega)
        clear hall
        go_wp2_with (go_at_call 37; refine (between_any _ _ _ _).mono ?_; rintro e w' ⟨rfl, hw'⟩; rw [hw']; clear hw' w')
        go_roundw
        case rel => first | exact ⟨k + 1, by omega, by go_num, hB, HA⟩ | ((repeat apply Exists.intro); exact ⟨⟨k + 1, by omega, by go_num, hB, HA⟩, rfl⟩)
        case measure => simp [intOf]; omega
    · obtain rfl : k = n := by omega
      have HN : Hid ((List.range k).all (fun i => okSd (f i)) = true) := all_yes hall.out
      clear hall
      go_wp2
      go_ret
      exact ⟨ret_bool' HN.out.symm, hb⟩
theorem ok_grew {s : Stt} {w w' : World} (h : s.ok w) (hb : Below w.heap.size w w') : s.ok w' := ⟨h.1, h.2.1, h.2.2.1.grew pcC_ne hb, h.2.2.2.1, h.2.2.2.2.1, h.2.2.2.2.2.1.grew sdC_ne hb, h.2.2.2.2.2.2⟩
/-- whether a piece belongs to a state -/
def blg (s : Stt) (p : Pc) : Bool := decide (p.ow < s.sn) && decide (p.si < s.sn) && decide (p.st ≤ s.cl)
set_option maxHeartbeats 1000000 in
theorem belongs_any (s : Stt) (p : Pc) (w : World) : Calls Try.prog 57 #[(.agg #[.slice s.pa s.pn s.pcap, .slice s.sa s.sn s.scap, .int .i64 s.ac, .int .i64 s.cl]), (.agg #[.int .i64 p.id, .int .i64 p.ow, .int .i64 p.si, .int .i64 p.zo, .int .i64 p.st, .int .i64 p.po, .int .i64 p.to, .int .i64 p.tr, .int .i64 p.pl, .int .i64 p.mi, .int .i64 p.ma, .bool p.de, .bool p.be])] w fun e w' => e = .returned (.bool (blg s p)) ∧ Below w.heap.size w w' := by
  have hb0 := ((Below.refl _ w).alloc (Nat.le_refl _) (.cells #[.slice s.pa s.pn s.pcap, .slice s.sa s.sn s.scap, .int .i64 s.ac, .int .i64 s.cl] 31)).alloc (by simp) (.cells #[.int .i64 p.id, .int .i64 p.ow, .int .i64 p.si, .int .i64 p.zo, .int .i64 p.st, .int .i64 p.po, .int .i64 p.to, .int .i64 p.tr, .int .i64 p.pl, .int .i64 p.mi, .int .i64 p.ma, .bool p.de, .bool p.be] 43)
  by_cases h1 : p.ow < (s.sn : Int)
  · by_cases h2 : p.si < (s.sn : Int)
    · have HS : Hid (blg s p = decide (p.st ≤ s.cl)) := by show _ = _; unfold blg; rw [decide_eq_true h1, decide_eq_true h2]; rfl
      go_enter Try.func57, Try.ntmps57
      go_wp2
      go_ret
      exact ⟨ret_bool' HS.out.symm, hb0⟩
    · have HS : Hid (blg s p = false) := by show _ = _; unfold blg; rw [decide_eq_false h2]; simp
      have h2' : decide (p.si < (s.sn : Int)) = false := decide_eq_false h2
      go_enter Try.func57, Try.ntmps57
      go_wp2
      go_ret
      exact ⟨ret_bool' HS.out.symm, hb0⟩
  · have HS : Hid (blg s p = false) := by show _ = _; unfold blg; rw [decide_eq_false h1]; simp
    have h1' : decide (p.ow < (s.sn : Int)) = false := decide_eq_false h1
    go_enter Try.func57, Try.ntmps57
    go_wp2
    go_ret
    exact ⟨ret_bool' HS.out.symm, hb0⟩
end Go.Proofs.Ytnlnledijpcjpao
