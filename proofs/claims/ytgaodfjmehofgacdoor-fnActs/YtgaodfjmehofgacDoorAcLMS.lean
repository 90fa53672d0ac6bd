/-
  Chapter 9: the specification at acts that are alike. Written by tools/ac.gen.py. Chapter 9: the program at acts that are alike. Written by tools/ac.gen.py. Chapter 9: a law's sameEvents at rows that say the same; the parts of a right act are right things. Written by tools/act.gen.py. Own work.
-/
import Derived.Test.YtgaodfjmehofgacDoorAcBC
import Derived.Test.YtgaodfjmehofgacDoorAcD
import Derived.Test.YtgaodfjmehofgacDoorAcQ
namespace Go.Proofs.YtgaodfjmehofgacDoor
open Go.ChangeShapes Go.WideShapes Go.ChangeAt Go.RowKit
set_option maxRecDepth 100000
set_option linter.unusedVariables false
set_option linter.unusedSimpArgs false

theorem alike_okAc {t a : Ac} (h : AlikeA t a) : okAc t = okAc a := by unfold okAc plA ac6 ac7 ac8 ac9; rw [h.kd, h.nn, h.pi, h.si, h.zo, h.be, h.ln, h.es]
theorem alike_fiA {t a : Ac} (h : AlikeA t a) (k : Int) : fiA t k = fiA a k := by unfold fiA; rw [h.kd]
theorem alike_amA {t a : Ac} (h : AlikeA t a) (n : Int) : amA t n = amA a n := by unfold amA; rw [h.kd, h.nn]
theorem alike_paN {t a : Ac} (h : AlikeA t a) : paN t = paN a := by unfold paN; rw [h.kd, h.ln]
theorem alike_paF {t a : Ac} (h : AlikeA t a) (e : Ev) : paF t e = paF a e := by unfold paF; rw [h.es]
theorem specActOk_al {w0 w : World} {B : Nat} {t a : Ac} (h : OwnA w B t) (k : AlikeA t a) (hs : a.ok w0) (hn : a.ln ≤ 1048576) : Calls Tryd.prog 10 #[(.agg #[.int .i64 t.kd, .int .i64 t.nn, .int .i64 t.pi, .int .i64 t.si, .int .i64 t.zo, .bool t.be, .slice t.la t.ln t.lcap])] w fun e w' => e = .returned (.bool (okAc a)) ∧ Below w.heap.size w w' := by
  rw [← alike_okAc k]; exact specActOk_any t w (okT9 h k hs) (by rw [k.ln]; omega)
theorem specActFits_al {w0 w : World} {B : Nat} {t a : Ac} (c : Int) (h : OwnA w B t) (k : AlikeA t a) (hs : a.ok w0) (hn : a.ln ≤ 1048576) : Calls Tryd.prog 12 #[(.agg #[.int .i64 t.kd, .int .i64 t.nn, .int .i64 t.pi, .int .i64 t.si, .int .i64 t.zo, .bool t.be, .slice t.la t.ln t.lcap]), .int .i64 c] w fun e w' => e = .returned (.bool (fiA a c)) ∧ Below w.heap.size w w' := by
  rw [← alike_fiA k]; exact specActFits_any t c w
theorem specParts_al {w0 w : World} {B : Nat} {t a : Ac} (e : Ev) (h : OwnA w B t) (k : AlikeA t a) (hs : a.ok w0) (hn : a.ln ≤ 1048576) : Calls Tryd.prog 14 #[(.agg #[.int .i64 t.kd, .int .i64 t.nn, .int .i64 t.pi, .int .i64 t.si, .int .i64 t.zo, .bool t.be, .slice t.la t.ln t.lcap]), (.agg #[.int .i64 e.kd, .int .i64 e.sr, .int .i64 e.pi, .int .i64 e.si, .int .i64 e.nn, .int .i64 e.zo, .bool e.be])] w fun r w' => ∃ q cap, r = .returned (.slice (some ⟨q, 0, none⟩) (paN a) cap) ∧ Below w.heap.size w w' ∧ OwnE evC 7 w' w.heap.size q (some ⟨q, 0, none⟩) (paN a) (paF a e) := by
  rw [← alike_paN k, ← alike_paF k]; exact specParts_any t e w (okT9 h k hs) (by rw [k.ln]; omega)
end Go.Proofs.YtgaodfjmehofgacDoor
namespace Go.Proofs.YtgaodfjmehofgacDoor
open Go.ChangeShapes Go.WideShapes Go.ChangeAt Go.RowKit
set_option maxRecDepth 100000
set_option linter.unusedVariables false
set_option linter.unusedSimpArgs false

theorem implActOk_al {w0 w : World} {B : Nat} {t a : Ac} (h : OwnA w B t) (k : AlikeA t a) (hs : a.ok w0) (hn : a.ln ≤ 1048576) : Calls Tryd.prog 9 #[(.agg #[.int .i64 t.kd, .int .i64 t.nn, .int .i64 t.pi, .int .i64 t.si, .int .i64 t.zo, .bool t.be, .slice t.la t.ln t.lcap])] w fun e w' => e = .returned (.bool (okAc a)) ∧ Below w.heap.size w w' := by
  rw [← alike_okAc k]; exact implActOk_any t w (okT9 h k hs) (by rw [k.ln]; omega)
theorem implActFits_al {w0 w : World} {B : Nat} {t a : Ac} (c : Int) (h : OwnA w B t) (k : AlikeA t a) (hs : a.ok w0) (hn : a.ln ≤ 1048576) : Calls Tryd.prog 11 #[(.agg #[.int .i64 t.kd, .int .i64 t.nn, .int .i64 t.pi, .int .i64 t.si, .int .i64 t.zo, .bool t.be, .slice t.la t.ln t.lcap]), .int .i64 c] w fun e w' => e = .returned (.bool (fiA a c)) ∧ Below w.heap.size w w' := by
  rw [← alike_fiA k]; exact implActFits_any t c w
theorem implParts_al {w0 w : World} {B : Nat} {t a : Ac} (e : Ev) (h : OwnA w B t) (k : AlikeA t a) (hs : a.ok w0) (hn : a.ln ≤ 1048576) : Calls Tryd.prog 8 #[(.agg #[.int .i64 t.kd, .int .i64 t.nn, .int .i64 t.pi, .int .i64 t.si, .int .i64 t.zo, .bool t.be, .slice t.la t.ln t.lcap]), (.agg #[.int .i64 e.kd, .int .i64 e.sr, .int .i64 e.pi, .int .i64 e.si, .int .i64 e.nn, .int .i64 e.zo, .bool e.be])] w fun r w' => ∃ q cap, r = .returned (.slice (some ⟨q, 0, none⟩) (paN a) cap) ∧ Below w.heap.size w w' ∧ OwnE evC 7 w' w.heap.size q (some ⟨q, 0, none⟩) (paN a) (paF a e) := by
  rw [← alike_paN k, ← alike_paF k]; exact implParts_any t e w (okT9 h k hs) (by rw [k.ln]; omega)
end Go.Proofs.YtgaodfjmehofgacDoor
namespace Go.Proofs.YtgaodfjmehofgacDoor
open Go.ChangeShapes Go.WideShapes Go.ChangeAt Go.RowKit
set_option maxRecDepth 100000
set_option linter.unusedVariables false
set_option linter.unusedSimpArgs false

set_option maxHeartbeats 1000000 in
theorem sameEvents_same (a1 a2 : Option Addr) (b1 b2 n c1 c2 : Nat) (f : Nat → Ev) (w : World) (hn : n ≤ 9223372036854775807) (h1 : RdE evC 7 w b1 a1 n f) (h2 : RdE evC 7 w b2 a2 n f) :
    Calls Tryd.prog 13 #[.slice a1 n c1, .slice a2 n c2] w fun e w' => e = .returned (.bool true) ∧ Below w.heap.size w w' := by
  go_enter Tryd.func13, Tryd.ntmps13
  go_wp2
  go_loopw [5] (fun i wr => ∃ k : Nat, k ≤ n ∧ i = .int .i64 k ∧ Below w.heap.size w wr) (fun i _ => n - (intOf i).toNat)
  case atStart => exact ⟨0, Nat.zero_le _, rfl, Below.refl _ _⟩
  case round =>
    obtain ⟨k, hk, rfl, hb⟩ := hrel
    by_cases hlt : k < n
    · rcases h1.grew evC_ne hb with g1 | ⟨o1, rfl, g1⟩
      · omega
      rcases h2.grew evC_ne hb with g2 | ⟨o2, rfl, g2⟩
      · omega
      obtain ⟨k0, k1, k2, k3, k4, k5, k6⟩ : AtEv wr b1 (o1 + k * 7) (f k) := AtEv_of (g1 k hlt)
      obtain ⟨j0, j1, j2, j3, j4, j5, j6⟩ : AtEv wr b2 (o2 + k * 7) (f k) := AtEv_of (g2 k hlt)
      generalize f k = x at k0 k1 k2 k3 k4 k5 k6 j0 j1 j2 j3 j4 j5 j6
      have EQ : ∀ v : World, (Op.equalIn 10000 31 (.agg #[.int .i64 x.kd, .int .i64 x.sr, .int .i64 x.pi, .int .i64 x.si, .int .i64 x.nn, .int .i64 x.zo, .bool x.be]) (.agg #[.int .i64 x.kd, .int .i64 x.sr, .int .i64 x.pi, .int .i64 x.si, .int .i64 x.nn, .int .i64 x.zo, .bool x.be])).run Tryd.prog v = .ok true v := fun v => by have := run_eq_ev x x v; rw [smE_self] at this; exact this
      have y1 : (0 : Int) ≤ (k : Int) := by omega
      have y2 : (k : Int) < (n : Int) := by omega
      clear h1 h2 g1 g2
      go_wp2
      go_quiet (fail)
      go_wp2
      go_roundw
      case rel => first | exact ⟨k + 1, by omega, by go_num, below_drewN hb _⟩ | ((repeat apply Exists.intro); exact ⟨⟨k + 1, by omega, by go_num, below_drewN hb _⟩, rfl⟩)
      case measure => simp [intOf]; omega
    · go_wp2
      go_ret
      exact ⟨rfl, hb⟩
theorem up_rng9 (n : Int) : 0 ≤ up n 2147483647 ∧ up n 2147483647 ≤ 2147483647 := by unfold up upt; (repeat' split) <;> omega
theorem okE_nn {q : Ev} {x y : Int} (hk : ¬ q.kd = 2) (hy : 0 ≤ y ∧ y ≤ 2147483647) (h : okE { q with nn := x } = true) : okE { q with nn := y } = true := by
  unfold okE at h ⊢
  simp only [hk, if_false, Bool.and_eq_true] at h ⊢
  refine ⟨by unfold ib; simp; omega, ?_⟩
  exact h.2
/-- the parts of a right act for a thing are right things -/
theorem parts_ok {a : Ac} {e : Ev} (h : okAc a = true) : ∀ i, i < paN a → okE (paF a e i) = true := fun i hi => by
  unfold paN at hi
  by_cases hk : a.kd = 9
  · rw [if_pos hk] at hi
    have hp : apL a.ln a.es = true := by unfold okAc at h; simp [hk] at h; exact h.1
    have hq : ptE (a.es i) = true := by unfold apL at hp; rw [List.all_eq_true] at hp; exact hp i (List.mem_range.2 hi)
    unfold paF
    by_cases hn : (a.es i).nn = -1
    · rw [if_pos hn]
      by_cases h2 : (a.es i).kd = 2
      · exfalso
        unfold ptE at hq
        simp [h2] at hq
        unfold okE ib at hq
        simp [hn] at hq
      · have hq' : okE { a.es i with nn := 0 } = true := by unfold ptE at hq; simpa [h2, hn] using hq
        exact okE_nn h2 (up_rng9 _) hq'
    · rw [if_neg hn]
      unfold ptE at hq
      simpa [hn] using hq
  · rw [if_neg hk] at hi; omega
end Go.Proofs.YtgaodfjmehofgacDoor
