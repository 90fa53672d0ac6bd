/-
  Chapter 5: a state's bytes: numbers laid into a buffer one behind the other (Buf); the specification's PutState. Chapter 5: the draws DrawStateOk, DrawState, DrawPutState, DrawGetState. Own work.
-/
import Derived.Test.YtodfdfncdoliiadGreatGCurLaw4
import Derived.Test.YtodfdfncdoliiadGreatGTbG4
import Derived.Test.YtodfdfncdoliiadGreatGStAt3
import Derived.Test.YtodfdfncdoliiadGreatGRegCut3
import Derived.Deep.RegionHeld
import Derived.Test.YtodfdfncdoliiadGreatDrawT3
namespace Go.Proofs.YtodfdfncdoliiadGreat
open Go.ChangeShapes Go.WideShapes Go.ChangeAt Go.RowKit
set_option maxRecDepth 100000
set_option linter.unusedVariables false
def lnL (L : List Int) : Nat := 4 * L.length
theorem encM_app1 (L : List Int) (n : Int) : ∀ i, i < lnL (L ++ [n]) → cat (lnL L) (encM L) (enc n) i = encM (L ++ [n]) i := by
  intro i hi
  unfold lnL at hi ⊢
  simp only [List.length_append, List.length_cons, List.length_nil] at hi
  unfold cat encM
  by_cases h : i < 4 * L.length
  · rw [if_pos h]
    congr 1
    simp only [List.getD]
    rw [List.getElem?_append_left (by omega)]
  · rw [if_neg h]
    have e1 : i / 4 = L.length := by omega
    have e2 : i - 4 * L.length = i % 4 := by omega
    rw [e1, e2]
    simp [List.getD]
theorem encM_app (L M : List Int) : ∀ i, i < lnL (L ++ M) → cat (lnL L) (encM L) (encM M) i = encM (L ++ M) i := by
  intro i hi
  unfold lnL at hi ⊢
  simp only [List.length_append] at hi
  unfold cat encM
  by_cases h : i < 4 * L.length
  · rw [if_pos h]
    congr 1
    simp only [List.getD]
    rw [List.getElem?_append_left (by omega)]
  · rw [if_neg h]
    have e1 : (i - 4 * L.length) / 4 = i / 4 - L.length := by omega
    have e2 : (i - 4 * L.length) % 4 = i % 4 := by omega
    rw [e1, e2]
    congr 1
    simp only [List.getD]
    rw [List.getElem?_append_right (by omega)]
theorem wp_cutT2 {β : Type} {P : Program} {c : Go.Code} {a : Act} {w : World} {K : Act → World → Prop} {Q : Exit → Act → World → Prop} (vs : β → List (Nat × Value)) (F : β → World → Prop)
    (h : c.wp P (Exit.then (fun a' u => ∃ x, a' = puts a (vs x) ∧ F x u) Q) a w) (hk : ∀ x u, F x u → K (puts a (vs x)) u) : c.wp P (Exit.then K Q) a w := by
  refine wp_mono h fun e a' u hq => ?_
  cases e
  case normal => obtain ⟨x, rfl, hf⟩ := hq; exact hk x u hf
  all_goals exact hq
/-- a buffer of the call's own that holds these numbers; c: that its room is told -/
def Buf (c : Bool) (w : World) (B : Nat) (v : Value) (L : List Int) : Prop := ∃ g cap, v = .slice (some ⟨g, 0, none⟩) (lnL L) cap ∧ (c = true → lnL L ≤ cap) ∧ Own .u8 w B g (some ⟨g, 0, none⟩) (lnL L) (encM L)
theorem Buf.grew {c : Bool} {w w' : World} {B : Nat} {v : Value} {L : List Int} (h : Buf c w B v L) (hb : Below w.heap.size w w') : Buf c w' B v L := by
  obtain ⟨g, cap, h1, h2, h3⟩ := h
  exact ⟨g, cap, h1, h2, h3.grew hb⟩
theorem Buf.down {c : Bool} {w : World} {B B' : Nat} {v : Value} {L : List Int} (h : Buf c w B v L) (hB : B' ≤ B) : Buf c w B' v L := by
  obtain ⟨g, cap, h1, h2, h3⟩ := h
  exact ⟨g, cap, h1, h2, Nat.le_trans hB h3.1, h3.2⟩
/-- the numbers of a state, as chapter 5 lays them -/
def stA (s : Stt) : Nat → List Int
  | 0 => [(s.pn : Int)]
  | k + 1 => stA s k ++ pcl (s.ps k)
def stB (s : Stt) : Nat → List Int
  | 0 => stA s s.pn ++ [(s.sn : Int)]
  | k + 1 => ((stB s k ++ [(s.ss k).li]) ++ [(s.ss k).po]) ++ [bt (s.ss k).lo]
def stL (s : Stt) : List Int := (stB s s.sn ++ [s.ac]) ++ [s.cl]
theorem stA_len (s : Stt) : ∀ k, (stA s k).length = 1 + 13 * k
  | 0 => rfl
  | k + 1 => by rw [stA, List.length_append, stA_len s k]; simp [pcl]; omega
theorem stB_len (s : Stt) : ∀ k, (stB s k).length = 2 + 13 * s.pn + 3 * k
  | 0 => by rw [stB, List.length_append, stA_len]; simp; omega
  | k + 1 => by rw [stB]; simp only [List.length_append, stB_len s k, List.length_cons, List.length_nil]; omega
theorem stL_len (s : Stt) : (stL s).length = 4 + 13 * s.pn + 3 * s.sn := by unfold stL; simp only [List.length_append, stB_len, List.length_cons, List.length_nil]; omega
def ptN (s : Stt) : Nat := if okS s = true then lnL (stL s) else 0
def ptF (s : Stt) : Nat → Int := encM (stL s)
theorem okS_parts {s : Stt} (h : okS s = true) : s.pn ≤ 8 ∧ 2 ≤ s.sn ∧ s.sn ≤ 3 ∧ (∀ k, k < s.pn → okP (s.ps k) = true) := by
  unfold okS hdS psS at h
  simp only [Bool.and_eq_true, decide_eq_true_eq, ib] at h
  obtain ⟨⟨⟨⟨⟨h1, h2⟩, _⟩, _⟩, h5⟩, _⟩ := h
  refine ⟨h1, by omega, by omega, fun k hk => ?_⟩
  have := List.all_eq_true.1 h5 k (List.mem_range.2 hk)
  unfold pAt at this
  simp only [Bool.and_eq_true] at this
  exact this.1.1.1.1
theorem ptN_le (s : Stt) : ptN s ≤ 1000 := by
  unfold ptN lnL
  split
  · rename_i h
    have := okS_parts h
    rw [stL_len]
    omega
  · omega
theorem own_none {w : World} {B : Nat} {t : TypeId} {f : Nat → Int} (hB : B ≤ w.heap.size) : Own .u8 (w.alloc (.cells #[] t)) B w.heap.size (some ⟨w.heap.size, 0, none⟩) 0 f := ⟨hB, by simp, .inl rfl, free_row (heap_alloc_new w _)⟩
end Go.Proofs.YtodfdfncdoliiadGreat
namespace Go.Proofs.YtodfdfncdoliiadGreat
open Go.ChangeShapes Go.WideShapes Go.ChangeAt Go.RowKit
set_option maxRecDepth 100000
set_option linter.unusedVariables false
/-- both rows begin at the beginning of their blocks -/
def FullT (t : Stt) : Prop := t.pa = some ⟨t.pb, 0, none⟩ ∧ t.sa = some ⟨t.sb, 0, none⟩
theorem RowsT.own {w : World} {B : Nat} {s : Stt} (h : RowsT w B s) (h1 : s.pn ≠ 0) (h2 : s.sn ≠ 0) : ∃ pb sb, OwnT w B { s with pb := pb, sb := sb } ∧ FullT { s with pb := pb, sb := sb } := by
  obtain ⟨qp, hp⟩ := row_some h.op h1
  obtain ⟨qs, hs⟩ := row_some h.os h2
  obtain ⟨qp', op, ep⟩ := row_ownZ pcC_len h.op
  obtain ⟨qs', os, es⟩ := row_ownZ sdC_len h.os
  obtain ⟨_, _, fp, c1, c2⟩ := row_form h.op
  obtain ⟨_, _, fs, c3, c4⟩ := row_form h.os
  simp only [Value.slice.injEq, true_and] at fp fs
  obtain ⟨rfl, rfl⟩ := fp
  obtain ⟨rfl, rfl⟩ := fs
  have e1 : qp = qp' := by have := ep h1; rw [hp] at this; simpa [Value.ownBlock] using this
  have e2 : qs = qs' := by have := es h2; rw [hs] at this; simpa [Value.ownBlock] using this
  subst e1 e2
  exact ⟨qp, qs, ⟨op, os, fun _ _ he => row_two h.op h.os (by decide) (ep h1) (by rw [es h2]; exact congrArg some he), c1, c2, c3, c4⟩, hp, hs⟩
theorem RowsT.like {w : World} {B : Nat} {s : Stt} (h : RowsT w B s) (h1 : s.pn ≠ 0) (h2 : s.sn ≠ 0) : ∃ t : Stt, ((.agg #[.slice s.pa s.pn s.pcap, .slice s.sa s.sn s.scap, .int .i64 s.ac, .int .i64 s.cl]) : Value) = (.agg #[.slice t.pa t.pn t.pcap, .slice t.sa t.sn t.scap, .int .i64 t.ac, .int .i64 t.cl]) ∧ OwnT w B t ∧ FullT t ∧ (drS s → drS t) ∧ (anS s → anS t) := by
  obtain ⟨pb, sb, o, f⟩ := h.own h1 h2
  exact ⟨{ s with pb := pb, sb := sb }, rfl, o, f, fun k => ⟨k.pn, k.sn, k.ac, k.cl, k.ps, k.ss⟩, fun k => ⟨k.pn, k.sn, k.ac, k.cl, k.ps, k.ss⟩⟩
/-- what a draw of a state answers -/
def DrewT (P : Stt → Prop) (w : World) (e : Ending) (w' : World) : Prop := ∃ s : Stt, P s ∧ e = .returned (.agg #[.slice s.pa s.pn s.pcap, .slice s.sa s.sn s.scap, .int .i64 s.ac, .int .i64 s.cl]) ∧ Below w.heap.size w w' ∧ OwnT w' w.heap.size s ∧ FullT s
theorem anS.ok {s : Stt} {w : World} {B : Nat} (h : anS s) (o : OwnT w B s) : s.ok w := ⟨o.pc, o.pm, o.p.rd, o.sc, o.sm, o.s.rd, wf_i64 h.ac, wf_i64 h.cl, h.ps, h.ss⟩
theorem anS.as {s : Stt} (h : anS s) (pb sb : Nat) : anS { s with pb := pb, sb := sb } := ⟨h.pn, h.sn, h.ac, h.cl, h.ps, h.ss⟩
theorem drS.as {s : Stt} (h : drS s) (pb sb : Nat) : drS { s with pb := pb, sb := sb } := ⟨h.pn, h.sn, h.ac, h.cl, h.ps, h.ss⟩
end Go.Proofs.YtodfdfncdoliiadGreat
