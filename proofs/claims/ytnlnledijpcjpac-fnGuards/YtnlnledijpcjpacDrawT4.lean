/-
  Chapter 5: the draws DrawStateOk, DrawState, DrawPutState, DrawGetState. Own work.
-/
import Derived.Test.YtnlnledijpcjpacDrawT3
import Derived.Test.YtnlnledijpcjpacDrawBend
import Derived.Test.YtnlnledijpcjpacStPut
import Derived.Test.YtnlnledijpcjpacState7
namespace Go.Proofs.Ytnlnledijpcjpac
open Go.ChangeShapes Go.WideShapes Go.ChangeAt Go.RowKit
set_option maxRecDepth 100000
set_option linter.unusedVariables false
/-- both rows begin at the beginning of their blocks -/
def FullT (t : Stt) : Prop := t.pa = some ⟨t.pb, 0, none⟩ ∧ t.sa = some ⟨t.sb, 0, none⟩
theorem RowsT.own {w : World} {B : Nat} {s : Stt} (h : RowsT w B s) (h1 : s.pn ≠ 0) (h2 : s.sn ≠ 0) : ∃ pb sb, OwnT w B { s with pb := pb, sb := sb } ∧ FullT { s with pb := pb, sb := sb } := by
  obtain ⟨qp, hp⟩ := row_some h.op h1
  obtain ⟨qs, hs⟩ := row_some h.os h2
  obtain ⟨qp', op, ep⟩ := row_ownZ pcC_len h.op
  obtain ⟨qs', os, es⟩ := row_ownZ sdC_len h.os
  obtain ⟨_, _, fp, c1, c2⟩ := row_form h.op
  obtain ⟨_, _, fs, c3, c4⟩ := row_form h.os
  simp only [Value.slice.injEq, true_and] at fp fs
  obtain ⟨rfl, rfl⟩ := fp
  obtain ⟨rfl, rfl⟩ := fs
  have e1 : qp = qp' := by have := ep h1; rw [hp] at this; simpa [Value.ownBlock] using this
  have e2 : qs = qs' := by have := es h2; rw [hs] at this; simpa [Value.ownBlock] using this
  subst e1 e2
  exact ⟨qp, qs, ⟨op, os, fun _ _ he => row_two h.op h.os (by decide) (ep h1) (by rw [es h2]; exact congrArg some he), c1, c2, c3, c4⟩, hp, hs⟩
theorem RowsT.like {w : World} {B : Nat} {s : Stt} (h : RowsT w B s) (h1 : s.pn ≠ 0) (h2 : s.sn ≠ 0) : ∃ t : Stt, ((.agg #[.slice s.pa s.pn s.pcap, .slice s.sa s.sn s.scap, .int .i64 s.ac, .int .i64 s.cl]) : Value) = (.agg #[.slice t.pa t.pn t.pcap, .slice t.sa t.sn t.scap, .int .i64 t.ac, .int .i64 t.cl]) ∧ OwnT w B t ∧ FullT t ∧ (drS s → drS t) ∧ (anS s → anS t) := by
  obtain ⟨pb, sb, o, f⟩ := h.own h1 h2
  exact ⟨{ s with pb := pb, sb := sb }, rfl, o, f, fun k => ⟨k.pn, k.sn, k.ac, k.cl, k.ps, k.ss⟩, fun k => ⟨k.pn, k.sn, k.ac, k.cl, k.ps, k.ss⟩⟩
/-- what a draw of a state answers -/
def DrewT (P : Stt → Prop) (w : World) (e : Ending) (w' : World) : Prop := ∃ s : Stt, P s ∧ e = .returned (.agg #[.slice s.pa s.pn s.pcap, .slice s.sa s.sn s.scap, .int .i64 s.ac, .int .i64 s.cl]) ∧ Below w.heap.size w w' ∧ OwnT w' w.heap.size s ∧ FullT s
theorem anS.ok {s : Stt} {w : World} {B : Nat} (h : anS s) (o : OwnT w B s) : s.ok w := ⟨o.pc, o.pm, o.p.rd, o.sc, o.sm, o.s.rd, wf_i64 h.ac, wf_i64 h.cl, h.ps, h.ss⟩
theorem anS.as {s : Stt} (h : anS s) (pb sb : Nat) : anS { s with pb := pb, sb := sb } := ⟨h.pn, h.sn, h.ac, h.cl, h.ps, h.ss⟩
theorem drS.as {s : Stt} (h : drS s) (pb sb : Nat) : drS { s with pb := pb, sb := sb } := ⟨h.pn, h.sn, h.ac, h.cl, h.ps, h.ss⟩
end Go.Proofs.Ytnlnledijpcjpac
