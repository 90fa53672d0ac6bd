/-
  What every law over a code begins with: 'big', and the step from the row that came in to a code that can be read. Contracts of the draws of lists of ints (l2List, DrawPacked) and of 'sameInts', which holds two lists against each other. The contract of l1Bend: bytes as they were handed, or with one turned, cut, or one more. The specification's StateOk: its loops. Written by tools/state7.gen.py. Chapter 5: a state's bytes: numbers laid into a buffer one behind the other (Buf); the specification's PutState. Chapter 5: the draws DrawStateOk, DrawState, DrawPutState, DrawGetState. Chapter 5: the draws DrawPieceAt, DrawOnField, DrawStateNew, DrawSetPiece. Written by tools/drawt6.gen.py. Own work.
-/
import Derived.Test.YtdcgobngmdhmaadGCur23
import Derived.Deep.RegionLaw
import Derived.Test.YtdcgobngmdhmaadGStMark4
import Derived.Test.YtdcgobngmdhmaadGPiece43
import Derived.Test.YtdcgobngmdhmaadGEvW11
import Derived.Test.YtdcgobngmdhmaadGRegCut3
import Derived.Deep.RegionHeld
import Derived.Test.YtdcgobngmdhmaadGDrawT32
namespace Go.Proofs.Ytdcgobngmdhmaad
open Go.ChangeShapes Go.WideShapes Go.ChangeAt Go.RowKit
set_option maxRecDepth 100000

theorem big_any (a : Option Addr) (len cap : Nat) (w : World) :
    Calls Try.prog 4 #[.slice a len cap] w fun e w' => e = .returned (.bool (decide ((1048576 : Int) < (len : Int)))) ∧ w' = w := by
  go_enter Try.func4, Try.ntmps4
  go_wp2
  go_ret
  exact ⟨rfl, rfl⟩
theorem Code.mono {w : World} {a : Option Addr} {len B B' : Nat} (h : Code w a len B) (h1 : B ≤ B') (h2 : B' ≤ w.heap.size) : Code w a len B' := by
  obtain ⟨x, _, z⟩ := h
  refine ⟨x, h2, ?_⟩
  rcases z with z | ⟨b, off, zs, ha, hb, hc⟩
  · exact .inl z
  · exact .inr ⟨b, off, zs, ha, by omega, hc⟩
/-- the row that came in, in the words of the frame's 'IsRow' -/
theorem code_of_row {w : World} {a : Option Addr} {len cap : Nat} {zs : List Int}
    (h : (a = none ∧ len = 0 ∧ cap = 0 ∧ zs = []) ∨ ∃ x, a = some x ∧ len ≤ cap ∧ cap ≤ maxLen ∧ zs.length = cap ∧ (∀ i, i < zs.length → w.cell? (x.add i) = some (.int .u8 (zs.getD i 0))) ∧ ∀ n ∈ zs, (Lit.int .u8 n).wf = true) :
    Code w a len w.heap.size := by
  rcases h with ⟨rfl, rfl, rfl, rfl⟩ | ⟨x, rfl, hl, hm, hz, hc, hw⟩
  · exact ⟨by omega, Nat.le_refl _, .inl rfl⟩
  · unfold maxLen at hm
    refine ⟨by omega, Nat.le_refl _, ?_⟩
    by_cases h0 : len = 0
    · exact .inl h0
    · obtain ⟨b, off, rfl, hcell⟩ := ints_at hc (by omega)
      have hb : b < w.heap.size := by
        have := hcell 0 (by omega)
        cases hh : w.heap[b]? with
        | none => simp [World.cell?, hh] at this
        | some o => exact (Array.getElem?_eq_some_iff.1 hh).1
      refine .inr ⟨b, off, fun i => zs.getD i 0, rfl, hb, fun i hi => ⟨hcell i (by omega), ?_⟩⟩
      have hi' : i < zs.length := by omega
      have e : zs.getD i 0 = zs[i] := by simp [hi']
      show 0 ≤ zs.getD i 0 ∧ zs.getD i 0 ≤ 255
      rw [e]
      exact bounds_u8 (hw _ (List.getElem_mem hi'))
end Go.Proofs.Ytdcgobngmdhmaad
namespace Go.Proofs.Ytdcgobngmdhmaad
open Go.ChangeShapes Go.WideShapes Go.ChangeAt Go.RowKit
set_option maxRecDepth 100000

def I64 (n : Nat) (f : Nat → Int) : Prop := ∀ i, i < n → inI64 (f i)
/-- a list that was drawn -/
def DrawnL (p : Nat) (a : Option Addr) (len cap : Nat) (w : World) (most : Nat) (e : Ending) (w' : World) : Prop :=
  ∃ q c n f, e = .returned (.slice (some ⟨q, 0, none⟩) n c) ∧ n ≤ most ∧ n ≤ c ∧ I64 n f ∧ Own .i64 w' w.heap.size q (some ⟨q, 0, none⟩) n f ∧ Only p w w' ∧ Cur w' p a len cap ∧ w'.ownsRow w.heap.size 3 1 (.slice (some ⟨q, 0, none⟩) n c) n (vals .i64 n f)
end Go.Proofs.Ytdcgobngmdhmaad
namespace Go.Proofs.Ytdcgobngmdhmaad
open Go.ChangeShapes Go.WideShapes Go.ChangeAt Go.RowKit
set_option maxRecDepth 100000

/-- a call of a Go function, met by its contract, as one step of a region that draws its order -/
theorem step_call2 {P : Program} {ops : Array Oper} {o : Oper} {a : Act} {w : World} {K : Act → World → Prop} {Q : Exit → Act → World → Prop} {E : Prop} (hgd : o.guard = none) (F : FuncId) (x y : Operand) (t u : TypeId)
    (ho : o.op = .call { callee := .value (.func F), args := #[x, y], argTypes := #[t, u] }) (v v' : Value) (hx : a.eval x = v) (hy : a.eval y = v') (hcf : (callFunc F #[v, v']).run P w = .ok (.enter F #[v, v']) w) {R : Ending → World → Prop} (hc : Calls P F #[v, v'] w R)
    (h : ∀ e w', R e w' → ∃ r, e = .returned r ∧ K (a.put o.dst r) w') : if Region.wanted o (yielded ops a.tmps) = true then Oper.wp P o a w K Q else E := by
  have hw : Region.wanted o (yielded ops a.tmps) = true := by simp [Region.wanted, hgd]
  rw [if_pos hw]
  have hrun : (execOp a.eval o).run P w = .ok (.enter F #[v, v']) w := by
    have hF : a.eval (.func F) = .func (.func F) #[] #[] := rfl
    simp [execOp, ho, resolve, invoke, hx, hy, hF, Deferred.ofValue, hcf]
  unfold Oper.wp
  rw [hrun, Oper.upon_enter]
  refine hc.mono ?_
  intro e w' hR
  obtain ⟨r, rfl, hk⟩ := h e w' hR
  exact hk
theorem below_in (v : Array Value) (w : World) : (callFunc 32 v).run Try.prog w = .ok (.enter 32 v) w := by kernel_rfl
theorem xor_rng (a b : Int) : 0 ≤ bits .xor .u8 a b ∧ bits .xor .u8 a b ≤ 255 := by
  have e : bits .xor .u8 a b = IntKind.u8.wrap ((BitVec.ofInt 8 a ^^^ BitVec.ofInt 8 b).toNat : Int) := rfl
  rw [e, IntKind.wrap_u8']
  omega
theorem Own.put0 {k : IntKind} {w : World} {B b : Nat} {n : Nat} {f : Nat → Int} (h : Own k w B b (some ⟨b, 0, none⟩) n f) (j : Nat) (x : Int) : Own k (w.setCell ⟨b, j, none⟩ (.int k x)) B b (some ⟨b, 0, none⟩) n (fun i => if i = j then x else f i) := by
  have := h.put j x
  rwa [Nat.zero_add] at this
theorem U8.put {n : Nat} {f : Nat → Int} (hu : U8 n f) (j : Nat) {x : Int} (hx : 0 ≤ x ∧ x ≤ 255) : U8 n (fun i => if i = j then x else f i) := fun i hi => by
  show 0 ≤ (if i = j then x else f i) ∧ (if i = j then x else f i) ≤ 255
  split
  · exact hx
  · exact hu i hi
theorem U8.less {n m : Nat} {f : Nat → Int} (hu : U8 n f) (h : m ≤ n) : U8 m f := fun i hi => hu i (by omega)
theorem Own.less {k : IntKind} {w : World} {B b : Nat} {a : Option Addr} {n m : Nat} {f : Nat → Int} (h : Own k w B b a n f) (hm : m ≤ n) : Own k w B b a m f := ⟨h.1, h.2.1, h.2.2.1.first hm, h.2.2.2⟩
/-- bytes that were drawn, beside a cursor -/
def Bent (p : Nat) (a : Option Addr) (len cap : Nat) (w : World) (most : Nat) (e : Ending) (w' : World) : Prop :=
  ∃ q c n f, e = .returned (.slice (some ⟨q, 0, none⟩) n c) ∧ n ≤ most ∧ n ≤ c ∧ U8 n f ∧ Own .u8 w' w.heap.size q (some ⟨q, 0, none⟩) n f ∧ Only p w w' ∧ Cur w' p a len cap
end Go.Proofs.Ytdcgobngmdhmaad
namespace Go.Proofs.Ytdcgobngmdhmaad
open Go.ChangeShapes Go.WideShapes Go.ChangeAt Go.RowKit
set_option maxRecDepth 100000
set_option linter.unusedVariables false
theorem okS_ps {s : Stt} (h : psS s = false) : okS s = false := by unfold okS; rw [h]; simp
theorem okS_ss {s : Stt} (h : ssS s = false) : okS s = false := by unfold okS; rw [h]; simp
theorem okS_yes {s : Stt} (h0 : hdS s = true) (h1 : psS s = true) (h2 : ssS s = true) : okS s = true := by unfold okS; rw [h0, h1, h2]; rfl
end Go.Proofs.Ytdcgobngmdhmaad
namespace Go.Proofs.Ytdcgobngmdhmaad
open Go.ChangeShapes Go.WideShapes Go.ChangeAt Go.RowKit
set_option maxRecDepth 100000
set_option linter.unusedVariables false
def lnL (L : List Int) : Nat := 4 * L.length
theorem encM_app1 (L : List Int) (n : Int) : ∀ i, i < lnL (L ++ [n]) → cat (lnL L) (encM L) (enc n) i = encM (L ++ [n]) i := by
  intro i hi
  unfold lnL at hi ⊢
  simp only [List.length_append, List.length_cons, List.length_nil] at hi
  unfold cat encM
  by_cases h : i < 4 * L.length
  · rw [if_pos h]
    congr 1
    simp only [List.getD]
    rw [List.getElem?_append_left (by omega)]
  · rw [if_neg h]
    have e1 : i / 4 = L.length := by omega
    have e2 : i - 4 * L.length = i % 4 := by omega
    rw [e1, e2]
    simp [List.getD]
theorem encM_app (L M : List Int) : ∀ i, i < lnL (L ++ M) → cat (lnL L) (encM L) (encM M) i = encM (L ++ M) i := by
  intro i hi
  unfold lnL at hi ⊢
  simp only [List.length_append] at hi
  unfold cat encM
  by_cases h : i < 4 * L.length
  · rw [if_pos h]
    congr 1
    simp only [List.getD]
    rw [List.getElem?_append_left (by omega)]
  · rw [if_neg h]
    have e1 : (i - 4 * L.length) / 4 = i / 4 - L.length := by omega
    have e2 : (i - 4 * L.length) % 4 = i % 4 := by omega
    rw [e1, e2]
    congr 1
    simp only [List.getD]
    rw [List.getElem?_append_right (by omega)]
theorem wp_cutT2 {β : Type} {P : Program} {c : Go.Code} {a : Act} {w : World} {K : Act → World → Prop} {Q : Exit → Act → World → Prop} (vs : β → List (Nat × Value)) (F : β → World → Prop)
    (h : c.wp P (Exit.then (fun a' u => ∃ x, a' = puts a (vs x) ∧ F x u) Q) a w) (hk : ∀ x u, F x u → K (puts a (vs x)) u) : c.wp P (Exit.then K Q) a w := by
  refine wp_mono h fun e a' u hq => ?_
  cases e
  case normal => obtain ⟨x, rfl, hf⟩ := hq; exact hk x u hf
  all_goals exact hq
/-- a buffer of the call's own that holds these numbers; c: that its room is told -/
def Buf (c : Bool) (w : World) (B : Nat) (v : Value) (L : List Int) : Prop := ∃ g cap, v = .slice (some ⟨g, 0, none⟩) (lnL L) cap ∧ (c = true → lnL L ≤ cap) ∧ Own .u8 w B g (some ⟨g, 0, none⟩) (lnL L) (encM L)
theorem Buf.grew {c : Bool} {w w' : World} {B : Nat} {v : Value} {L : List Int} (h : Buf c w B v L) (hb : Below w.heap.size w w') : Buf c w' B v L := by
  obtain ⟨g, cap, h1, h2, h3⟩ := h
  exact ⟨g, cap, h1, h2, h3.grew hb⟩
theorem Buf.down {c : Bool} {w : World} {B B' : Nat} {v : Value} {L : List Int} (h : Buf c w B v L) (hB : B' ≤ B) : Buf c w B' v L := by
  obtain ⟨g, cap, h1, h2, h3⟩ := h
  exact ⟨g, cap, h1, h2, Nat.le_trans hB h3.1, h3.2⟩
/-- the numbers of a state, as chapter 5 lays them -/
def stA (s : Stt) : Nat → List Int
  | 0 => [(s.pn : Int)]
  | k + 1 => stA s k ++ pcl (s.ps k)
def stB (s : Stt) : Nat → List Int
  | 0 => stA s s.pn ++ [(s.sn : Int)]
  | k + 1 => ((stB s k ++ [(s.ss k).li]) ++ [(s.ss k).po]) ++ [bt (s.ss k).lo]
def stL (s : Stt) : List Int := (stB s s.sn ++ [s.ac]) ++ [s.cl]
theorem stA_len (s : Stt) : ∀ k, (stA s k).length = 1 + 13 * k
  | 0 => rfl
  | k + 1 => by rw [stA, List.length_append, stA_len s k]; simp [pcl]; omega
theorem stB_len (s : Stt) : ∀ k, (stB s k).length = 2 + 13 * s.pn + 3 * k
  | 0 => by rw [stB, List.length_append, stA_len]; simp; omega
  | k + 1 => by rw [stB]; simp only [List.length_append, stB_len s k, List.length_cons, List.length_nil]; omega
theorem stL_len (s : Stt) : (stL s).length = 4 + 13 * s.pn + 3 * s.sn := by unfold stL; simp only [List.length_append, stB_len, List.length_cons, List.length_nil]; omega
def ptN (s : Stt) : Nat := if okS s = true then lnL (stL s) else 0
def ptF (s : Stt) : Nat → Int := encM (stL s)
theorem okS_parts {s : Stt} (h : okS s = true) : s.pn ≤ 8 ∧ 2 ≤ s.sn ∧ s.sn ≤ 3 ∧ (∀ k, k < s.pn → okP (s.ps k) = true) := by
  unfold okS hdS psS at h
  simp only [Bool.and_eq_true, decide_eq_true_eq, ib] at h
  obtain ⟨⟨⟨⟨⟨h1, h2⟩, _⟩, _⟩, h5⟩, _⟩ := h
  refine ⟨h1, by omega, by omega, fun k hk => ?_⟩
  have := List.all_eq_true.1 h5 k (List.mem_range.2 hk)
  unfold pAt at this
  simp only [Bool.and_eq_true] at this
  exact this.1.1.1.1
theorem ptN_le (s : Stt) : ptN s ≤ 1000 := by
  unfold ptN lnL
  split
  · rename_i h
    have := okS_parts h
    rw [stL_len]
    omega
  · omega
theorem own_none {w : World} {B : Nat} {t : TypeId} {f : Nat → Int} (hB : B ≤ w.heap.size) : Own .u8 (w.alloc (.cells #[] t)) B w.heap.size (some ⟨w.heap.size, 0, none⟩) 0 f := ⟨hB, by simp, .inl rfl, free_row (heap_alloc_new w _)⟩
end Go.Proofs.Ytdcgobngmdhmaad
namespace Go.Proofs.Ytdcgobngmdhmaad
open Go.ChangeShapes Go.WideShapes Go.ChangeAt Go.RowKit
set_option maxRecDepth 100000
set_option linter.unusedVariables false
/-- both rows begin at the beginning of their blocks -/
def FullT (t : Stt) : Prop := t.pa = some ⟨t.pb, 0, none⟩ ∧ t.sa = some ⟨t.sb, 0, none⟩
theorem RowsT.own {w : World} {B : Nat} {s : Stt} (h : RowsT w B s) (h1 : s.pn ≠ 0) (h2 : s.sn ≠ 0) : ∃ pb sb, OwnT w B { s with pb := pb, sb := sb } ∧ FullT { s with pb := pb, sb := sb } := by
  obtain ⟨qp, hp⟩ := row_some h.op h1
  obtain ⟨qs, hs⟩ := row_some h.os h2
  obtain ⟨qp', op, ep⟩ := row_ownZ pcC_len h.op
  obtain ⟨qs', os, es⟩ := row_ownZ sdC_len h.os
  obtain ⟨_, _, fp, c1, c2⟩ := row_form h.op
  obtain ⟨_, _, fs, c3, c4⟩ := row_form h.os
  simp only [Value.slice.injEq, true_and] at fp fs
  obtain ⟨rfl, rfl⟩ := fp
  obtain ⟨rfl, rfl⟩ := fs
  have e1 : qp = qp' := by have := ep h1; rw [hp] at this; simpa [Value.ownBlock] using this
  have e2 : qs = qs' := by have := es h2; rw [hs] at this; simpa [Value.ownBlock] using this
  subst e1 e2
  exact ⟨qp, qs, ⟨op, os, fun _ _ he => row_two h.op h.os (by decide) (ep h1) (by rw [es h2]; exact congrArg some he), c1, c2, c3, c4⟩, hp, hs⟩
theorem RowsT.like {w : World} {B : Nat} {s : Stt} (h : RowsT w B s) (h1 : s.pn ≠ 0) (h2 : s.sn ≠ 0) : ∃ t : Stt, ((.agg #[.slice s.pa s.pn s.pcap, .slice s.sa s.sn s.scap, .int .i64 s.ac, .int .i64 s.cl]) : Value) = (.agg #[.slice t.pa t.pn t.pcap, .slice t.sa t.sn t.scap, .int .i64 t.ac, .int .i64 t.cl]) ∧ OwnT w B t ∧ FullT t ∧ (drS s → drS t) ∧ (anS s → anS t) := by
  obtain ⟨pb, sb, o, f⟩ := h.own h1 h2
  exact ⟨{ s with pb := pb, sb := sb }, rfl, o, f, fun k => ⟨k.pn, k.sn, k.ac, k.cl, k.ps, k.ss⟩, fun k => ⟨k.pn, k.sn, k.ac, k.cl, k.ps, k.ss⟩⟩
/-- what a draw of a state answers -/
def DrewT (P : Stt → Prop) (w : World) (e : Ending) (w' : World) : Prop := ∃ s : Stt, P s ∧ e = .returned (.agg #[.slice s.pa s.pn s.pcap, .slice s.sa s.sn s.scap, .int .i64 s.ac, .int .i64 s.cl]) ∧ Below w.heap.size w w' ∧ OwnT w' w.heap.size s ∧ FullT s
theorem anS.ok {s : Stt} {w : World} {B : Nat} (h : anS s) (o : OwnT w B s) : s.ok w := ⟨o.pc, o.pm, o.p.rd, o.sc, o.sm, o.s.rd, wf_i64 h.ac, wf_i64 h.cl, h.ps, h.ss⟩
theorem anS.as {s : Stt} (h : anS s) (pb sb : Nat) : anS { s with pb := pb, sb := sb } := ⟨h.pn, h.sn, h.ac, h.cl, h.ps, h.ss⟩
theorem drS.as {s : Stt} (h : drS s) (pb sb : Nat) : drS { s with pb := pb, sb := sb } := ⟨h.pn, h.sn, h.ac, h.cl, h.ps, h.ss⟩
end Go.Proofs.Ytdcgobngmdhmaad
namespace Go.Proofs.Ytdcgobngmdhmaad
open Go.ChangeShapes Go.WideShapes Go.ChangeAt Go.RowKit
set_option maxRecDepth 100000
set_option linter.unusedVariables false
set_option linter.unusedSimpArgs false
theorem RowsT.setOld {w : World} {B g j : Nat} {s : Stt} (h : RowsT w B s) (hg : g < B) (v : Value) : RowsT (w.setCell ⟨g, j, none⟩ v) B s :=
  h.same (fun q h1 _ _ => Below.heap_setCell w _ v q (by show q ≠ g; omega))
theorem results_rowD {P : Program} {fn : Func} {p : Tmp} {u : Tmp} {ty : TypeId} (h : fn.results = #[.cell p ty, .tmp u]) (tmps : Array Value) (w : World) (g : Nat) (t : TypeId) (cs : Array Value) (fr : Nat × Nat) (d : TypeDesc)
    (hp : tmps.getD p undef = .pointer (some ⟨g, 0, none⟩)) (hg : w.heap[g]? = some (.cells cs t fr))
    (hu : P.underlying ty = some d) (hd : (match d with | .struct _ | .array _ _ => true | _ => false) = true) (hi : (P.info? ty).map (·.size) = some cs.size) :
    (results fn tmps).run P w = .ok (.tuple #[.agg cs, tmps.getD u undef]) w := by
  have hp' : tmps[p]?.getD undef = .pointer (some ⟨g, 0, none⟩) := by simpa using hp
  simp [results, h, hp', asAddr, run_loadVar_row w g t ty cs fr d hg hu hd hi]
theorem results_rowE {P : Program} {fn : Func} {p q : Tmp} {ty ty2 : TypeId} (h : fn.results = #[.cell p ty, .cell q ty2]) (tmps : Array Value) (w : World) (g g2 : Nat) (t t2 : TypeId) (cs cs2 : Array Value) (fr fr2 : Nat × Nat) (d d2 : TypeDesc)
    (hp : tmps.getD p undef = .pointer (some ⟨g, 0, none⟩)) (hg : w.heap[g]? = some (.cells cs t fr))
    (hu : P.underlying ty = some d) (hd : (match d with | .struct _ | .array _ _ => true | _ => false) = true) (hi : (P.info? ty).map (·.size) = some cs.size)
    (hp2 : tmps.getD q undef = .pointer (some ⟨g2, 0, none⟩)) (hg2 : w.heap[g2]? = some (.cells cs2 t2 fr2))
    (hu2 : P.underlying ty2 = some d2) (hd2 : (match d2 with | .struct _ | .array _ _ => true | _ => false) = true) (hi2 : (P.info? ty2).map (·.size) = some cs2.size) :
    (results fn tmps).run P w = .ok (.tuple #[.agg cs, .agg cs2]) w := by
  have hp' : tmps[p]?.getD undef = .pointer (some ⟨g, 0, none⟩) := by simpa using hp
  have hp2' : tmps[q]?.getD undef = .pointer (some ⟨g2, 0, none⟩) := by simpa using hp2
  simp [results, h, hp', hp2', asAddr, run_loadVar_row w g t ty cs fr d hg hu hd hi, run_loadVar_row w g2 t2 ty2 cs2 fr2 d2 hg2 hu2 hd2 hi2]
end Go.Proofs.Ytdcgobngmdhmaad
