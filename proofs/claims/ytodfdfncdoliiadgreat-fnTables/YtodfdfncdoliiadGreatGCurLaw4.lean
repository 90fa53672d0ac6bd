/-
  What every law over a code begins with: 'big', and the step from the row that came in to a code that can be read. Contracts of the draws of lists of ints (l2List, DrawPacked) and of 'sameInts', which holds two lists against each other. The contract of l1Bend: bytes as they were handed, or with one turned, cut, or one more. The specification's StateOk: its loops. Written by tools/state7.gen.py. Own work.
-/
import Derived.Test.YtodfdfncdoliiadGreatGBytes36
import Derived.Deep.RegionLaw
import Derived.Test.YtodfdfncdoliiadGreatGPieceOk3
namespace Go.Proofs.YtodfdfncdoliiadGreat
open Go.ChangeShapes Go.WideShapes Go.ChangeAt Go.RowKit
set_option maxRecDepth 100000

theorem big_any (a : Option Addr) (len cap : Nat) (w : World) :
    Calls Tryz.prog 6 #[.slice a len cap] w fun e w' => e = .returned (.bool (decide ((1048576 : Int) < (len : Int)))) ∧ w' = w := by
  go_enter Tryz.func6, Tryz.ntmps6
  go_wp2
  go_ret
  exact ⟨rfl, rfl⟩
theorem Code.mono {w : World} {a : Option Addr} {len B B' : Nat} (h : Code w a len B) (h1 : B ≤ B') (h2 : B' ≤ w.heap.size) : Code w a len B' := by
  obtain ⟨x, _, z⟩ := h
  refine ⟨x, h2, ?_⟩
  rcases z with z | ⟨b, off, zs, ha, hb, hc⟩
  · exact .inl z
  · exact .inr ⟨b, off, zs, ha, by omega, hc⟩
/-- the row that came in, in the words of the frame's 'IsRow' -/
theorem code_of_row {w : World} {a : Option Addr} {len cap : Nat} {zs : List Int}
    (h : (a = none ∧ len = 0 ∧ cap = 0 ∧ zs = []) ∨ ∃ x, a = some x ∧ len ≤ cap ∧ cap ≤ maxLen ∧ zs.length = cap ∧ (∀ i, i < zs.length → w.cell? (x.add i) = some (.int .u8 (zs.getD i 0))) ∧ ∀ n ∈ zs, (Lit.int .u8 n).wf = true) :
    Code w a len w.heap.size := by
  rcases h with ⟨rfl, rfl, rfl, rfl⟩ | ⟨x, rfl, hl, hm, hz, hc, hw⟩
  · exact ⟨by omega, Nat.le_refl _, .inl rfl⟩
  · unfold maxLen at hm
    refine ⟨by omega, Nat.le_refl _, ?_⟩
    by_cases h0 : len = 0
    · exact .inl h0
    · obtain ⟨b, off, rfl, hcell⟩ := ints_at hc (by omega)
      have hb : b < w.heap.size := by
        have := hcell 0 (by omega)
        cases hh : w.heap[b]? with
        | none => simp [World.cell?, hh] at this
        | some o => exact (Array.getElem?_eq_some_iff.1 hh).1
      refine .inr ⟨b, off, fun i => zs.getD i 0, rfl, hb, fun i hi => ⟨hcell i (by omega), ?_⟩⟩
      have hi' : i < zs.length := by omega
      have e : zs.getD i 0 = zs[i] := by simp [hi']
      show 0 ≤ zs.getD i 0 ∧ zs.getD i 0 ≤ 255
      rw [e]
      exact bounds_u8 (hw _ (List.getElem_mem hi'))
end Go.Proofs.YtodfdfncdoliiadGreat
namespace Go.Proofs.YtodfdfncdoliiadGreat
open Go.ChangeShapes Go.WideShapes Go.ChangeAt Go.RowKit
set_option maxRecDepth 100000

def I64 (n : Nat) (f : Nat → Int) : Prop := ∀ i, i < n → inI64 (f i)
/-- a list that was drawn -/
def DrawnL (p : Nat) (a : Option Addr) (len cap : Nat) (w : World) (most : Nat) (e : Ending) (w' : World) : Prop :=
  ∃ q c n f, e = .returned (.slice (some ⟨q, 0, none⟩) n c) ∧ n ≤ most ∧ n ≤ c ∧ I64 n f ∧ Own .i64 w' w.heap.size q (some ⟨q, 0, none⟩) n f ∧ Only p w w' ∧ Cur w' p a len cap ∧ w'.ownsRow w.heap.size 3 1 (.slice (some ⟨q, 0, none⟩) n c) n (vals .i64 n f)
end Go.Proofs.YtodfdfncdoliiadGreat
namespace Go.Proofs.YtodfdfncdoliiadGreat
open Go.ChangeShapes Go.WideShapes Go.ChangeAt Go.RowKit
set_option maxRecDepth 100000

/-- a call of a Go function, met by its contract, as one step of a region that draws its order -/
theorem step_call2 {P : Program} {ops : Array Oper} {o : Oper} {a : Act} {w : World} {K : Act → World → Prop} {Q : Exit → Act → World → Prop} {E : Prop} (hgd : o.guard = none) (F : FuncId) (x y : Operand) (t u : TypeId)
    (ho : o.op = .call { callee := .value (.func F), args := #[x, y], argTypes := #[t, u] }) (v v' : Value) (hx : a.eval x = v) (hy : a.eval y = v') (hcf : (callFunc F #[v, v']).run P w = .ok (.enter F #[v, v']) w) {R : Ending → World → Prop} (hc : Calls P F #[v, v'] w R)
    (h : ∀ e w', R e w' → ∃ r, e = .returned r ∧ K (a.put o.dst r) w') : if Region.wanted o (yielded ops a.tmps) = true then Oper.wp P o a w K Q else E := by
  have hw : Region.wanted o (yielded ops a.tmps) = true := by simp [Region.wanted, hgd]
  rw [if_pos hw]
  have hrun : (execOp a.eval o).run P w = .ok (.enter F #[v, v']) w := by
    have hF : a.eval (.func F) = .func (.func F) #[] #[] := rfl
    simp [execOp, ho, resolve, invoke, hx, hy, hF, Deferred.ofValue, hcf]
  unfold Oper.wp
  rw [hrun, Oper.upon_enter]
  refine hc.mono ?_
  intro e w' hR
  obtain ⟨r, rfl, hk⟩ := h e w' hR
  exact hk
theorem below_in (v : Array Value) (w : World) : (callFunc 52 v).run Tryz.prog w = .ok (.enter 52 v) w := by kernel_rfl
theorem xor_rng (a b : Int) : 0 ≤ bits .xor .u8 a b ∧ bits .xor .u8 a b ≤ 255 := by
  have e : bits .xor .u8 a b = IntKind.u8.wrap ((BitVec.ofInt 8 a ^^^ BitVec.ofInt 8 b).toNat : Int) := rfl
  rw [e, IntKind.wrap_u8']
  omega
theorem Own.put0 {k : IntKind} {w : World} {B b : Nat} {n : Nat} {f : Nat → Int} (h : Own k w B b (some ⟨b, 0, none⟩) n f) (j : Nat) (x : Int) : Own k (w.setCell ⟨b, j, none⟩ (.int k x)) B b (some ⟨b, 0, none⟩) n (fun i => if i = j then x else f i) := by
  have := h.put j x
  rwa [Nat.zero_add] at this
theorem U8.put {n : Nat} {f : Nat → Int} (hu : U8 n f) (j : Nat) {x : Int} (hx : 0 ≤ x ∧ x ≤ 255) : U8 n (fun i => if i = j then x else f i) := fun i hi => by
  show 0 ≤ (if i = j then x else f i) ∧ (if i = j then x else f i) ≤ 255
  split
  · exact hx
  · exact hu i hi
theorem U8.less {n m : Nat} {f : Nat → Int} (hu : U8 n f) (h : m ≤ n) : U8 m f := fun i hi => hu i (by omega)
theorem Own.less {k : IntKind} {w : World} {B b : Nat} {a : Option Addr} {n m : Nat} {f : Nat → Int} (h : Own k w B b a n f) (hm : m ≤ n) : Own k w B b a m f := ⟨h.1, h.2.1, h.2.2.1.first hm, h.2.2.2⟩
/-- bytes that were drawn, beside a cursor -/
def Bent (p : Nat) (a : Option Addr) (len cap : Nat) (w : World) (most : Nat) (e : Ending) (w' : World) : Prop :=
  ∃ q c n f, e = .returned (.slice (some ⟨q, 0, none⟩) n c) ∧ n ≤ most ∧ n ≤ c ∧ U8 n f ∧ Own .u8 w' w.heap.size q (some ⟨q, 0, none⟩) n f ∧ Only p w w' ∧ Cur w' p a len cap
end Go.Proofs.YtodfdfncdoliiadGreat
namespace Go.Proofs.YtodfdfncdoliiadGreat
open Go.ChangeShapes Go.WideShapes Go.ChangeAt Go.RowKit
set_option maxRecDepth 100000
set_option linter.unusedVariables false
theorem okS_ps {s : Stt} (h : psS s = false) : okS s = false := by unfold okS; rw [h]; simp
theorem okS_ss {s : Stt} (h : ssS s = false) : okS s = false := by unfold okS; rw [h]; simp
theorem okS_yes {s : Stt} (h0 : hdS s = true) (h1 : psS s = true) (h2 : ssS s = true) : okS s = true := by unfold okS; rw [h0, h1, h2]; rfl
end Go.Proofs.YtodfdfncdoliiadGreat
