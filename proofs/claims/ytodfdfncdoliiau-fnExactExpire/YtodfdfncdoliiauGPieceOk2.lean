/-
  Chapter 4: the specification's PieceOk: one walk for each test that may be the first to fail. Written by tools/piece.gen.py. eqState; the specification's l5Side, StateOk. Written by tools/state6.gen.py. Own work.
-/
import Derived.Test.YtodfdfncdoliiauGPiece22
import Derived.Test.YtodfdfncdoliiauState5
namespace Go.Proofs.Ytodfdfncdoliiau
open Go.ChangeShapes Go.WideShapes Go.ChangeAt Go.RowKit
set_option maxRecDepth 100000

end Go.Proofs.Ytodfdfncdoliiau
namespace Go.Proofs.Ytodfdfncdoliiau
open Go.ChangeShapes Go.WideShapes Go.ChangeAt Go.RowKit
set_option maxRecDepth 100000
set_option linter.unusedVariables false
set_option maxHeartbeats 1000000 in
theorem eqState_same (pa1 pa2 sa1 sa2 : Option Addr) (pb1 pb2 pc1 pc2 sb1 sb2 sc1 sc2 pn sn : Nat) (ps : Nat → Pc) (ss : Nat → Sd) (ac cl : Int) (w : World) (hn : pn ≤ 9223372036854775807) (hn2 : sn ≤ 9223372036854775807)
    (h1 : RdE pcC 13 w pb1 pa1 pn ps) (h2 : RdE pcC 13 w pb2 pa2 pn ps) (g1 : RdE sdC 3 w sb1 sa1 sn ss) (g2 : RdE sdC 3 w sb2 sa2 sn ss) :
    Calls Try.prog 30 #[.agg #[.slice pa1 pn pc1, .slice sa1 sn sc1, .int .i64 ac, .int .i64 cl], .agg #[.slice pa2 pn pc2, .slice sa2 sn sc2, .int .i64 ac, .int .i64 cl]] w fun e w' => e = .returned (.bool true) ∧ Below w.heap.size w w' := by
  have hb0 := ((Below.refl _ w).alloc (Nat.le_refl _) (.cells #[.slice pa1 pn pc1, .slice sa1 sn sc1, .int .i64 ac, .int .i64 cl] 66)).alloc (by simp) (.cells #[.slice pa2 pn pc2, .slice sa2 sn sc2, .int .i64 ac, .int .i64 cl] 66)
  have x1 := (boxR_new w 66 #[.slice pa1 pn pc1, .slice sa1 sn sc1, .int .i64 ac, .int .i64 cl]).alloc (.cells #[.slice pa2 pn pc2, .slice sa2 sn sc2, .int .i64 ac, .int .i64 cl] 66)
  have x2 : BoxR ((w.alloc (.cells #[.slice pa1 pn pc1, .slice sa1 sn sc1, .int .i64 ac, .int .i64 cl] 66)).alloc (.cells #[.slice pa2 pn pc2, .slice sa2 sn sc2, .int .i64 ac, .int .i64 cl] 66)) (w.heap.size + 1) 66 #[.slice pa2 pn pc2, .slice sa2 sn sc2, .int .i64 ac, .int .i64 cl] := heap_alloc2_new _ _ _
  generalize hW : (w.alloc (.cells #[.slice pa1 pn pc1, .slice sa1 sn sc1, .int .i64 ac, .int .i64 cl] 66)).alloc (.cells #[.slice pa2 pn pc2, .slice sa2 sn sc2, .int .i64 ac, .int .i64 cl] 66) = W at hb0 x1 x2
  have a0 := x1.cell 0
  have b0 := x2.cell 0
  simp at a0 b0
  go_enter Try.func30, Try.ntmps30
  go_wp2_with fail
  refine (eqPieceS_same pa1 pa2 pb1 pb2 pn pc1 pc2 ps W hn (h1.grew pcC_ne hb0) (h2.grew pcC_ne hb0)).mono ?_
  rintro e w1 ⟨rfl, hb1⟩
  clear hW a0 b0
  replace x1 := x1.grew hb1
  replace x2 := x2.grew hb1
  replace hb0 := below_app hb0 hb1 hb0.size
  clear hb1
  have a1 := x1.cell 1
  have b1 := x2.cell 1
  simp at a1 b1
  go_wp2_with fail
  refine (eqSideS_same sa1 sa2 sb1 sb2 sn sc1 sc2 ss w1 hn2 (g1.grew sdC_ne hb0) (g2.grew sdC_ne hb0)).mono ?_
  rintro e w2 ⟨rfl, hb1⟩
  clear a1 b1
  replace x1 := x1.grew hb1
  replace x2 := x2.grew hb1
  replace hb0 := below_app hb0 hb1 hb0.size
  clear hb1
  have a2 := x1.cell 2
  have b2 := x2.cell 2
  have a3 := x1.cell 3
  have b3 := x2.cell 3
  simp at a2 b2 a3 b3
  go_wp2
  go_ret
  exact ⟨rfl, hb0⟩
def okSd (s : Sd) : Bool := ib s.li (-2147483647) 2147483647 && ib s.po 0 2147483647
/-- whether the piece at place i is as chapter 5 wants it -/
def pAt (s : Stt) (i : Nat) : Bool := okP (s.ps i) && (decide (i = 0) || decide ((s.ps (i - 1)).id < (s.ps i).id)) && decide ((s.ps i).ow < s.sn) && decide ((s.ps i).si < s.sn) && decide ((s.ps i).st ≤ s.cl)
def hdS (s : Stt) : Bool := decide (s.pn ≤ 8) && ib s.sn 2 3 && ib s.ac 0 (s.sn - 1) && ib s.cl 0 9999
def psS (s : Stt) : Bool := (List.range s.pn).all (pAt s)
def ssS (s : Stt) : Bool := (List.range s.sn).all (fun i => okSd (s.ss i))
/-- whether a state is as chapter 5 wants it -/
def okS (s : Stt) : Bool := hdS s && psS s && ssS s
theorem all_no {n k : Nat} {f : Nat → Bool} (hk : k < n) (h : f k = false) : (List.range n).all f = false := by rw [List.all_eq_false]; exact ⟨k, List.mem_range.2 hk, by simp [h]⟩
theorem all_yes {n : Nat} {f : Nat → Bool} (h : ∀ k, k < n → f k = true) : (List.range n).all f = true := by rw [List.all_eq_true]; exact fun k hk => h k (List.mem_range.1 hk)

theorem okS_hd {s : Stt} (h : hdS s = false) : okS s = false := by unfold okS; rw [h]; rfl
end Go.Proofs.Ytodfdfncdoliiau
