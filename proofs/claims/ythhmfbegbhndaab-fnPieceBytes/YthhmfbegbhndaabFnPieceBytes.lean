/-
  What is proved: at every code (every slice of bytes, of whatever length), the law FnPieceBytes answers true: a drawn piece that PutPiece lays behind drawn bytes comes back by GetPiece, and what GetPiece reads of drawn bytes is right, read where the specification reads, its bytes those that PutPiece lays; and the argument reads afterwards as before; no condition.
-/
import Derived.Test.YthhmfbegbhndaabRows
import Derived.Test.YthhmfbegbhndaabSeg
import Derived.Test.YthhmfbegbhndaabRegCut
import Derived.Test.YthhmfbegbhndaabRegTail
import Derived.Test.YthhmfbegbhndaabRegFloat
import Derived.Test.YthhmfbegbhndaabPlan
import Derived.Test.YthhmfbegbhndaabCur
import Derived.Test.YthhmfbegbhndaabCur2
import Derived.Test.YthhmfbegbhndaabCur3
import Derived.Test.YthhmfbegbhndaabCurLaw
import Derived.Test.YthhmfbegbhndaabRow
import Derived.Test.YthhmfbegbhndaabRowLaw
import Derived.Test.YthhmfbegbhndaabRegBelow
import Derived.Test.YthhmfbegbhndaabNum
import Derived.Test.YthhmfbegbhndaabBytes
import Derived.Test.YthhmfbegbhndaabBytes2
import Derived.Test.YthhmfbegbhndaabBytes3
import Derived.Test.YthhmfbegbhndaabList1
import Derived.Test.YthhmfbegbhndaabList2
import Derived.Test.YthhmfbegbhndaabDrawB
import Derived.Test.YthhmfbegbhndaabDrawB2
import Derived.Test.YthhmfbegbhndaabDrawL
import Derived.Test.YthhmfbegbhndaabDrawBend
import Derived.Test.YthhmfbegbhndaabNums
import Derived.Test.YthhmfbegbhndaabPiece
import Derived.Test.YthhmfbegbhndaabPiece2
import Derived.Test.YthhmfbegbhndaabPiece3
import Derived.Test.YthhmfbegbhndaabPieceOk
import Derived.Test.YthhmfbegbhndaabPiece4
import Derived.Test.YthhmfbegbhndaabPiece5
import Derived.Test.YthhmfbegbhndaabPiece6
import Derived.Test.YthhmfbegbhndaabPieceI1
import Derived.Test.YthhmfbegbhndaabPieceI2
import Derived.Test.YthhmfbegbhndaabPieceOkI
import Derived.Test.YthhmfbegbhndaabPieceI4
import Derived.Test.YthhmfbegbhndaabPieceI5
import Derived.Test.YthhmfbegbhndaabDrawP
import Derived.Test.YthhmfbegbhndaabDrawP2
import Derived.Test.YthhmfbegbhndaabPieceBack
import Derived.WalkKit
import Derived.BigQuiet
import Derived.Deep.RegionWith
import Derived.ProofKit
import Derived.OpenShut
import Derived.ShutString
import Derived.ChangeOld
import Derived.Below
namespace Go.Proofs.Ythhmfbegbhndaab.fnPieceBytes
open Go.ChangeShapes Go.WideShapes Go.ChangeAt Go.RowKit
open Go.ChangeMaps (open_string shut_string)
set_option linter.unusedVariables false

theorem own : ownKnob Try.prog.godebug = none := by kernel_rfl
theorem laidOut : laidOutB Try.prog = true := by kernel_rfl

/-- WHAT THE WALK IS TOLD OF A SLICE OF INTEGERS THAT CAME IN: it is nil; or it leads to a row of 'cap' cells, the numbers 'zs' (the first 'len' are its elements, the rest its spare room), each fitting its kind. -/
def IsRow (k : IntKind) (w : World) (a : Option Addr) (len cap : Nat) (zs : List Int) : Prop :=
  (a = none ∧ len = 0 ∧ cap = 0 ∧ zs = []) ∨
  ∃ x, a = some x ∧ len ≤ cap ∧ cap ≤ maxLen ∧ zs.length = cap ∧ (∀ i, i < zs.length → w.cell? (x.add i) = some (.int k (zs.getD i 0))) ∧ ∀ n ∈ zs, (Lit.int k n).wf = true

theorem plan31_5 {P : Program} {Q : Exit → Act → World → Prop} {o0 o1 o2 o3 o4 o5 o6 o7 o8 o9 o10 o11 o12 o13 o14 o15 o16 o17 o18 o19 o20 o21 o22 o23 o24 o25 o26 o27 o28 o29 o30 : Oper} : ∀ a w, (wpList P #[o0, o1, o2, o3, o4, o5, o6, o7, o8, o9, o10, o11, o12, o13, o14, o15, o16, o17, o18, o19, o20, o21, o22, o23, o24, o25, o26, o27, o28, o29, o30] Q [o26, o28, o29, o30]) a w → planN P #[o0, o1, o2, o3, o4, o5, o6, o7, o8, o9, o10, o11, o12, o13, o14, o15, o16, o17, o18, o19, o20, o21, o22, o23, o24, o25, o26, o27, o28, o29, o30] Q [(0, [26, 28, 29, 30])] a w := by
  intro a w h
  show wpList P #[o0, o1, o2, o3, o4, o5, o6, o7, o8, o9, o10, o11, o12, o13, o14, o15, o16, o17, o18, o19, o20, o21, o22, o23, o24, o25, o26, o27, o28, o29, o30] (Exit.then (Q .normal) Q) [o26, o28, o29, o30] a w
  rw [then_self]
  exact h
theorem plan31_4 {P : Program} {Q : Exit → Act → World → Prop} {o0 o1 o2 o3 o4 o5 o6 o7 o8 o9 o10 o11 o12 o13 o14 o15 o16 o17 o18 o19 o20 o21 o22 o23 o24 o25 o26 o27 o28 o29 o30 : Oper} : ∀ a w, (fun a w => TakeP P #[o0, o1, o2, o3, o4, o5, o6, o7, o8, o9, o10, o11, o12, o13, o14, o15, o16, o17, o18, o19, o20, o21, o22, o23, o24, o25, o26, o27, o28, o29, o30] o27 a w (wpList P #[o0, o1, o2, o3, o4, o5, o6, o7, o8, o9, o10, o11, o12, o13, o14, o15, o16, o17, o18, o19, o20, o21, o22, o23, o24, o25, o26, o27, o28, o29, o30] Q [o26, o28, o29, o30])) a w → planN P #[o0, o1, o2, o3, o4, o5, o6, o7, o8, o9, o10, o11, o12, o13, o14, o15, o16, o17, o18, o19, o20, o21, o22, o23, o24, o25, o26, o27, o28, o29, o30] Q [(1, [27]), (0, [26, 28, 29, 30])] a w := by
  rintro a w ⟨v, hy, h⟩ ox hox
  cases (show some o27 = some ox from hox)
  exact ⟨v, hy, plan31_5 _ _ h⟩
theorem plan31_3 {P : Program} {Q : Exit → Act → World → Prop} {o0 o1 o2 o3 o4 o5 o6 o7 o8 o9 o10 o11 o12 o13 o14 o15 o16 o17 o18 o19 o20 o21 o22 o23 o24 o25 o26 o27 o28 o29 o30 : Oper} : ∀ a w, (wpList P #[o0, o1, o2, o3, o4, o5, o6, o7, o8, o9, o10, o11, o12, o13, o14, o15, o16, o17, o18, o19, o20, o21, o22, o23, o24, o25, o26, o27, o28, o29, o30] (Exit.then (fun a w => TakeP P #[o0, o1, o2, o3, o4, o5, o6, o7, o8, o9, o10, o11, o12, o13, o14, o15, o16, o17, o18, o19, o20, o21, o22, o23, o24, o25, o26, o27, o28, o29, o30] o27 a w (wpList P #[o0, o1, o2, o3, o4, o5, o6, o7, o8, o9, o10, o11, o12, o13, o14, o15, o16, o17, o18, o19, o20, o21, o22, o23, o24, o25, o26, o27, o28, o29, o30] Q [o26, o28, o29, o30])) Q) [o12, o17, o18, o19, o20, o21, o22, o23, o24, o25]) a w → planN P #[o0, o1, o2, o3, o4, o5, o6, o7, o8, o9, o10, o11, o12, o13, o14, o15, o16, o17, o18, o19, o20, o21, o22, o23, o24, o25, o26, o27, o28, o29, o30] Q [(0, [12, 17, 18, 19, 20, 21, 22, 23, 24, 25]), (1, [27]), (0, [26, 28, 29, 30])] a w := by
  intro a w h
  show wpList P #[o0, o1, o2, o3, o4, o5, o6, o7, o8, o9, o10, o11, o12, o13, o14, o15, o16, o17, o18, o19, o20, o21, o22, o23, o24, o25, o26, o27, o28, o29, o30] (Exit.then (planN P #[o0, o1, o2, o3, o4, o5, o6, o7, o8, o9, o10, o11, o12, o13, o14, o15, o16, o17, o18, o19, o20, o21, o22, o23, o24, o25, o26, o27, o28, o29, o30] Q [(1, [27]), (0, [26, 28, 29, 30])]) Q) [o12, o17, o18, o19, o20, o21, o22, o23, o24, o25] a w
  exact wpList_thenMono (plan31_4) h
theorem plan31_2 {P : Program} {Q : Exit → Act → World → Prop} {o0 o1 o2 o3 o4 o5 o6 o7 o8 o9 o10 o11 o12 o13 o14 o15 o16 o17 o18 o19 o20 o21 o22 o23 o24 o25 o26 o27 o28 o29 o30 : Oper} : ∀ a w, (fun a w => PairP P #[o0, o1, o2, o3, o4, o5, o6, o7, o8, o9, o10, o11, o12, o13, o14, o15, o16, o17, o18, o19, o20, o21, o22, o23, o24, o25, o26, o27, o28, o29, o30] o10 o11 a w (wpList P #[o0, o1, o2, o3, o4, o5, o6, o7, o8, o9, o10, o11, o12, o13, o14, o15, o16, o17, o18, o19, o20, o21, o22, o23, o24, o25, o26, o27, o28, o29, o30] (Exit.then (fun a w => TakeP P #[o0, o1, o2, o3, o4, o5, o6, o7, o8, o9, o10, o11, o12, o13, o14, o15, o16, o17, o18, o19, o20, o21, o22, o23, o24, o25, o26, o27, o28, o29, o30] o27 a w (wpList P #[o0, o1, o2, o3, o4, o5, o6, o7, o8, o9, o10, o11, o12, o13, o14, o15, o16, o17, o18, o19, o20, o21, o22, o23, o24, o25, o26, o27, o28, o29, o30] Q [o26, o28, o29, o30])) Q) [o12, o17, o18, o19, o20, o21, o22, o23, o24, o25])) a w → planN P #[o0, o1, o2, o3, o4, o5, o6, o7, o8, o9, o10, o11, o12, o13, o14, o15, o16, o17, o18, o19, o20, o21, o22, o23, o24, o25, o26, o27, o28, o29, o30] Q [(2, [10, 11]), (0, [12, 17, 18, 19, 20, 21, 22, 23, 24, 25]), (1, [27]), (0, [26, 28, 29, 30])] a w := by
  intro a w h oi oj hoi hoj
  cases (show some o10 = some oi from hoi)
  cases (show some o11 = some oj from hoj)
  rcases h with ⟨vi, vj, wi, h1, h2, h3, h4, h5, h6⟩ | ⟨h1, h2, h3⟩
  · exact .inl ⟨vi, vj, wi, h1, h2, h3, h4, h5, plan31_3 _ _ h6⟩
  · exact .inr ⟨h1, h2, plan31_3 _ _ h3⟩
theorem plan31_1 {P : Program} {Q : Exit → Act → World → Prop} {o0 o1 o2 o3 o4 o5 o6 o7 o8 o9 o10 o11 o12 o13 o14 o15 o16 o17 o18 o19 o20 o21 o22 o23 o24 o25 o26 o27 o28 o29 o30 : Oper} : ∀ a w, (fun a w => TakeP P #[o0, o1, o2, o3, o4, o5, o6, o7, o8, o9, o10, o11, o12, o13, o14, o15, o16, o17, o18, o19, o20, o21, o22, o23, o24, o25, o26, o27, o28, o29, o30] o16 a w (fun a w => PairP P #[o0, o1, o2, o3, o4, o5, o6, o7, o8, o9, o10, o11, o12, o13, o14, o15, o16, o17, o18, o19, o20, o21, o22, o23, o24, o25, o26, o27, o28, o29, o30] o10 o11 a w (wpList P #[o0, o1, o2, o3, o4, o5, o6, o7, o8, o9, o10, o11, o12, o13, o14, o15, o16, o17, o18, o19, o20, o21, o22, o23, o24, o25, o26, o27, o28, o29, o30] (Exit.then (fun a w => TakeP P #[o0, o1, o2, o3, o4, o5, o6, o7, o8, o9, o10, o11, o12, o13, o14, o15, o16, o17, o18, o19, o20, o21, o22, o23, o24, o25, o26, o27, o28, o29, o30] o27 a w (wpList P #[o0, o1, o2, o3, o4, o5, o6, o7, o8, o9, o10, o11, o12, o13, o14, o15, o16, o17, o18, o19, o20, o21, o22, o23, o24, o25, o26, o27, o28, o29, o30] Q [o26, o28, o29, o30])) Q) [o12, o17, o18, o19, o20, o21, o22, o23, o24, o25]))) a w → planN P #[o0, o1, o2, o3, o4, o5, o6, o7, o8, o9, o10, o11, o12, o13, o14, o15, o16, o17, o18, o19, o20, o21, o22, o23, o24, o25, o26, o27, o28, o29, o30] Q [(1, [16]), (2, [10, 11]), (0, [12, 17, 18, 19, 20, 21, 22, 23, 24, 25]), (1, [27]), (0, [26, 28, 29, 30])] a w := by
  rintro a w ⟨v, hy, h⟩ ox hox
  cases (show some o16 = some ox from hox)
  exact ⟨v, hy, plan31_2 _ _ h⟩
theorem plan31_0 {P : Program} {Q : Exit → Act → World → Prop} {o0 o1 o2 o3 o4 o5 o6 o7 o8 o9 o10 o11 o12 o13 o14 o15 o16 o17 o18 o19 o20 o21 o22 o23 o24 o25 o26 o27 o28 o29 o30 : Oper} : ∀ a w, (wpList P #[o0, o1, o2, o3, o4, o5, o6, o7, o8, o9, o10, o11, o12, o13, o14, o15, o16, o17, o18, o19, o20, o21, o22, o23, o24, o25, o26, o27, o28, o29, o30] (Exit.then (fun a w => TakeP P #[o0, o1, o2, o3, o4, o5, o6, o7, o8, o9, o10, o11, o12, o13, o14, o15, o16, o17, o18, o19, o20, o21, o22, o23, o24, o25, o26, o27, o28, o29, o30] o16 a w (fun a w => PairP P #[o0, o1, o2, o3, o4, o5, o6, o7, o8, o9, o10, o11, o12, o13, o14, o15, o16, o17, o18, o19, o20, o21, o22, o23, o24, o25, o26, o27, o28, o29, o30] o10 o11 a w (wpList P #[o0, o1, o2, o3, o4, o5, o6, o7, o8, o9, o10, o11, o12, o13, o14, o15, o16, o17, o18, o19, o20, o21, o22, o23, o24, o25, o26, o27, o28, o29, o30] (Exit.then (fun a w => TakeP P #[o0, o1, o2, o3, o4, o5, o6, o7, o8, o9, o10, o11, o12, o13, o14, o15, o16, o17, o18, o19, o20, o21, o22, o23, o24, o25, o26, o27, o28, o29, o30] o27 a w (wpList P #[o0, o1, o2, o3, o4, o5, o6, o7, o8, o9, o10, o11, o12, o13, o14, o15, o16, o17, o18, o19, o20, o21, o22, o23, o24, o25, o26, o27, o28, o29, o30] Q [o26, o28, o29, o30])) Q) [o12, o17, o18, o19, o20, o21, o22, o23, o24, o25]))) Q) [o0, o1, o2, o3, o4, o5, o6, o7, o8, o9, o13, o14, o15]) a w → planN P #[o0, o1, o2, o3, o4, o5, o6, o7, o8, o9, o10, o11, o12, o13, o14, o15, o16, o17, o18, o19, o20, o21, o22, o23, o24, o25, o26, o27, o28, o29, o30] Q [(0, [0, 1, 2, 3, 4, 5, 6, 7, 8, 9, 13, 14, 15]), (1, [16]), (2, [10, 11]), (0, [12, 17, 18, 19, 20, 21, 22, 23, 24, 25]), (1, [27]), (0, [26, 28, 29, 30])] a w := by
  intro a w h
  show wpList P #[o0, o1, o2, o3, o4, o5, o6, o7, o8, o9, o10, o11, o12, o13, o14, o15, o16, o17, o18, o19, o20, o21, o22, o23, o24, o25, o26, o27, o28, o29, o30] (Exit.then (planN P #[o0, o1, o2, o3, o4, o5, o6, o7, o8, o9, o10, o11, o12, o13, o14, o15, o16, o17, o18, o19, o20, o21, o22, o23, o24, o25, o26, o27, o28, o29, o30] Q [(1, [16]), (2, [10, 11]), (0, [12, 17, 18, 19, 20, 21, 22, 23, 24, 25]), (1, [27]), (0, [26, 28, 29, 30])]) Q) [o0, o1, o2, o3, o4, o5, o6, o7, o8, o9, o13, o14, o15] a w
  exact wpList_thenMono (plan31_1) h
theorem plan31 {P : Program} {Q : Exit → Act → World → Prop} {o0 o1 o2 o3 o4 o5 o6 o7 o8 o9 o10 o11 o12 o13 o14 o15 o16 o17 o18 o19 o20 o21 o22 o23 o24 o25 o26 o27 o28 o29 o30 : Oper} {id : Nat} {a : Act} {w : World} (hm : P.follows .mixedOrders = true) (hs : Region.noSelect #[o0, o1, o2, o3, o4, o5, o6, o7, o8, o9, o10, o11, o12, o13, o14, o15, o16, o17, o18, o19, o20, o21, o22, o23, o24, o25, o26, o27, o28, o29, o30] = true) (hB : planB #[o0, o1, o2, o3, o4, o5, o6, o7, o8, o9, o10, o11, o12, o13, o14, o15, o16, o17, o18, o19, o20, o21, o22, o23, o24, o25, o26, o27, o28, o29, o30] [(0, [0, 1, 2, 3, 4, 5, 6, 7, 8, 9, 13, 14, 15]), (1, [16]), (2, [10, 11]), (0, [12, 17, 18, 19, 20, 21, 22, 23, 24, 25]), (1, [27]), (0, [26, 28, 29, 30])] (Array.replicate 31 false) = true) (hQ : ∀ c (d : Option Tmp) v a w, Q (.panic c) (a.put d v) w → Q (.panic c) a w)
    (h : (wpList P #[o0, o1, o2, o3, o4, o5, o6, o7, o8, o9, o10, o11, o12, o13, o14, o15, o16, o17, o18, o19, o20, o21, o22, o23, o24, o25, o26, o27, o28, o29, o30] (Exit.then (fun a w => TakeP P #[o0, o1, o2, o3, o4, o5, o6, o7, o8, o9, o10, o11, o12, o13, o14, o15, o16, o17, o18, o19, o20, o21, o22, o23, o24, o25, o26, o27, o28, o29, o30] o16 a w (fun a w => PairP P #[o0, o1, o2, o3, o4, o5, o6, o7, o8, o9, o10, o11, o12, o13, o14, o15, o16, o17, o18, o19, o20, o21, o22, o23, o24, o25, o26, o27, o28, o29, o30] o10 o11 a w (wpList P #[o0, o1, o2, o3, o4, o5, o6, o7, o8, o9, o10, o11, o12, o13, o14, o15, o16, o17, o18, o19, o20, o21, o22, o23, o24, o25, o26, o27, o28, o29, o30] (Exit.then (fun a w => TakeP P #[o0, o1, o2, o3, o4, o5, o6, o7, o8, o9, o10, o11, o12, o13, o14, o15, o16, o17, o18, o19, o20, o21, o22, o23, o24, o25, o26, o27, o28, o29, o30] o27 a w (wpList P #[o0, o1, o2, o3, o4, o5, o6, o7, o8, o9, o10, o11, o12, o13, o14, o15, o16, o17, o18, o19, o20, o21, o22, o23, o24, o25, o26, o27, o28, o29, o30] Q [o26, o28, o29, o30])) Q) [o12, o17, o18, o19, o20, o21, o22, o23, o24, o25]))) Q) [o0, o1, o2, o3, o4, o5, o6, o7, o8, o9, o13, o14, o15]) a w.drew) : (Code.region id #[o0, o1, o2, o3, o4, o5, o6, o7, o8, o9, o10, o11, o12, o13, o14, o15, o16, o17, o18, o19, o20, o21, o22, o23, o24, o25, o26, o27, o28, o29, o30] true).wp P Q a w := wp_region_plan [(0, [0, 1, 2, 3, 4, 5, 6, 7, 8, 9, 13, 14, 15]), (1, [16]), (2, [10, 11]), (0, [12, 17, 18, 19, 20, 21, 22, 23, 24, 25]), (1, [27]), (0, [26, 28, 29, 30])] hm hs hB rfl hQ (plan31_0 _ _ h)
set_option maxRecDepth 100000
set_option maxHeartbeats 8000000 in
theorem walk (a0 : Option Addr) (len0 cap0 : Nat) (z0 : List Int) (w : World) (w0 : IsRow .u8 w a0 len0 cap0 z0) :
    Calls Try.prog 5 #[.slice a0 len0 cap0] w fun e w' => e = .returned (.bool true) ∧ Below w.heap.size w w' := by
  have hc : Code w a0 len0 w.heap.size := code_of_row w0
  clear w0
  by_cases hbig : (1048576 : Int) < (len0 : Int)
  · go_enter Try.func5, Try.ntmps5
    go_wp2_with (go_at_call 6; refine (big_any _ _ _ _).mono ?_; rintro e w' ⟨rfl, rfl⟩)
    go_ret
    exact ⟨rfl, Below.refl _ _⟩
  · go_enter Try.func5, Try.ntmps5
    go_wp2_with fail
    refine (big_any _ _ _ _).mono ?_
    rintro e w' ⟨rfl, rfl⟩
    go_wp2_with fail
    refine (drawPutPiece_any _ _ _ _ hc).mono ?_
    rintro e u1 ⟨q1, m, c1, f1, p, rfl, hm, hcp1, hu1, o1, hB⟩
    have hnew : (u1.alloc (.cells #[.int .i64 0, .int .i64 0, .int .i64 0, .int .i64 0, .int .i64 0, .int .i64 0, .int .i64 0, .int .i64 0, .int .i64 0, .int .i64 0, .int .i64 0, .bool false, .bool false] 31)).heap[u1.heap.size]? = some (.cells #[.int .i64 0, .int .i64 0, .int .i64 0, .int .i64 0, .int .i64 0, .int .i64 0, .int .i64 0, .int .i64 0, .int .i64 0, .int .i64 0, .int .i64 0, .bool false, .bool false] 31 (0, 0)) := heap_alloc_new u1 _
    have b4 : BoxP ((u1.alloc (.cells #[.int .i64 0, .int .i64 0, .int .i64 0, .int .i64 0, .int .i64 0, .int .i64 0, .int .i64 0, .int .i64 0, .int .i64 0, .int .i64 0, .int .i64 0, .bool false, .bool false] 31)).setRow u1.heap.size #[.int .i64 p.id, .int .i64 p.ow, .int .i64 p.si, .int .i64 p.zo, .int .i64 p.st, .int .i64 p.po, .int .i64 p.to, .int .i64 p.tr, .int .i64 p.pl, .int .i64 p.mi, .int .i64 p.ma, .bool p.de, .bool p.be]) u1.heap.size 31 p := setRow_heap _ _ _ _ _ _ hnew
    have hb : Below u1.heap.size u1 ((u1.alloc (.cells #[.int .i64 0, .int .i64 0, .int .i64 0, .int .i64 0, .int .i64 0, .int .i64 0, .int .i64 0, .int .i64 0, .int .i64 0, .int .i64 0, .int .i64 0, .bool false, .bool false] 31)).setRow u1.heap.size #[.int .i64 p.id, .int .i64 p.ow, .int .i64 p.si, .int .i64 p.zo, .int .i64 p.st, .int .i64 p.po, .int .i64 p.to, .int .i64 p.tr, .int .i64 p.pl, .int .i64 p.mi, .int .i64 p.ma, .bool p.de, .bool p.be]) := below_setRow (below_new _ _) (Nat.le_refl _) _
    have hbx := hb
    have o1' := o1.grew hb
    have hB' := below_app hB hb hB.size
    clear o1 hB hb
    go_wp2_with (refine wpList_store_row rfl 31 (.tmp 4) _ rfl u1.heap.size #[.int .i64 p.id, .int .i64 p.ow, .int .i64 p.si, .int .i64 p.zo, .int .i64 p.st, .int .i64 p.po, .int .i64 p.to, .int .i64 p.tr, .int .i64 p.pl, .int .i64 p.mi, .int .i64 p.ma, .bool p.de, .bool p.be] (by rfl) (by rfl) _ _ hnew (by kernel_rfl) (by rfl) (by simp [Value.oneCell']) ?_; generalize (u1.alloc (.cells #[.int .i64 0, .int .i64 0, .int .i64 0, .int .i64 0, .int .i64 0, .int .i64 0, .int .i64 0, .int .i64 0, .int .i64 0, .int .i64 0, .int .i64 0, .bool false, .bool false] 31)).setRow u1.heap.size #[.int .i64 p.id, .int .i64 p.ow, .int .i64 p.si, .int .i64 p.zo, .int .i64 p.st, .int .i64 p.po, .int .i64 p.to, .int .i64 p.tr, .int .i64 p.pl, .int .i64 p.mi, .int .i64 p.ma, .bool p.de, .bool p.be] = V4 at b4 hB' hbx o1' ⊢; have o1 := o1'; have hB := hB'; clear hnew hbx hB' o1'; obtain ⟨k0, k1, k2, k3, k4, k5, k6, k7, k8, k9, k10, k11, k12⟩ : Cells13 _ _ _ := b4.cells)
    refine (implPutPiece_cap _ q1 m c1 f1 p _ (by omega) o1.rd).mono ?_
    rintro e u2 ⟨q2, c2, rfl, hcp2, hb, o2⟩
    clear k0 k1 k2 k3 k4 k5 k6 k7 k8 k9 k10 k11 k12
    replace o1 := o1.grew hb
    replace b4 := b4.grew hb
    replace hB := below_app hB hb hB.size
    clear hb
    have hpn := ppN_le m p
    have huP : U8 (ppN m p) (ppF m f1 p) := U8.pp p hu1
    cases hok : okP p with
    | false =>
      have HN : Hid (ppN m p = m ∧ ppF m f1 p = f1) := by constructor <;> simp [ppN, ppF, hok]
      rw [HN.out.1, HN.out.2] at o2
      rw [HN.out.1] at hcp2 ⊢
      clear huP
      go_wp2_with fail
      refine (implGetPiece_any _ q2 m c2 (m : Int) f1 _ (by omega) hcp2 (by omega) hu1 o2.rd).mono ?_
      rintro e u3 ⟨rfl, hb⟩
      replace o1 := o1.grew hb
      replace b4 := b4.grew hb
      replace o2 := o2.grew hb
      replace hB := below_app hB hb hB.size
      clear hb
      generalize gpP m f1 (m : Int) = pz
      generalize gpX m f1 (m : Int) = xz
      generalize gpOk m f1 (m : Int) = kz
      have hnew : (u3.alloc (.cells #[.int .i64 0, .int .i64 0, .int .i64 0, .int .i64 0, .int .i64 0, .int .i64 0, .int .i64 0, .int .i64 0, .int .i64 0, .int .i64 0, .int .i64 0, .bool false, .bool false] 31)).heap[u3.heap.size]? = some (.cells #[.int .i64 0, .int .i64 0, .int .i64 0, .int .i64 0, .int .i64 0, .int .i64 0, .int .i64 0, .int .i64 0, .int .i64 0, .int .i64 0, .int .i64 0, .bool false, .bool false] 31 (0, 0)) := heap_alloc_new u3 _
      have b6 : BoxP ((u3.alloc (.cells #[.int .i64 0, .int .i64 0, .int .i64 0, .int .i64 0, .int .i64 0, .int .i64 0, .int .i64 0, .int .i64 0, .int .i64 0, .int .i64 0, .int .i64 0, .bool false, .bool false] 31)).setRow u3.heap.size #[.int .i64 pz.id, .int .i64 pz.ow, .int .i64 pz.si, .int .i64 pz.zo, .int .i64 pz.st, .int .i64 pz.po, .int .i64 pz.to, .int .i64 pz.tr, .int .i64 pz.pl, .int .i64 pz.mi, .int .i64 pz.ma, .bool pz.de, .bool pz.be]) u3.heap.size 31 pz := setRow_heap _ _ _ _ _ _ hnew
      have hb : Below u3.heap.size u3 ((u3.alloc (.cells #[.int .i64 0, .int .i64 0, .int .i64 0, .int .i64 0, .int .i64 0, .int .i64 0, .int .i64 0, .int .i64 0, .int .i64 0, .int .i64 0, .int .i64 0, .bool false, .bool false] 31)).setRow u3.heap.size #[.int .i64 pz.id, .int .i64 pz.ow, .int .i64 pz.si, .int .i64 pz.zo, .int .i64 pz.st, .int .i64 pz.po, .int .i64 pz.to, .int .i64 pz.tr, .int .i64 pz.pl, .int .i64 pz.mi, .int .i64 pz.ma, .bool pz.de, .bool pz.be]) := below_setRow (below_new _ _) (Nat.le_refl _) _
      have hbx := hb
      have o1' := o1.grew hb
      have b4' := b4.grew hb
      have o2' := o2.grew hb
      have hB' := below_app hB hb hB.size
      clear o1 b4 o2 hB hb
      go_wp2_with (refine wpList_store_row rfl 31 (.tmp 6) _ rfl u3.heap.size #[.int .i64 pz.id, .int .i64 pz.ow, .int .i64 pz.si, .int .i64 pz.zo, .int .i64 pz.st, .int .i64 pz.po, .int .i64 pz.to, .int .i64 pz.tr, .int .i64 pz.pl, .int .i64 pz.mi, .int .i64 pz.ma, .bool pz.de, .bool pz.be] (by rfl) (by rfl) _ _ hnew (by kernel_rfl) (by rfl) (by simp [Value.oneCell']) ?_; generalize (u3.alloc (.cells #[.int .i64 0, .int .i64 0, .int .i64 0, .int .i64 0, .int .i64 0, .int .i64 0, .int .i64 0, .int .i64 0, .int .i64 0, .int .i64 0, .int .i64 0, .bool false, .bool false] 31)).setRow u3.heap.size #[.int .i64 pz.id, .int .i64 pz.ow, .int .i64 pz.si, .int .i64 pz.zo, .int .i64 pz.st, .int .i64 pz.po, .int .i64 pz.to, .int .i64 pz.tr, .int .i64 pz.pl, .int .i64 pz.mi, .int .i64 pz.ma, .bool pz.de, .bool pz.be] = V6 at b6 hB' hbx o1' b4' o2' ⊢; have o1 := o1'; have b4 := b4'; have o2 := o2'; have hB := hB'; clear hnew hbx hB' o1' b4' o2')
      refine (drawGetPiece_any _ _ _ _ ((hc.below hB).mono hB.size (Nat.le_refl _))).mono ?_
      rintro e u4 ⟨q4, n, c4, f4, at', rfl, ha, hn, hcp4, hu4, o4, hb⟩
      replace o1 := o1.grew hb
      replace b4 := b4.grew hb
      replace o2 := o2.grew hb
      replace b6 := b6.grew hb
      replace hB := below_app hB hb hB.size
      clear hb
      cases hgk : gpOk n f4 at' with
      | false =>
        go_wp2_with fail
        refine (implGetPiece_no _ q4 n c4 at' f4 _ (by omega) hcp4 ha hu4 o4.rd hgk).mono ?_
        rintro e u5 ⟨rfl, hb⟩
        replace o1 := o1.grew hb
        replace b4 := b4.grew hb
        replace o2 := o2.grew hb
        replace b6 := b6.grew hb
        replace o4 := o4.grew hb
        replace hB := below_app hB hb hB.size
        clear hb
        have hnew : (u5.alloc (.cells #[.int .i64 0, .int .i64 0, .int .i64 0, .int .i64 0, .int .i64 0, .int .i64 0, .int .i64 0, .int .i64 0, .int .i64 0, .int .i64 0, .int .i64 0, .bool false, .bool false] 31)).heap[u5.heap.size]? = some (.cells #[.int .i64 0, .int .i64 0, .int .i64 0, .int .i64 0, .int .i64 0, .int .i64 0, .int .i64 0, .int .i64 0, .int .i64 0, .int .i64 0, .int .i64 0, .bool false, .bool false] 31 (0, 0)) := heap_alloc_new u5 _
        have b11 : BoxP ((u5.alloc (.cells #[.int .i64 0, .int .i64 0, .int .i64 0, .int .i64 0, .int .i64 0, .int .i64 0, .int .i64 0, .int .i64 0, .int .i64 0, .int .i64 0, .int .i64 0, .bool false, .bool false] 31)).setRow u5.heap.size #[.int .i64 0, .int .i64 0, .int .i64 0, .int .i64 0, .int .i64 0, .int .i64 0, .int .i64 0, .int .i64 0, .int .i64 0, .int .i64 0, .int .i64 0, .bool false, .bool false]) u5.heap.size 31 zeroP := setRow_heap _ _ _ _ _ _ hnew
        have hb : Below u5.heap.size u5 ((u5.alloc (.cells #[.int .i64 0, .int .i64 0, .int .i64 0, .int .i64 0, .int .i64 0, .int .i64 0, .int .i64 0, .int .i64 0, .int .i64 0, .int .i64 0, .int .i64 0, .bool false, .bool false] 31)).setRow u5.heap.size #[.int .i64 0, .int .i64 0, .int .i64 0, .int .i64 0, .int .i64 0, .int .i64 0, .int .i64 0, .int .i64 0, .int .i64 0, .int .i64 0, .int .i64 0, .bool false, .bool false]) := below_setRow (below_new _ _) (Nat.le_refl _) _
        have hbx := hb
        have o1' := o1.grew hb
        have b4' := b4.grew hb
        have o2' := o2.grew hb
        have b6' := b6.grew hb
        have o4' := o4.grew hb
        have hB' := below_app hB hb hB.size
        clear o1 b4 o2 b6 o4 hB hb
        go_wp2_with (refine wpList_store_row rfl 31 (.tmp 11) _ rfl u5.heap.size #[.int .i64 0, .int .i64 0, .int .i64 0, .int .i64 0, .int .i64 0, .int .i64 0, .int .i64 0, .int .i64 0, .int .i64 0, .int .i64 0, .int .i64 0, .bool false, .bool false] (by rfl) (by rfl) _ _ hnew (by kernel_rfl) (by rfl) (by simp [Value.oneCell']) ?_; generalize (u5.alloc (.cells #[.int .i64 0, .int .i64 0, .int .i64 0, .int .i64 0, .int .i64 0, .int .i64 0, .int .i64 0, .int .i64 0, .int .i64 0, .int .i64 0, .int .i64 0, .bool false, .bool false] 31)).setRow u5.heap.size #[.int .i64 0, .int .i64 0, .int .i64 0, .int .i64 0, .int .i64 0, .int .i64 0, .int .i64 0, .int .i64 0, .int .i64 0, .int .i64 0, .int .i64 0, .bool false, .bool false] = V11 at b11 hB' hbx o1' b4' o2' b6' o4' ⊢; have o1 := o1'; have b4 := b4'; have o2 := o2'; have b6 := b6'; have o4 := o4'; have hB := hB'; clear hnew hbx hB' o1' b4' o2' b6' o4')
        refine (specGetPiece_ok _ q4 n c4 at' f4 _ (by omega) hu4 o4.rd hgk).mono ?_
        rintro e u6 ⟨ps, xs, rfl, hb⟩
        replace o1 := o1.grew hb
        replace b4 := b4.grew hb
        replace o2 := o2.grew hb
        replace b6 := b6.grew hb
        replace o4 := o4.grew hb
        replace b11 := b11.grew hb
        replace hB := below_app hB hb hB.size
        clear hb
        have hnew : (u6.alloc (.cells #[.int .i64 0, .int .i64 0, .int .i64 0, .int .i64 0, .int .i64 0, .int .i64 0, .int .i64 0, .int .i64 0, .int .i64 0, .int .i64 0, .int .i64 0, .bool false, .bool false] 31)).heap[u6.heap.size]? = some (.cells #[.int .i64 0, .int .i64 0, .int .i64 0, .int .i64 0, .int .i64 0, .int .i64 0, .int .i64 0, .int .i64 0, .int .i64 0, .int .i64 0, .int .i64 0, .bool false, .bool false] 31 (0, 0)) := heap_alloc_new u6 _
        have b14 : BoxP ((u6.alloc (.cells #[.int .i64 0, .int .i64 0, .int .i64 0, .int .i64 0, .int .i64 0, .int .i64 0, .int .i64 0, .int .i64 0, .int .i64 0, .int .i64 0, .int .i64 0, .bool false, .bool false] 31)).setRow u6.heap.size #[.int .i64 ps.id, .int .i64 ps.ow, .int .i64 ps.si, .int .i64 ps.zo, .int .i64 ps.st, .int .i64 ps.po, .int .i64 ps.to, .int .i64 ps.tr, .int .i64 ps.pl, .int .i64 ps.mi, .int .i64 ps.ma, .bool ps.de, .bool ps.be]) u6.heap.size 31 ps := setRow_heap _ _ _ _ _ _ hnew
        have hb : Below u6.heap.size u6 ((u6.alloc (.cells #[.int .i64 0, .int .i64 0, .int .i64 0, .int .i64 0, .int .i64 0, .int .i64 0, .int .i64 0, .int .i64 0, .int .i64 0, .int .i64 0, .int .i64 0, .bool false, .bool false] 31)).setRow u6.heap.size #[.int .i64 ps.id, .int .i64 ps.ow, .int .i64 ps.si, .int .i64 ps.zo, .int .i64 ps.st, .int .i64 ps.po, .int .i64 ps.to, .int .i64 ps.tr, .int .i64 ps.pl, .int .i64 ps.mi, .int .i64 ps.ma, .bool ps.de, .bool ps.be]) := below_setRow (below_new _ _) (Nat.le_refl _) _
        have hbx := hb
        have o1' := o1.grew hb
        have b4' := b4.grew hb
        have o2' := o2.grew hb
        have b6' := b6.grew hb
        have o4' := o4.grew hb
        have b11' := b11.grew hb
        have hB' := below_app hB hb hB.size
        clear o1 b4 o2 b6 o4 b11 hB hb
        go_wp2_with (refine wpList_store_row rfl 31 (.tmp 14) _ rfl u6.heap.size #[.int .i64 ps.id, .int .i64 ps.ow, .int .i64 ps.si, .int .i64 ps.zo, .int .i64 ps.st, .int .i64 ps.po, .int .i64 ps.to, .int .i64 ps.tr, .int .i64 ps.pl, .int .i64 ps.mi, .int .i64 ps.ma, .bool ps.de, .bool ps.be] (by rfl) (by rfl) _ _ hnew (by kernel_rfl) (by rfl) (by simp [Value.oneCell']) ?_; generalize (u6.alloc (.cells #[.int .i64 0, .int .i64 0, .int .i64 0, .int .i64 0, .int .i64 0, .int .i64 0, .int .i64 0, .int .i64 0, .int .i64 0, .int .i64 0, .int .i64 0, .bool false, .bool false] 31)).setRow u6.heap.size #[.int .i64 ps.id, .int .i64 ps.ow, .int .i64 ps.si, .int .i64 ps.zo, .int .i64 ps.st, .int .i64 ps.po, .int .i64 ps.to, .int .i64 ps.tr, .int .i64 ps.pl, .int .i64 ps.mi, .int .i64 ps.ma, .bool ps.de, .bool ps.be] = V14 at b14 hB' hbx o1' b4' o2' b6' o4' b11' ⊢; have o1 := o1'; have b4 := b4'; have o2 := o2'; have b6 := b6'; have o4 := o4'; have b11 := b11'; have hB := hB'; clear hnew hbx hB' o1' b4' o2' b6' o4' b11')
        clear b14
        try simp only [Act.put]
        have k0 : V14.cell? ⟨u5.heap.size, 0, none⟩ = some (.int .i64 0) := b11.cells.1
        have k1 : V14.cell? ⟨u5.heap.size, 1, none⟩ = some (.int .i64 0) := b11.cells.2.1
        have k2 : V14.cell? ⟨u5.heap.size, 2, none⟩ = some (.int .i64 0) := b11.cells.2.2.1
        have k3 : V14.cell? ⟨u5.heap.size, 3, none⟩ = some (.int .i64 0) := b11.cells.2.2.2.1
        have k4 : V14.cell? ⟨u5.heap.size, 4, none⟩ = some (.int .i64 0) := b11.cells.2.2.2.2.1
        have k5 : V14.cell? ⟨u5.heap.size, 5, none⟩ = some (.int .i64 0) := b11.cells.2.2.2.2.2.1
        have k6 : V14.cell? ⟨u5.heap.size, 6, none⟩ = some (.int .i64 0) := b11.cells.2.2.2.2.2.2.1
        have k7 : V14.cell? ⟨u5.heap.size, 7, none⟩ = some (.int .i64 0) := b11.cells.2.2.2.2.2.2.2.1
        have k8 : V14.cell? ⟨u5.heap.size, 8, none⟩ = some (.int .i64 0) := b11.cells.2.2.2.2.2.2.2.2.1
        have k9 : V14.cell? ⟨u5.heap.size, 9, none⟩ = some (.int .i64 0) := b11.cells.2.2.2.2.2.2.2.2.2.1
        have k10 : V14.cell? ⟨u5.heap.size, 10, none⟩ = some (.int .i64 0) := b11.cells.2.2.2.2.2.2.2.2.2.2.1
        have k11 : V14.cell? ⟨u5.heap.size, 11, none⟩ = some (.bool false) := b11.cells.2.2.2.2.2.2.2.2.2.2.2.1
        have k12 : V14.cell? ⟨u5.heap.size, 12, none⟩ = some (.bool false) := b11.cells.2.2.2.2.2.2.2.2.2.2.2.2
        go_big_quiet (fail)
        clear k0 k1 k2 k3 k4 k5 k6 k7 k8 k9 k10 k11 k12
        replace hB := below_drewN hB nq
        have hbq : Below V14.heap.size V14 (V14.drewN nq) := below_drewN (Below.refl _ _) nq
        replace o1 := o1.grew hbq
        replace o2 := o2.grew hbq
        replace b4 := b4.grew hbq
        replace b6 := b6.grew hbq
        generalize V14.drewN nq = u7 at hB o1 o2 b4 b6 ⊢
        clear hbq b11 o4
        obtain ⟨k0, k1, k2, k3, k4, k5, k6, k7, k8, k9, k10, k11, k12⟩ : Cells13 _ _ _ := b4.cells
        go_wp2_with fail
        refine (implPieceOk_any p _).mono ?_
        rintro e v8 ⟨rfl, hb⟩
        clear k0 k1 k2 k3 k4 k5 k6 k7 k8 k9 k10 k11 k12
        replace o1 := o1.grew hb
        replace o2 := o2.grew hb
        replace b4 := b4.grew hb
        replace b6 := b6.grew hb
        replace hB := below_app hB hb hB.size
        clear hb
        rw [hok]
        clear b4 b6
        go_wp2_with fail
        refine (same_any _ _ q2 q1 m _ _ f1 _ o2.rd o1.rd).mono ?_
        rintro e v9 ⟨rfl, hu9⟩
        rw [hu9]
        clear hu9
        go_wp2
        go_ret
        exact ⟨rfl, hB⟩
      | true =>
        obtain ⟨i, rfl, hi52, hokr, henc⟩ := gp_fwd hu4 hgk
        have HE : Hid (∀ j, j < 52 → encM (pcl (rawP n f4 i)) j = f4 (i + j)) := henc
        clear henc
        go_wp2_with fail
        refine (implGetPiece_yes _ q4 n c4 i f4 _ (by omega) hcp4 ha hu4 o4.rd hgk).mono ?_
        rintro e u5 ⟨rfl, hb⟩
        replace o1 := o1.grew hb
        replace b4 := b4.grew hb
        replace o2 := o2.grew hb
        replace b6 := b6.grew hb
        replace o4 := o4.grew hb
        replace hB := below_app hB hb hB.size
        clear hb
        have hnew : (u5.alloc (.cells #[.int .i64 0, .int .i64 0, .int .i64 0, .int .i64 0, .int .i64 0, .int .i64 0, .int .i64 0, .int .i64 0, .int .i64 0, .int .i64 0, .int .i64 0, .bool false, .bool false] 31)).heap[u5.heap.size]? = some (.cells #[.int .i64 0, .int .i64 0, .int .i64 0, .int .i64 0, .int .i64 0, .int .i64 0, .int .i64 0, .int .i64 0, .int .i64 0, .int .i64 0, .int .i64 0, .bool false, .bool false] 31 (0, 0)) := heap_alloc_new u5 _
        have b11 : BoxP ((u5.alloc (.cells #[.int .i64 0, .int .i64 0, .int .i64 0, .int .i64 0, .int .i64 0, .int .i64 0, .int .i64 0, .int .i64 0, .int .i64 0, .int .i64 0, .int .i64 0, .bool false, .bool false] 31)).setRow u5.heap.size #[.int .i64 (rawP n f4 i).id, .int .i64 (rawP n f4 i).ow, .int .i64 (rawP n f4 i).si, .int .i64 (rawP n f4 i).zo, .int .i64 (rawP n f4 i).st, .int .i64 (rawP n f4 i).po, .int .i64 (rawP n f4 i).to, .int .i64 (rawP n f4 i).tr, .int .i64 (rawP n f4 i).pl, .int .i64 (rawP n f4 i).mi, .int .i64 (rawP n f4 i).ma, .bool (rawP n f4 i).de, .bool (rawP n f4 i).be]) u5.heap.size 31 (rawP n f4 i) := setRow_heap _ _ _ _ _ _ hnew
        have hb : Below u5.heap.size u5 ((u5.alloc (.cells #[.int .i64 0, .int .i64 0, .int .i64 0, .int .i64 0, .int .i64 0, .int .i64 0, .int .i64 0, .int .i64 0, .int .i64 0, .int .i64 0, .int .i64 0, .bool false, .bool false] 31)).setRow u5.heap.size #[.int .i64 (rawP n f4 i).id, .int .i64 (rawP n f4 i).ow, .int .i64 (rawP n f4 i).si, .int .i64 (rawP n f4 i).zo, .int .i64 (rawP n f4 i).st, .int .i64 (rawP n f4 i).po, .int .i64 (rawP n f4 i).to, .int .i64 (rawP n f4 i).tr, .int .i64 (rawP n f4 i).pl, .int .i64 (rawP n f4 i).mi, .int .i64 (rawP n f4 i).ma, .bool (rawP n f4 i).de, .bool (rawP n f4 i).be]) := below_setRow (below_new _ _) (Nat.le_refl _) _
        have hbx := hb
        have o1' := o1.grew hb
        have b4' := b4.grew hb
        have o2' := o2.grew hb
        have b6' := b6.grew hb
        have o4' := o4.grew hb
        have hB' := below_app hB hb hB.size
        clear o1 b4 o2 b6 o4 hB hb
        go_wp2_with (refine wpList_store_row rfl 31 (.tmp 11) _ rfl u5.heap.size #[.int .i64 (rawP n f4 i).id, .int .i64 (rawP n f4 i).ow, .int .i64 (rawP n f4 i).si, .int .i64 (rawP n f4 i).zo, .int .i64 (rawP n f4 i).st, .int .i64 (rawP n f4 i).po, .int .i64 (rawP n f4 i).to, .int .i64 (rawP n f4 i).tr, .int .i64 (rawP n f4 i).pl, .int .i64 (rawP n f4 i).mi, .int .i64 (rawP n f4 i).ma, .bool (rawP n f4 i).de, .bool (rawP n f4 i).be] (by rfl) (by rfl) _ _ hnew (by kernel_rfl) (by rfl) (by simp [Value.oneCell']) ?_; generalize (u5.alloc (.cells #[.int .i64 0, .int .i64 0, .int .i64 0, .int .i64 0, .int .i64 0, .int .i64 0, .int .i64 0, .int .i64 0, .int .i64 0, .int .i64 0, .int .i64 0, .bool false, .bool false] 31)).setRow u5.heap.size #[.int .i64 (rawP n f4 i).id, .int .i64 (rawP n f4 i).ow, .int .i64 (rawP n f4 i).si, .int .i64 (rawP n f4 i).zo, .int .i64 (rawP n f4 i).st, .int .i64 (rawP n f4 i).po, .int .i64 (rawP n f4 i).to, .int .i64 (rawP n f4 i).tr, .int .i64 (rawP n f4 i).pl, .int .i64 (rawP n f4 i).mi, .int .i64 (rawP n f4 i).ma, .bool (rawP n f4 i).de, .bool (rawP n f4 i).be] = V11 at b11 hB' hbx o1' b4' o2' b6' o4' ⊢; have o1 := o1'; have b4 := b4'; have o2 := o2'; have b6 := b6'; have o4 := o4'; have hB := hB'; clear hnew hbx hB' o1' b4' o2' b6' o4')
        refine (specGetPiece_ok _ q4 n c4 i f4 _ (by omega) hu4 o4.rd hgk).mono ?_
        rintro e u6 ⟨ps, xs, rfl, hb⟩
        replace o1 := o1.grew hb
        replace b4 := b4.grew hb
        replace o2 := o2.grew hb
        replace b6 := b6.grew hb
        replace o4 := o4.grew hb
        replace b11 := b11.grew hb
        replace hB := below_app hB hb hB.size
        clear hb
        have hnew : (u6.alloc (.cells #[.int .i64 0, .int .i64 0, .int .i64 0, .int .i64 0, .int .i64 0, .int .i64 0, .int .i64 0, .int .i64 0, .int .i64 0, .int .i64 0, .int .i64 0, .bool false, .bool false] 31)).heap[u6.heap.size]? = some (.cells #[.int .i64 0, .int .i64 0, .int .i64 0, .int .i64 0, .int .i64 0, .int .i64 0, .int .i64 0, .int .i64 0, .int .i64 0, .int .i64 0, .int .i64 0, .bool false, .bool false] 31 (0, 0)) := heap_alloc_new u6 _
        have b14 : BoxP ((u6.alloc (.cells #[.int .i64 0, .int .i64 0, .int .i64 0, .int .i64 0, .int .i64 0, .int .i64 0, .int .i64 0, .int .i64 0, .int .i64 0, .int .i64 0, .int .i64 0, .bool false, .bool false] 31)).setRow u6.heap.size #[.int .i64 ps.id, .int .i64 ps.ow, .int .i64 ps.si, .int .i64 ps.zo, .int .i64 ps.st, .int .i64 ps.po, .int .i64 ps.to, .int .i64 ps.tr, .int .i64 ps.pl, .int .i64 ps.mi, .int .i64 ps.ma, .bool ps.de, .bool ps.be]) u6.heap.size 31 ps := setRow_heap _ _ _ _ _ _ hnew
        have hb : Below u6.heap.size u6 ((u6.alloc (.cells #[.int .i64 0, .int .i64 0, .int .i64 0, .int .i64 0, .int .i64 0, .int .i64 0, .int .i64 0, .int .i64 0, .int .i64 0, .int .i64 0, .int .i64 0, .bool false, .bool false] 31)).setRow u6.heap.size #[.int .i64 ps.id, .int .i64 ps.ow, .int .i64 ps.si, .int .i64 ps.zo, .int .i64 ps.st, .int .i64 ps.po, .int .i64 ps.to, .int .i64 ps.tr, .int .i64 ps.pl, .int .i64 ps.mi, .int .i64 ps.ma, .bool ps.de, .bool ps.be]) := below_setRow (below_new _ _) (Nat.le_refl _) _
        have hbx := hb
        have o1' := o1.grew hb
        have b4' := b4.grew hb
        have o2' := o2.grew hb
        have b6' := b6.grew hb
        have o4' := o4.grew hb
        have b11' := b11.grew hb
        have hB' := below_app hB hb hB.size
        clear o1 b4 o2 b6 o4 b11 hB hb
        go_wp2_with (refine wpList_store_row rfl 31 (.tmp 14) _ rfl u6.heap.size #[.int .i64 ps.id, .int .i64 ps.ow, .int .i64 ps.si, .int .i64 ps.zo, .int .i64 ps.st, .int .i64 ps.po, .int .i64 ps.to, .int .i64 ps.tr, .int .i64 ps.pl, .int .i64 ps.mi, .int .i64 ps.ma, .bool ps.de, .bool ps.be] (by rfl) (by rfl) _ _ hnew (by kernel_rfl) (by rfl) (by simp [Value.oneCell']) ?_; generalize (u6.alloc (.cells #[.int .i64 0, .int .i64 0, .int .i64 0, .int .i64 0, .int .i64 0, .int .i64 0, .int .i64 0, .int .i64 0, .int .i64 0, .int .i64 0, .int .i64 0, .bool false, .bool false] 31)).setRow u6.heap.size #[.int .i64 ps.id, .int .i64 ps.ow, .int .i64 ps.si, .int .i64 ps.zo, .int .i64 ps.st, .int .i64 ps.po, .int .i64 ps.to, .int .i64 ps.tr, .int .i64 ps.pl, .int .i64 ps.mi, .int .i64 ps.ma, .bool ps.de, .bool ps.be] = V14 at b14 hB' hbx o1' b4' o2' b6' o4' b11' ⊢; have o1 := o1'; have b4 := b4'; have o2 := o2'; have b6 := b6'; have o4 := o4'; have b11 := b11'; have hB := hB'; clear hnew hbx hB' o1' b4' o2' b6' o4' b11')
        clear b14
        try simp only [Act.put]
        obtain ⟨k0, k1, k2, k3, k4, k5, k6, k7, k8, k9, k10, k11, k12⟩ : Cells13 _ _ _ := b11.cells
        have y1 : (0 : Int) ≤ (i : Int) := by omega
        have y2 : (i : Int) ≤ (i : Int) + 52 := by omega
        have y3 : (i : Int) + 52 ≤ (c4 : Int) := by omega
        refine plan31 (by kernel_rfl) (by kernel_rfl) (by kernel_rfl) (by intro c d v a w h; cases d <;> exact h) ?_
        go_wp2_with fail
        refine (implPieceOk_any (rawP n f4 i) _).mono ?_
        rintro e u7 ⟨rfl, hb0⟩
        rw [hokr]
        have hb : Below V14.heap.size V14 u7 := below_app ((Below.refl V14.heap.size V14).drew) hb0 (Nat.le_refl _)
        clear hb0 k0 k1 k2 k3 k4 k5 k6 k7 k8 k9 k10 k11 k12
        replace o1 := o1.grew hb
        replace b4 := b4.grew hb
        replace o2 := o2.grew hb
        replace b6 := b6.grew hb
        replace o4 := o4.grew hb
        replace b11 := b11.grew hb
        replace hB := below_app hB hb hB.size
        clear hb
        obtain ⟨k0, k1, k2, k3, k4, k5, k6, k7, k8, k9, k10, k11, k12⟩ : Cells13 _ _ _ := b11.cells
        go_wp2_with fail
        refine ⟨.slice (some ⟨q4, i, none⟩) 52 (c4 - i), .inl ⟨?_, fun w => ?_⟩, ?_⟩
        · rfl
        · go_simp
          constructor <;> omega
        refine .inl ⟨.slice (some ⟨u7.heap.size, 0, none⟩) 0 0, (.agg #[.int .i64 (rawP n f4 i).id, .int .i64 (rawP n f4 i).ow, .int .i64 (rawP n f4 i).si, .int .i64 (rawP n f4 i).zo, .int .i64 (rawP n f4 i).st, .int .i64 (rawP n f4 i).po, .int .i64 (rawP n f4 i).to, .int .i64 (rawP n f4 i).tr, .int .i64 (rawP n f4 i).pl, .int .i64 (rawP n f4 i).mi, .int .i64 (rawP n f4 i).ma, .bool (rawP n f4 i).de, .bool (rawP n f4 i).be]), u7.alloc (.cells #[] 5), rfl, rfl, ?_, ?_, ?_, ?_⟩
        · go_simp
        · go_simp
        · clear k0 k1 k2 k3 k4 k5 k6 k7 k8 k9 k10 k11 k12
          obtain ⟨k0, k1, k2, k3, k4, k5, k6, k7, k8, k9, k10, k11, k12⟩ : Cells13 _ _ _ := (b11.alloc (.cells #[] 5)).cells
          go_simp
        clear k0 k1 k2 k3 k4 k5 k6 k7 k8 k9 k10 k11 k12
        have hb : Below u7.heap.size u7 (u7.alloc (.cells #[] 5)) := below_new _ _
        replace o1 := o1.grew hb
        replace b4 := b4.grew hb
        replace o2 := o2.grew hb
        replace b6 := b6.grew hb
        replace o4 := o4.grew hb
        replace b11 := b11.grew hb
        replace hB := below_app hB hb hB.size
        clear hb
        go_wp2_with fail
        refine (implPutPiece_cap _ 0 0 0 (fun _ => 0) (rawP n f4 i) _ (by omega) (.inl rfl)).mono ?_
        rintro e u8 ⟨g8, c8, rfl, hcp8, hb, o8⟩
        clear hcp8
        replace o1 := o1.grew hb
        replace b4 := b4.grew hb
        replace o2 := o2.grew hb
        replace b6 := b6.grew hb
        replace o4 := o4.grew hb
        replace b11 := b11.grew hb
        replace hB := below_app hB hb hB.size
        clear hb
        have HN8 : Hid (ppN 0 (rawP n f4 i) = 52 ∧ ppF 0 (fun _ => 0) (rawP n f4 i) = cat 0 (fun _ => 0) (encM (pcl (rawP n f4 i)))) := by constructor <;> simp [ppN, ppF, hokr]
        rw [HN8.out.1, HN8.out.2] at o8
        rw [HN8.out.1]
        have r8 : Rd .u8 u8 g8 (some ⟨g8, 0, none⟩) 52 (fun j => f4 (i + j)) := o8.rd.congr (fun j hj => by unfold cat; rw [if_neg (by omega), Nat.sub_zero]; exact HE.out j hj)
        have r4 := o4.rd.off (m := 52) (i := i) hi52
        rw [Nat.zero_add] at r4
        clear o8 HN8
        go_wp2_with fail
        refine (same_any _ _ g8 q4 52 _ _ (fun j => f4 (i + j)) u8 r8 r4).mono ?_
        rintro e u9 ⟨rfl, hu9⟩
        have HU9 : Hid (u9 = u8) := hu9
        clear hu9 r8 r4 o4 b11 HE
        go_wp2_with fail
        refine ⟨undef, .inr ⟨rfl, rfl⟩, ?_⟩
        rw [HU9.out]
        generalize u8 = u7 at hB o1 o2 b4 b6 ⊢
        obtain ⟨k0, k1, k2, k3, k4, k5, k6, k7, k8, k9, k10, k11, k12⟩ : Cells13 _ _ _ := b4.cells
        go_wp2_with fail
        refine (implPieceOk_any p _).mono ?_
        rintro e v8 ⟨rfl, hb⟩
        clear k0 k1 k2 k3 k4 k5 k6 k7 k8 k9 k10 k11 k12
        replace o1 := o1.grew hb
        replace o2 := o2.grew hb
        replace b4 := b4.grew hb
        replace b6 := b6.grew hb
        replace hB := below_app hB hb hB.size
        clear hb
        rw [hok]
        clear b4 b6
        go_wp2_with fail
        refine (same_any _ _ q2 q1 m _ _ f1 _ o2.rd o1.rd).mono ?_
        rintro e v9 ⟨rfl, hu9⟩
        rw [hu9]
        clear hu9
        go_wp2
        go_ret
        exact ⟨rfl, hB⟩
    | true =>
      have HN : Hid (ppN m p = m + 52 ∧ ppF m f1 p = cat m f1 (encM (pcl p))) := by constructor <;> simp [ppN, ppF, hok]
      rw [HN.out.1, HN.out.2] at o2
      rw [HN.out.1] at hcp2 ⊢
      clear huP
      go_wp2_with fail
      refine (implGetPiece_back _ q2 m c2 f1 p _ (by omega) hcp2 hu1 hok o2.rd).mono ?_
      rintro e u3 ⟨rfl, hb⟩
      replace o1 := o1.grew hb
      replace b4 := b4.grew hb
      replace o2 := o2.grew hb
      replace hB := below_app hB hb hB.size
      clear hb
      have hnew : (u3.alloc (.cells #[.int .i64 0, .int .i64 0, .int .i64 0, .int .i64 0, .int .i64 0, .int .i64 0, .int .i64 0, .int .i64 0, .int .i64 0, .int .i64 0, .int .i64 0, .bool false, .bool false] 31)).heap[u3.heap.size]? = some (.cells #[.int .i64 0, .int .i64 0, .int .i64 0, .int .i64 0, .int .i64 0, .int .i64 0, .int .i64 0, .int .i64 0, .int .i64 0, .int .i64 0, .int .i64 0, .bool false, .bool false] 31 (0, 0)) := heap_alloc_new u3 _
      have b6 : BoxP ((u3.alloc (.cells #[.int .i64 0, .int .i64 0, .int .i64 0, .int .i64 0, .int .i64 0, .int .i64 0, .int .i64 0, .int .i64 0, .int .i64 0, .int .i64 0, .int .i64 0, .bool false, .bool false] 31)).setRow u3.heap.size #[.int .i64 p.id, .int .i64 p.ow, .int .i64 p.si, .int .i64 p.zo, .int .i64 p.st, .int .i64 p.po, .int .i64 p.to, .int .i64 p.tr, .int .i64 p.pl, .int .i64 p.mi, .int .i64 p.ma, .bool p.de, .bool p.be]) u3.heap.size 31 p := setRow_heap _ _ _ _ _ _ hnew
      have hb : Below u3.heap.size u3 ((u3.alloc (.cells #[.int .i64 0, .int .i64 0, .int .i64 0, .int .i64 0, .int .i64 0, .int .i64 0, .int .i64 0, .int .i64 0, .int .i64 0, .int .i64 0, .int .i64 0, .bool false, .bool false] 31)).setRow u3.heap.size #[.int .i64 p.id, .int .i64 p.ow, .int .i64 p.si, .int .i64 p.zo, .int .i64 p.st, .int .i64 p.po, .int .i64 p.to, .int .i64 p.tr, .int .i64 p.pl, .int .i64 p.mi, .int .i64 p.ma, .bool p.de, .bool p.be]) := below_setRow (below_new _ _) (Nat.le_refl _) _
      have hbx := hb
      have o1' := o1.grew hb
      have b4' := b4.grew hb
      have o2' := o2.grew hb
      have hB' := below_app hB hb hB.size
      clear o1 b4 o2 hB hb
      go_wp2_with (refine wpList_store_row rfl 31 (.tmp 6) _ rfl u3.heap.size #[.int .i64 p.id, .int .i64 p.ow, .int .i64 p.si, .int .i64 p.zo, .int .i64 p.st, .int .i64 p.po, .int .i64 p.to, .int .i64 p.tr, .int .i64 p.pl, .int .i64 p.mi, .int .i64 p.ma, .bool p.de, .bool p.be] (by rfl) (by rfl) _ _ hnew (by kernel_rfl) (by rfl) (by simp [Value.oneCell']) ?_; generalize (u3.alloc (.cells #[.int .i64 0, .int .i64 0, .int .i64 0, .int .i64 0, .int .i64 0, .int .i64 0, .int .i64 0, .int .i64 0, .int .i64 0, .int .i64 0, .int .i64 0, .bool false, .bool false] 31)).setRow u3.heap.size #[.int .i64 p.id, .int .i64 p.ow, .int .i64 p.si, .int .i64 p.zo, .int .i64 p.st, .int .i64 p.po, .int .i64 p.to, .int .i64 p.tr, .int .i64 p.pl, .int .i64 p.mi, .int .i64 p.ma, .bool p.de, .bool p.be] = V6 at b6 hB' hbx o1' b4' o2' ⊢; have o1 := o1'; have b4 := b4'; have o2 := o2'; have hB := hB'; clear hnew hbx hB' o1' b4' o2')
      refine (drawGetPiece_any _ _ _ _ ((hc.below hB).mono hB.size (Nat.le_refl _))).mono ?_
      rintro e u4 ⟨q4, n, c4, f4, at', rfl, ha, hn, hcp4, hu4, o4, hb⟩
      replace o1 := o1.grew hb
      replace b4 := b4.grew hb
      replace o2 := o2.grew hb
      replace b6 := b6.grew hb
      replace hB := below_app hB hb hB.size
      clear hb
      cases hgk : gpOk n f4 at' with
      | false =>
        go_wp2_with fail
        refine (implGetPiece_no _ q4 n c4 at' f4 _ (by omega) hcp4 ha hu4 o4.rd hgk).mono ?_
        rintro e u5 ⟨rfl, hb⟩
        replace o1 := o1.grew hb
        replace b4 := b4.grew hb
        replace o2 := o2.grew hb
        replace b6 := b6.grew hb
        replace o4 := o4.grew hb
        replace hB := below_app hB hb hB.size
        clear hb
        have hnew : (u5.alloc (.cells #[.int .i64 0, .int .i64 0, .int .i64 0, .int .i64 0, .int .i64 0, .int .i64 0, .int .i64 0, .int .i64 0, .int .i64 0, .int .i64 0, .int .i64 0, .bool false, .bool false] 31)).heap[u5.heap.size]? = some (.cells #[.int .i64 0, .int .i64 0, .int .i64 0, .int .i64 0, .int .i64 0, .int .i64 0, .int .i64 0, .int .i64 0, .int .i64 0, .int .i64 0, .int .i64 0, .bool false, .bool false] 31 (0, 0)) := heap_alloc_new u5 _
        have b11 : BoxP ((u5.alloc (.cells #[.int .i64 0, .int .i64 0, .int .i64 0, .int .i64 0, .int .i64 0, .int .i64 0, .int .i64 0, .int .i64 0, .int .i64 0, .int .i64 0, .int .i64 0, .bool false, .bool false] 31)).setRow u5.heap.size #[.int .i64 0, .int .i64 0, .int .i64 0, .int .i64 0, .int .i64 0, .int .i64 0, .int .i64 0, .int .i64 0, .int .i64 0, .int .i64 0, .int .i64 0, .bool false, .bool false]) u5.heap.size 31 zeroP := setRow_heap _ _ _ _ _ _ hnew
        have hb : Below u5.heap.size u5 ((u5.alloc (.cells #[.int .i64 0, .int .i64 0, .int .i64 0, .int .i64 0, .int .i64 0, .int .i64 0, .int .i64 0, .int .i64 0, .int .i64 0, .int .i64 0, .int .i64 0, .bool false, .bool false] 31)).setRow u5.heap.size #[.int .i64 0, .int .i64 0, .int .i64 0, .int .i64 0, .int .i64 0, .int .i64 0, .int .i64 0, .int .i64 0, .int .i64 0, .int .i64 0, .int .i64 0, .bool false, .bool false]) := below_setRow (below_new _ _) (Nat.le_refl _) _
        have hbx := hb
        have o1' := o1.grew hb
        have b4' := b4.grew hb
        have o2' := o2.grew hb
        have b6' := b6.grew hb
        have o4' := o4.grew hb
        have hB' := below_app hB hb hB.size
        clear o1 b4 o2 b6 o4 hB hb
        go_wp2_with (refine wpList_store_row rfl 31 (.tmp 11) _ rfl u5.heap.size #[.int .i64 0, .int .i64 0, .int .i64 0, .int .i64 0, .int .i64 0, .int .i64 0, .int .i64 0, .int .i64 0, .int .i64 0, .int .i64 0, .int .i64 0, .bool false, .bool false] (by rfl) (by rfl) _ _ hnew (by kernel_rfl) (by rfl) (by simp [Value.oneCell']) ?_; generalize (u5.alloc (.cells #[.int .i64 0, .int .i64 0, .int .i64 0, .int .i64 0, .int .i64 0, .int .i64 0, .int .i64 0, .int .i64 0, .int .i64 0, .int .i64 0, .int .i64 0, .bool false, .bool false] 31)).setRow u5.heap.size #[.int .i64 0, .int .i64 0, .int .i64 0, .int .i64 0, .int .i64 0, .int .i64 0, .int .i64 0, .int .i64 0, .int .i64 0, .int .i64 0, .int .i64 0, .bool false, .bool false] = V11 at b11 hB' hbx o1' b4' o2' b6' o4' ⊢; have o1 := o1'; have b4 := b4'; have o2 := o2'; have b6 := b6'; have o4 := o4'; have hB := hB'; clear hnew hbx hB' o1' b4' o2' b6' o4')
        refine (specGetPiece_ok _ q4 n c4 at' f4 _ (by omega) hu4 o4.rd hgk).mono ?_
        rintro e u6 ⟨ps, xs, rfl, hb⟩
        replace o1 := o1.grew hb
        replace b4 := b4.grew hb
        replace o2 := o2.grew hb
        replace b6 := b6.grew hb
        replace o4 := o4.grew hb
        replace b11 := b11.grew hb
        replace hB := below_app hB hb hB.size
        clear hb
        have hnew : (u6.alloc (.cells #[.int .i64 0, .int .i64 0, .int .i64 0, .int .i64 0, .int .i64 0, .int .i64 0, .int .i64 0, .int .i64 0, .int .i64 0, .int .i64 0, .int .i64 0, .bool false, .bool false] 31)).heap[u6.heap.size]? = some (.cells #[.int .i64 0, .int .i64 0, .int .i64 0, .int .i64 0, .int .i64 0, .int .i64 0, .int .i64 0, .int .i64 0, .int .i64 0, .int .i64 0, .int .i64 0, .bool false, .bool false] 31 (0, 0)) := heap_alloc_new u6 _
        have b14 : BoxP ((u6.alloc (.cells #[.int .i64 0, .int .i64 0, .int .i64 0, .int .i64 0, .int .i64 0, .int .i64 0, .int .i64 0, .int .i64 0, .int .i64 0, .int .i64 0, .int .i64 0, .bool false, .bool false] 31)).setRow u6.heap.size #[.int .i64 ps.id, .int .i64 ps.ow, .int .i64 ps.si, .int .i64 ps.zo, .int .i64 ps.st, .int .i64 ps.po, .int .i64 ps.to, .int .i64 ps.tr, .int .i64 ps.pl, .int .i64 ps.mi, .int .i64 ps.ma, .bool ps.de, .bool ps.be]) u6.heap.size 31 ps := setRow_heap _ _ _ _ _ _ hnew
        have hb : Below u6.heap.size u6 ((u6.alloc (.cells #[.int .i64 0, .int .i64 0, .int .i64 0, .int .i64 0, .int .i64 0, .int .i64 0, .int .i64 0, .int .i64 0, .int .i64 0, .int .i64 0, .int .i64 0, .bool false, .bool false] 31)).setRow u6.heap.size #[.int .i64 ps.id, .int .i64 ps.ow, .int .i64 ps.si, .int .i64 ps.zo, .int .i64 ps.st, .int .i64 ps.po, .int .i64 ps.to, .int .i64 ps.tr, .int .i64 ps.pl, .int .i64 ps.mi, .int .i64 ps.ma, .bool ps.de, .bool ps.be]) := below_setRow (below_new _ _) (Nat.le_refl _) _
        have hbx := hb
        have o1' := o1.grew hb
        have b4' := b4.grew hb
        have o2' := o2.grew hb
        have b6' := b6.grew hb
        have o4' := o4.grew hb
        have b11' := b11.grew hb
        have hB' := below_app hB hb hB.size
        clear o1 b4 o2 b6 o4 b11 hB hb
        go_wp2_with (refine wpList_store_row rfl 31 (.tmp 14) _ rfl u6.heap.size #[.int .i64 ps.id, .int .i64 ps.ow, .int .i64 ps.si, .int .i64 ps.zo, .int .i64 ps.st, .int .i64 ps.po, .int .i64 ps.to, .int .i64 ps.tr, .int .i64 ps.pl, .int .i64 ps.mi, .int .i64 ps.ma, .bool ps.de, .bool ps.be] (by rfl) (by rfl) _ _ hnew (by kernel_rfl) (by rfl) (by simp [Value.oneCell']) ?_; generalize (u6.alloc (.cells #[.int .i64 0, .int .i64 0, .int .i64 0, .int .i64 0, .int .i64 0, .int .i64 0, .int .i64 0, .int .i64 0, .int .i64 0, .int .i64 0, .int .i64 0, .bool false, .bool false] 31)).setRow u6.heap.size #[.int .i64 ps.id, .int .i64 ps.ow, .int .i64 ps.si, .int .i64 ps.zo, .int .i64 ps.st, .int .i64 ps.po, .int .i64 ps.to, .int .i64 ps.tr, .int .i64 ps.pl, .int .i64 ps.mi, .int .i64 ps.ma, .bool ps.de, .bool ps.be] = V14 at b14 hB' hbx o1' b4' o2' b6' o4' b11' ⊢; have o1 := o1'; have b4 := b4'; have o2 := o2'; have b6 := b6'; have o4 := o4'; have b11 := b11'; have hB := hB'; clear hnew hbx hB' o1' b4' o2' b6' o4' b11')
        clear b14
        try simp only [Act.put]
        have k0 : V14.cell? ⟨u5.heap.size, 0, none⟩ = some (.int .i64 0) := b11.cells.1
        have k1 : V14.cell? ⟨u5.heap.size, 1, none⟩ = some (.int .i64 0) := b11.cells.2.1
        have k2 : V14.cell? ⟨u5.heap.size, 2, none⟩ = some (.int .i64 0) := b11.cells.2.2.1
        have k3 : V14.cell? ⟨u5.heap.size, 3, none⟩ = some (.int .i64 0) := b11.cells.2.2.2.1
        have k4 : V14.cell? ⟨u5.heap.size, 4, none⟩ = some (.int .i64 0) := b11.cells.2.2.2.2.1
        have k5 : V14.cell? ⟨u5.heap.size, 5, none⟩ = some (.int .i64 0) := b11.cells.2.2.2.2.2.1
        have k6 : V14.cell? ⟨u5.heap.size, 6, none⟩ = some (.int .i64 0) := b11.cells.2.2.2.2.2.2.1
        have k7 : V14.cell? ⟨u5.heap.size, 7, none⟩ = some (.int .i64 0) := b11.cells.2.2.2.2.2.2.2.1
        have k8 : V14.cell? ⟨u5.heap.size, 8, none⟩ = some (.int .i64 0) := b11.cells.2.2.2.2.2.2.2.2.1
        have k9 : V14.cell? ⟨u5.heap.size, 9, none⟩ = some (.int .i64 0) := b11.cells.2.2.2.2.2.2.2.2.2.1
        have k10 : V14.cell? ⟨u5.heap.size, 10, none⟩ = some (.int .i64 0) := b11.cells.2.2.2.2.2.2.2.2.2.2.1
        have k11 : V14.cell? ⟨u5.heap.size, 11, none⟩ = some (.bool false) := b11.cells.2.2.2.2.2.2.2.2.2.2.2.1
        have k12 : V14.cell? ⟨u5.heap.size, 12, none⟩ = some (.bool false) := b11.cells.2.2.2.2.2.2.2.2.2.2.2.2
        go_big_quiet (fail)
        clear k0 k1 k2 k3 k4 k5 k6 k7 k8 k9 k10 k11 k12
        replace hB := below_drewN hB nq
        have hbq : Below V14.heap.size V14 (V14.drewN nq) := below_drewN (Below.refl _ _) nq
        replace o1 := o1.grew hbq
        replace o2 := o2.grew hbq
        replace b4 := b4.grew hbq
        replace b6 := b6.grew hbq
        generalize V14.drewN nq = u7 at hB o1 o2 b4 b6 ⊢
        clear hbq b11 o4
        obtain ⟨k0, k1, k2, k3, k4, k5, k6, k7, k8, k9, k10, k11, k12⟩ : Cells13 _ _ _ := b4.cells
        go_wp2_with fail
        refine (implPieceOk_any p _).mono ?_
        rintro e v8 ⟨rfl, hb⟩
        clear k0 k1 k2 k3 k4 k5 k6 k7 k8 k9 k10 k11 k12
        replace o1 := o1.grew hb
        replace o2 := o2.grew hb
        replace b4 := b4.grew hb
        replace b6 := b6.grew hb
        replace hB := below_app hB hb hB.size
        clear hb
        rw [hok]
        have r2 : Rd .u8 v8 q2 (some ⟨q2, 0, none⟩) m f1 := (o2.rd.first (by omega)).congr (fun i hi => by unfold cat; rw [if_pos hi])
        obtain ⟨k0, k1, k2, k3, k4, k5, k6, k7, k8, k9, k10, k11, k12⟩ : Cells13 _ _ _ := b6.cells
        obtain ⟨l0, l1, l2, l3, l4, l5, l6, l7, l8, l9, l10, l11, l12⟩ : Cells13 _ _ _ := b4.cells
        clear b4 b6 o2
        have z3 : (m : Int) ≤ (c2 : Int) := by omega
        go_wp2_with fail
        refine (same_any _ _ q2 q1 m _ _ f1 _ r2 o1.rd).mono ?_
        rintro e v9 ⟨rfl, hu9⟩
        rw [hu9]
        clear hu9 k0 k1 k2 k3 k4 k5 k6 k7 k8 k9 k10 k11 k12 l0 l1 l2 l3 l4 l5 l6 l7 l8 l9 l10 l11 l12
        go_wp2
        go_ret
        exact ⟨rfl, hB⟩
      | true =>
        obtain ⟨i, rfl, hi52, hokr, henc⟩ := gp_fwd hu4 hgk
        have HE : Hid (∀ j, j < 52 → encM (pcl (rawP n f4 i)) j = f4 (i + j)) := henc
        clear henc
        go_wp2_with fail
        refine (implGetPiece_yes _ q4 n c4 i f4 _ (by omega) hcp4 ha hu4 o4.rd hgk).mono ?_
        rintro e u5 ⟨rfl, hb⟩
        replace o1 := o1.grew hb
        replace b4 := b4.grew hb
        replace o2 := o2.grew hb
        replace b6 := b6.grew hb
        replace o4 := o4.grew hb
        replace hB := below_app hB hb hB.size
        clear hb
        have hnew : (u5.alloc (.cells #[.int .i64 0, .int .i64 0, .int .i64 0, .int .i64 0, .int .i64 0, .int .i64 0, .int .i64 0, .int .i64 0, .int .i64 0, .int .i64 0, .int .i64 0, .bool false, .bool false] 31)).heap[u5.heap.size]? = some (.cells #[.int .i64 0, .int .i64 0, .int .i64 0, .int .i64 0, .int .i64 0, .int .i64 0, .int .i64 0, .int .i64 0, .int .i64 0, .int .i64 0, .int .i64 0, .bool false, .bool false] 31 (0, 0)) := heap_alloc_new u5 _
        have b11 : BoxP ((u5.alloc (.cells #[.int .i64 0, .int .i64 0, .int .i64 0, .int .i64 0, .int .i64 0, .int .i64 0, .int .i64 0, .int .i64 0, .int .i64 0, .int .i64 0, .int .i64 0, .bool false, .bool false] 31)).setRow u5.heap.size #[.int .i64 (rawP n f4 i).id, .int .i64 (rawP n f4 i).ow, .int .i64 (rawP n f4 i).si, .int .i64 (rawP n f4 i).zo, .int .i64 (rawP n f4 i).st, .int .i64 (rawP n f4 i).po, .int .i64 (rawP n f4 i).to, .int .i64 (rawP n f4 i).tr, .int .i64 (rawP n f4 i).pl, .int .i64 (rawP n f4 i).mi, .int .i64 (rawP n f4 i).ma, .bool (rawP n f4 i).de, .bool (rawP n f4 i).be]) u5.heap.size 31 (rawP n f4 i) := setRow_heap _ _ _ _ _ _ hnew
        have hb : Below u5.heap.size u5 ((u5.alloc (.cells #[.int .i64 0, .int .i64 0, .int .i64 0, .int .i64 0, .int .i64 0, .int .i64 0, .int .i64 0, .int .i64 0, .int .i64 0, .int .i64 0, .int .i64 0, .bool false, .bool false] 31)).setRow u5.heap.size #[.int .i64 (rawP n f4 i).id, .int .i64 (rawP n f4 i).ow, .int .i64 (rawP n f4 i).si, .int .i64 (rawP n f4 i).zo, .int .i64 (rawP n f4 i).st, .int .i64 (rawP n f4 i).po, .int .i64 (rawP n f4 i).to, .int .i64 (rawP n f4 i).tr, .int .i64 (rawP n f4 i).pl, .int .i64 (rawP n f4 i).mi, .int .i64 (rawP n f4 i).ma, .bool (rawP n f4 i).de, .bool (rawP n f4 i).be]) := below_setRow (below_new _ _) (Nat.le_refl _) _
        have hbx := hb
        have o1' := o1.grew hb
        have b4' := b4.grew hb
        have o2' := o2.grew hb
        have b6' := b6.grew hb
        have o4' := o4.grew hb
        have hB' := below_app hB hb hB.size
        clear o1 b4 o2 b6 o4 hB hb
        go_wp2_with (refine wpList_store_row rfl 31 (.tmp 11) _ rfl u5.heap.size #[.int .i64 (rawP n f4 i).id, .int .i64 (rawP n f4 i).ow, .int .i64 (rawP n f4 i).si, .int .i64 (rawP n f4 i).zo, .int .i64 (rawP n f4 i).st, .int .i64 (rawP n f4 i).po, .int .i64 (rawP n f4 i).to, .int .i64 (rawP n f4 i).tr, .int .i64 (rawP n f4 i).pl, .int .i64 (rawP n f4 i).mi, .int .i64 (rawP n f4 i).ma, .bool (rawP n f4 i).de, .bool (rawP n f4 i).be] (by rfl) (by rfl) _ _ hnew (by kernel_rfl) (by rfl) (by simp [Value.oneCell']) ?_; generalize (u5.alloc (.cells #[.int .i64 0, .int .i64 0, .int .i64 0, .int .i64 0, .int .i64 0, .int .i64 0, .int .i64 0, .int .i64 0, .int .i64 0, .int .i64 0, .int .i64 0, .bool false, .bool false] 31)).setRow u5.heap.size #[.int .i64 (rawP n f4 i).id, .int .i64 (rawP n f4 i).ow, .int .i64 (rawP n f4 i).si, .int .i64 (rawP n f4 i).zo, .int .i64 (rawP n f4 i).st, .int .i64 (rawP n f4 i).po, .int .i64 (rawP n f4 i).to, .int .i64 (rawP n f4 i).tr, .int .i64 (rawP n f4 i).pl, .int .i64 (rawP n f4 i).mi, .int .i64 (rawP n f4 i).ma, .bool (rawP n f4 i).de, .bool (rawP n f4 i).be] = V11 at b11 hB' hbx o1' b4' o2' b6' o4' ⊢; have o1 := o1'; have b4 := b4'; have o2 := o2'; have b6 := b6'; have o4 := o4'; have hB := hB'; clear hnew hbx hB' o1' b4' o2' b6' o4')
        refine (specGetPiece_ok _ q4 n c4 i f4 _ (by omega) hu4 o4.rd hgk).mono ?_
        rintro e u6 ⟨ps, xs, rfl, hb⟩
        replace o1 := o1.grew hb
        replace b4 := b4.grew hb
        replace o2 := o2.grew hb
        replace b6 := b6.grew hb
        replace o4 := o4.grew hb
        replace b11 := b11.grew hb
        replace hB := below_app hB hb hB.size
        clear hb
        have hnew : (u6.alloc (.cells #[.int .i64 0, .int .i64 0, .int .i64 0, .int .i64 0, .int .i64 0, .int .i64 0, .int .i64 0, .int .i64 0, .int .i64 0, .int .i64 0, .int .i64 0, .bool false, .bool false] 31)).heap[u6.heap.size]? = some (.cells #[.int .i64 0, .int .i64 0, .int .i64 0, .int .i64 0, .int .i64 0, .int .i64 0, .int .i64 0, .int .i64 0, .int .i64 0, .int .i64 0, .int .i64 0, .bool false, .bool false] 31 (0, 0)) := heap_alloc_new u6 _
        have b14 : BoxP ((u6.alloc (.cells #[.int .i64 0, .int .i64 0, .int .i64 0, .int .i64 0, .int .i64 0, .int .i64 0, .int .i64 0, .int .i64 0, .int .i64 0, .int .i64 0, .int .i64 0, .bool false, .bool false] 31)).setRow u6.heap.size #[.int .i64 ps.id, .int .i64 ps.ow, .int .i64 ps.si, .int .i64 ps.zo, .int .i64 ps.st, .int .i64 ps.po, .int .i64 ps.to, .int .i64 ps.tr, .int .i64 ps.pl, .int .i64 ps.mi, .int .i64 ps.ma, .bool ps.de, .bool ps.be]) u6.heap.size 31 ps := setRow_heap _ _ _ _ _ _ hnew
        have hb : Below u6.heap.size u6 ((u6.alloc (.cells #[.int .i64 0, .int .i64 0, .int .i64 0, .int .i64 0, .int .i64 0, .int .i64 0, .int .i64 0, .int .i64 0, .int .i64 0, .int .i64 0, .int .i64 0, .bool false, .bool false] 31)).setRow u6.heap.size #[.int .i64 ps.id, .int .i64 ps.ow, .int .i64 ps.si, .int .i64 ps.zo, .int .i64 ps.st, .int .i64 ps.po, .int .i64 ps.to, .int .i64 ps.tr, .int .i64 ps.pl, .int .i64 ps.mi, .int .i64 ps.ma, .bool ps.de, .bool ps.be]) := below_setRow (below_new _ _) (Nat.le_refl _) _
        have hbx := hb
        have o1' := o1.grew hb
        have b4' := b4.grew hb
        have o2' := o2.grew hb
        have b6' := b6.grew hb
        have o4' := o4.grew hb
        have b11' := b11.grew hb
        have hB' := below_app hB hb hB.size
        clear o1 b4 o2 b6 o4 b11 hB hb
        go_wp2_with (refine wpList_store_row rfl 31 (.tmp 14) _ rfl u6.heap.size #[.int .i64 ps.id, .int .i64 ps.ow, .int .i64 ps.si, .int .i64 ps.zo, .int .i64 ps.st, .int .i64 ps.po, .int .i64 ps.to, .int .i64 ps.tr, .int .i64 ps.pl, .int .i64 ps.mi, .int .i64 ps.ma, .bool ps.de, .bool ps.be] (by rfl) (by rfl) _ _ hnew (by kernel_rfl) (by rfl) (by simp [Value.oneCell']) ?_; generalize (u6.alloc (.cells #[.int .i64 0, .int .i64 0, .int .i64 0, .int .i64 0, .int .i64 0, .int .i64 0, .int .i64 0, .int .i64 0, .int .i64 0, .int .i64 0, .int .i64 0, .bool false, .bool false] 31)).setRow u6.heap.size #[.int .i64 ps.id, .int .i64 ps.ow, .int .i64 ps.si, .int .i64 ps.zo, .int .i64 ps.st, .int .i64 ps.po, .int .i64 ps.to, .int .i64 ps.tr, .int .i64 ps.pl, .int .i64 ps.mi, .int .i64 ps.ma, .bool ps.de, .bool ps.be] = V14 at b14 hB' hbx o1' b4' o2' b6' o4' b11' ⊢; have o1 := o1'; have b4 := b4'; have o2 := o2'; have b6 := b6'; have o4 := o4'; have b11 := b11'; have hB := hB'; clear hnew hbx hB' o1' b4' o2' b6' o4' b11')
        clear b14
        try simp only [Act.put]
        obtain ⟨k0, k1, k2, k3, k4, k5, k6, k7, k8, k9, k10, k11, k12⟩ : Cells13 _ _ _ := b11.cells
        have y1 : (0 : Int) ≤ (i : Int) := by omega
        have y2 : (i : Int) ≤ (i : Int) + 52 := by omega
        have y3 : (i : Int) + 52 ≤ (c4 : Int) := by omega
        refine plan31 (by kernel_rfl) (by kernel_rfl) (by kernel_rfl) (by intro c d v a w h; cases d <;> exact h) ?_
        go_wp2_with fail
        refine (implPieceOk_any (rawP n f4 i) _).mono ?_
        rintro e u7 ⟨rfl, hb0⟩
        rw [hokr]
        have hb : Below V14.heap.size V14 u7 := below_app ((Below.refl V14.heap.size V14).drew) hb0 (Nat.le_refl _)
        clear hb0 k0 k1 k2 k3 k4 k5 k6 k7 k8 k9 k10 k11 k12
        replace o1 := o1.grew hb
        replace b4 := b4.grew hb
        replace o2 := o2.grew hb
        replace b6 := b6.grew hb
        replace o4 := o4.grew hb
        replace b11 := b11.grew hb
        replace hB := below_app hB hb hB.size
        clear hb
        obtain ⟨k0, k1, k2, k3, k4, k5, k6, k7, k8, k9, k10, k11, k12⟩ : Cells13 _ _ _ := b11.cells
        go_wp2_with fail
        refine ⟨.slice (some ⟨q4, i, none⟩) 52 (c4 - i), .inl ⟨?_, fun w => ?_⟩, ?_⟩
        · rfl
        · go_simp
          constructor <;> omega
        refine .inl ⟨.slice (some ⟨u7.heap.size, 0, none⟩) 0 0, (.agg #[.int .i64 (rawP n f4 i).id, .int .i64 (rawP n f4 i).ow, .int .i64 (rawP n f4 i).si, .int .i64 (rawP n f4 i).zo, .int .i64 (rawP n f4 i).st, .int .i64 (rawP n f4 i).po, .int .i64 (rawP n f4 i).to, .int .i64 (rawP n f4 i).tr, .int .i64 (rawP n f4 i).pl, .int .i64 (rawP n f4 i).mi, .int .i64 (rawP n f4 i).ma, .bool (rawP n f4 i).de, .bool (rawP n f4 i).be]), u7.alloc (.cells #[] 5), rfl, rfl, ?_, ?_, ?_, ?_⟩
        · go_simp
        · go_simp
        · clear k0 k1 k2 k3 k4 k5 k6 k7 k8 k9 k10 k11 k12
          obtain ⟨k0, k1, k2, k3, k4, k5, k6, k7, k8, k9, k10, k11, k12⟩ : Cells13 _ _ _ := (b11.alloc (.cells #[] 5)).cells
          go_simp
        clear k0 k1 k2 k3 k4 k5 k6 k7 k8 k9 k10 k11 k12
        have hb : Below u7.heap.size u7 (u7.alloc (.cells #[] 5)) := below_new _ _
        replace o1 := o1.grew hb
        replace b4 := b4.grew hb
        replace o2 := o2.grew hb
        replace b6 := b6.grew hb
        replace o4 := o4.grew hb
        replace b11 := b11.grew hb
        replace hB := below_app hB hb hB.size
        clear hb
        go_wp2_with fail
        refine (implPutPiece_cap _ 0 0 0 (fun _ => 0) (rawP n f4 i) _ (by omega) (.inl rfl)).mono ?_
        rintro e u8 ⟨g8, c8, rfl, hcp8, hb, o8⟩
        clear hcp8
        replace o1 := o1.grew hb
        replace b4 := b4.grew hb
        replace o2 := o2.grew hb
        replace b6 := b6.grew hb
        replace o4 := o4.grew hb
        replace b11 := b11.grew hb
        replace hB := below_app hB hb hB.size
        clear hb
        have HN8 : Hid (ppN 0 (rawP n f4 i) = 52 ∧ ppF 0 (fun _ => 0) (rawP n f4 i) = cat 0 (fun _ => 0) (encM (pcl (rawP n f4 i)))) := by constructor <;> simp [ppN, ppF, hokr]
        rw [HN8.out.1, HN8.out.2] at o8
        rw [HN8.out.1]
        have r8 : Rd .u8 u8 g8 (some ⟨g8, 0, none⟩) 52 (fun j => f4 (i + j)) := o8.rd.congr (fun j hj => by unfold cat; rw [if_neg (by omega), Nat.sub_zero]; exact HE.out j hj)
        have r4 := o4.rd.off (m := 52) (i := i) hi52
        rw [Nat.zero_add] at r4
        clear o8 HN8
        go_wp2_with fail
        refine (same_any _ _ g8 q4 52 _ _ (fun j => f4 (i + j)) u8 r8 r4).mono ?_
        rintro e u9 ⟨rfl, hu9⟩
        have HU9 : Hid (u9 = u8) := hu9
        clear hu9 r8 r4 o4 b11 HE
        go_wp2_with fail
        refine ⟨undef, .inr ⟨rfl, rfl⟩, ?_⟩
        rw [HU9.out]
        generalize u8 = u7 at hB o1 o2 b4 b6 ⊢
        obtain ⟨k0, k1, k2, k3, k4, k5, k6, k7, k8, k9, k10, k11, k12⟩ : Cells13 _ _ _ := b4.cells
        go_wp2_with fail
        refine (implPieceOk_any p _).mono ?_
        rintro e v8 ⟨rfl, hb⟩
        clear k0 k1 k2 k3 k4 k5 k6 k7 k8 k9 k10 k11 k12
        replace o1 := o1.grew hb
        replace o2 := o2.grew hb
        replace b4 := b4.grew hb
        replace b6 := b6.grew hb
        replace hB := below_app hB hb hB.size
        clear hb
        rw [hok]
        have r2 : Rd .u8 v8 q2 (some ⟨q2, 0, none⟩) m f1 := (o2.rd.first (by omega)).congr (fun i hi => by unfold cat; rw [if_pos hi])
        obtain ⟨k0, k1, k2, k3, k4, k5, k6, k7, k8, k9, k10, k11, k12⟩ : Cells13 _ _ _ := b6.cells
        obtain ⟨l0, l1, l2, l3, l4, l5, l6, l7, l8, l9, l10, l11, l12⟩ : Cells13 _ _ _ := b4.cells
        clear b4 b6 o2
        have z3 : (m : Int) ≤ (c2 : Int) := by omega
        go_wp2_with fail
        refine (same_any _ _ q2 q1 m _ _ f1 _ r2 o1.rd).mono ?_
        rintro e v9 ⟨rfl, hu9⟩
        rw [hu9]
        clear hu9 k0 k1 k2 k3 k4 k5 k6 k7 k8 k9 k10 k11 k12 l0 l1 l2 l3 l4 l5 l6 l7 l8 l9 l10 l11 l12
        go_wp2
        go_ret
        exact ⟨rfl, hB⟩

set_option maxRecDepth 100000 in
theorem lifted (os : Os) (started : os.Started) (H : Type) (enc : TypeId × Value → H) :
    ReturnsInHanded {} Try.checked os 5 .any (Rows.fnPieceBytesSpec.pre6 enc Try.prog Try.f5 Rows.fnPieceBytesRow.domain false) (Rows.fnPieceBytesSpec.post enc Try.prog Try.f5 false true false false) := by
  refine returnsInHanded_of_change (C := Try.checked) own started (by kernel_rfl) Try.func5
    (ChangeSpec.witness6 (enc := enc) (C := Try.checked) false ⟨#[], #[.slice none 0 0], []⟩ 8 (by kernel_rfl) (by kernel_rfl) (by kernel_rfl) (by kernel_rfl)) ?_
  intro W base args ds gs before hval0 hW hcnd _
  have hval : ∀ (j : Nat) t v, Try.f5.params[j]? = some t → args[j]? = some v → Value.okWide Try.prog W .any base t v := hval0
  have hW' := hW
  obtain ⟨p, q, hA0, hV, rfl, hfz, hnd⟩ := hW
  have hA : DataW.TrodAll enc Try.prog W 0 (fun _ => true) true Try.f5.params.toList args.toList ds p := hA0
  rw [Try.params5] at hA hval
  obtain ⟨v0, vs0, d0, ds0, p0, q0, hargs, rfl, rfl, h0, r0⟩ := trodAll_cons hA
  obtain ⟨rfl, rfl, rfl⟩ := trodAll_nil r0
  obtain rfl : args = #[v0] := by cases args; simp_all
  obtain ⟨rfl, rfl⟩ := trodVars_none hV
  obtain ⟨a0, len0, cap0, rfl⟩ := okWide_slice Try.underlying22 (hval 0 22 v0 rfl rfl)
  have k0 := h0
  have lt0 : ∀ x ∈ p0, x.block < W.heap.size := by obtain ⟨m, hm⟩ := k0; exact DataW.trod_lt m _ _ _ hm
  obtain ⟨z0, w0⟩ : ∃ zs, IsRow .u8 W a0 len0 cap0 zs := by
    obtain ⟨fuel, hf⟩ := h0
    rcases open_ints Try.underlying22 Try.underlying5 (by kernel_rfl) hf with ⟨hcs, _⟩ | ⟨x, l, c, zs, hcs, _, hl, hm, hz, _, hcell, hwz⟩
    · simp [Value.cells] at hcs
      obtain ⟨rfl, rfl, rfl⟩ := hcs
      exact ⟨[], .inl ⟨rfl, rfl, rfl, rfl⟩⟩
    · simp [Value.cells] at hcs
      obtain ⟨rfl, rfl, rfl⟩ := hcs
      exact ⟨zs, .inr ⟨_, rfl, hl, hm, by simpa using hz, hcell, hwz⟩⟩
  clear hA0 hval0
  refine (walk a0 len0 cap0 z0 W w0).mono fun e W' ⟨he, bel⟩ => ?_
  subst he
  exact ⟨_, rfl, _, _, _, [], _, [], hW', trodAll_mk1 (shut_bool Try.underlying4 _), (trodAll_cons_mk (Below.trod laidOut (by kernel_rfl) (of_decide_eq_true (by kernel_rfl)) k0 bel lt0) trodAll_mk0), rfl, bel.frame _, fun h => by cases h⟩

theorem over : Rows.fnPieceBytesRow.holds Try.pinned (OpenSpec.ofChange Rows.fnPieceBytesSpec) :=
  OpenClaim.holds_of_wide 5 Try.f5 rfl rfl rfl rfl rfl rfl rfl ⟨rfl, rfl, rfl, rfl, rfl⟩ rfl rfl rfl rfl rfl (by kernel_rfl) Try.func5 (by kernel_rfl)
    (of_decide_eq_true (by kernel_rfl)) (by unfold Func.isWrapper; first | (rw [if_pos (by decide +kernel)]; kernel_rfl) | (rw [if_neg (by decide +kernel)]; exact ⟨rfl, rfl⟩))
    (fun os started H enc _ => lifted os started H enc)

theorem proved : Rows.FnPieceBytesSaid := over
#print axioms proved
end Go.Proofs.Ythhmfbegbhndaab.fnPieceBytes
