/-
  Chapter 8, the program: rightRule. Written by tools/gue.gen.py. Own work.
-/
import Derived.Test.YtodfdfncdoliiadGreatGuD
import Derived.Test.YtodfdfncdoliiadGreatPaI
import Derived.Test.YtodfdfncdoliiadGreatGSeg5
import Derived.Deep.RegionHeld
namespace Go.Proofs.YtodfdfncdoliiadGreat
open Go.ChangeShapes Go.WideShapes Go.ChangeAt Go.RowKit
set_option maxRecDepth 100000
set_option linter.unusedVariables false
set_option linter.unusedSimpArgs false

/-- the rule of this kind: its bounds, its function -/
def rlo : Nat → Int
  | 1 => -2147483647
  | _ => 0
def rhi : Nat → Int
  | 1 => 2147483647
  | 2 => 8
  | 4 => 8
  | _ => 0
def rfn : Nat → Value
  | 0 => .func (.func 126) #[] #[]
  | 1 => .func (.func 127) #[] #[]
  | 2 => .func (.func 128) #[] #[]
  | 3 => .func (.func 129) #[] #[]
  | 4 => .func (.func 130) #[] #[]
  | _ => .nilFunc
@[reducible] def rlV (k : Nat) : Value := .agg #[.int .i64 (rlo k), .int .i64 (rhi k), rfn k]
theorem rfn_one (k : Nat) : (rfn k).oneCell' = true := by
  unfold rfn
  split <;> rfl
def rlR : Array Value := #[.int .i64 0, .int .i64 0, .func (.func 126) #[] #[], .int .i64 (-2147483647), .int .i64 2147483647, .func (.func 127) #[] #[], .int .i64 0, .int .i64 8, .func (.func 128) #[] #[], .int .i64 0, .int .i64 0, .func (.func 129) #[] #[], .int .i64 0, .int .i64 8, .func (.func 130) #[] #[]]
theorem BoxR.rowOther {w : World} {b t g : Nat} {cs cs' : Array Value} (h : BoxR w b t cs) (hg : b < g) : BoxR (w.setRow g cs') b t cs := ((below_setRow (Below.refl g w) (Nat.le_refl g) cs').block b hg).trans h
theorem BoxR.rowNew {w : World} {b t : Nat} {cs cs' : Array Value} (h : BoxR w b t cs) : BoxR (w.setRow b cs') b t cs' := setRow_heap _ _ _ _ _ _ h
theorem results_rule {P : Program} {fn : Func} {p u : Tmp} {ty : TypeId} (h : fn.results = #[.cell p ty, .tmp u]) (tmps : Array Value) (w : World) (g : Nat) (t : TypeId) (cs : Array Value) (fr : Nat × Nat) (d : TypeDesc)
    (hp : tmps.getD p undef = .pointer (some ⟨g, 0, none⟩)) (hg : w.heap[g]? = some (.cells cs t fr))
    (hu : P.underlying ty = some d) (hd : (match d with | .struct _ | .array _ _ => true | _ => false) = true) (hi : (P.info? ty).map (·.size) = some cs.size) :
    (results fn tmps).run P w = .ok (.tuple #[.agg cs, tmps.getD u undef]) w := by
  have hp' : tmps[p]?.getD undef = .pointer (some ⟨g, 0, none⟩) := by simpa using hp
  simp [results, h, hp', asAddr, run_loadVar_row w g t ty cs fr d hg hu hd hi]
set_option maxHeartbeats 4000000 in
theorem rr_0 (nn : Int) (w : World) : Calls Tryz.prog 76 #[.agg #[.int .i64 0, .int .i64 nn]] w fun e w' => e = .returned (.tuple #[rlV 0, .bool (ib nn 0 0)]) ∧ Below w.heap.size w w' := by
  have HB := ((Below.refl _ w).alloc (Nat.le_refl _) (.cells #[.int .i64 0, .int .i64 nn] 27)).alloc (by simp) (.cells #[.int .i64 0, .int .i64 0, .nilFunc] 104)
  have x1 := (boxR_new w 27 #[.int .i64 0, .int .i64 nn]).alloc (.cells #[.int .i64 0, .int .i64 0, .nilFunc] 104)
  have x2 : BoxR ((w.alloc (.cells #[.int .i64 0, .int .i64 nn] 27)).alloc (.cells #[.int .i64 0, .int .i64 0, .nilFunc] 104)) (w.heap.size + 1) 104 #[.int .i64 0, .int .i64 0, .nilFunc] := heap_alloc2_new _ _ _
  generalize hV : (w.alloc (.cells #[.int .i64 0, .int .i64 nn] 27)).alloc (.cells #[.int .i64 0, .int .i64 0, .nilFunc] 104) = V at HB x1 x2
  have l1 := x1.lt
  have l2 := x2.lt
  have hX : ∃ X, X = (V.alloc (.cells #[.int .i64 0, .int .i64 0, .nilFunc, .int .i64 0, .int .i64 0, .nilFunc, .int .i64 0, .int .i64 0, .nilFunc, .int .i64 0, .int .i64 0, .nilFunc, .int .i64 0, .int .i64 0, .nilFunc] 155)).setRow V.heap.size rlR := ⟨_, rfl⟩
  obtain ⟨X, hX⟩ := hX
  have HX : Below w.heap.size w X := by rw [hX]; exact below_setRow (HB.alloc HB.size _) (by omega) _
  have y1 : BoxR X w.heap.size 27 #[.int .i64 0, .int .i64 nn] := by rw [hX]; exact (x1.alloc _).rowOther l1
  have y2 : BoxR X (w.heap.size + 1) 104 #[.int .i64 0, .int .i64 0, .nilFunc] := by rw [hX]; exact (x2.alloc _).rowOther l2
  have y3 : BoxR X V.heap.size 155 rlR := by rw [hX]; exact (boxR_new V _ _).rowNew
  have hXs : V.heap.size < X.heap.size := y3.lt
  unfold rlR at y3 hX
  have g0 := y1.cell 0
  have g1 := y1.cell 1
  simp at g0 g1
  have a0 := y3.cell 0
  have a1 := y3.cell 1
  have a2 := y3.cell 2
  simp at a0 a1 a2
  have hI : ib 0 0 4 = true := by decide
  have hY : ∃ Y, Y = (X.alloc (.cells #[.int .i64 0, .int .i64 0, .nilFunc] 104)).setRow X.heap.size #[.int .i64 0, .int .i64 0, .func (.func 126) #[] #[]] := ⟨_, rfl⟩
  obtain ⟨Y, hY⟩ := hY
  have HY : Below w.heap.size w Y := by rw [hY]; exact below_setRow (HX.alloc HX.size _) (by omega) _
  have z1 : BoxR Y w.heap.size 27 #[.int .i64 0, .int .i64 nn] := by rw [hY]; exact (y1.alloc _).rowOther (by omega)
  have z2 : BoxR Y (w.heap.size + 1) 104 #[.int .i64 0, .int .i64 0, .nilFunc] := by rw [hY]; exact (y2.alloc _).rowOther (by omega)
  have z3 : BoxR Y X.heap.size 104 #[.int .i64 0, .int .i64 0, .func (.func 126) #[] #[]] := by rw [hY]; exact (boxR_new X _ _).rowNew
  clear y1 y2 y3 x1 x2
  go_enter Tryz.func76, Tryz.ntmps76
  go_wp2_with first | (refine wpList_store_row rfl 155 (.tmp 4) _ rfl V.heap.size _ (by rfl) (by rfl) _ _ (heap_alloc_new V _) (by kernel_rfl) (by rfl) (by simp [Value.oneCell']) ?_; rw [← hX]; clear hX hV; (try simp only [Act.put, List.setIfInBounds_toArray, List.set_cons_zero, List.set_cons_succ])) | (refine wpList_store_row rfl 104 (.tmp 5) _ rfl X.heap.size _ (by rfl) (by rfl) _ _ (heap_alloc_new X _) (by kernel_rfl) (by rfl) (by simp [Value.oneCell']) ?_; rw [← hY]; clear hY g0 g1 a0 a1 a2; (try simp only [Act.put, List.setIfInBounds_toArray, List.set_cons_zero, List.set_cons_succ])) | (go_at_call 75; refine (between_any _ _ _ _).mono ?_; rintro e w' ⟨rfl, hw'⟩; rw [hw', hI]; clear hw' w' hI)
  have c0 := z3.cell 0
  have c1 := z3.cell 1
  have c2 := z3.cell 2
  have d1 := z1.cell 1
  simp only [List.size_toArray, List.getElem?_toArray, List.getElem?_cons_zero, List.getElem?_cons_succ] at c0 c1 c2 d1
  refine wp_region_tail_lit 8 (by kernel_rfl) (by kernel_rfl) (by decide) (by intro c d v a w h; cases d <;> exact h) ?_
  simp only [List.take_succ_cons, List.take_zero, List.drop_succ_cons, List.drop_zero]
  repeat (go_big_quiet_step ((go_at_call 75; refine Calls.quiet_of_same (between_any _ _ _ _))))
  refine wpQuiet_nil ?_
  rintro _ ⟨nq, rfl⟩
  have z4 := z2.grew (below_drewN (Below.refl _ Y) nq)
  have hb4 := below_setRow (below_drewN HY nq) (by omega : w.heap.size ≤ w.heap.size + 1) #[.int .i64 0, .int .i64 0, .func (.func 126) #[] #[]]
  have z5 := z4.rowNew (cs' := #[.int .i64 0, .int .i64 0, .func (.func 126) #[] #[]])
  clear c0 c1 c2 d1 z1 z2 z3
  go_wp2_with (refine wpList_store_row rfl 104 (.tmp 2) _ rfl (w.heap.size + 1) #[.int .i64 0, .int .i64 0, .func (.func 126) #[] #[]] (by rfl) (by rfl) _ _ z4 (by kernel_rfl) (by rfl) (by simp [Value.oneCell']) ?_)
  (try simp only [Exit.inBlock, Exit.then]); refine bodyPost_ret (results_rule rfl _ _ (w.heap.size + 1) _ _ _ _ rfl z5 Tryz.underlying104 rfl (by kernel_rfl)) rfl ?_
  exact ⟨rfl, hb4⟩
set_option maxHeartbeats 4000000 in
theorem rr_1 (nn : Int) (w : World) : Calls Tryz.prog 76 #[.agg #[.int .i64 1, .int .i64 nn]] w fun e w' => e = .returned (.tuple #[rlV 1, .bool (ib nn (-2147483647) 2147483647)]) ∧ Below w.heap.size w w' := by
  have HB := ((Below.refl _ w).alloc (Nat.le_refl _) (.cells #[.int .i64 1, .int .i64 nn] 27)).alloc (by simp) (.cells #[.int .i64 0, .int .i64 0, .nilFunc] 104)
  have x1 := (boxR_new w 27 #[.int .i64 1, .int .i64 nn]).alloc (.cells #[.int .i64 0, .int .i64 0, .nilFunc] 104)
  have x2 : BoxR ((w.alloc (.cells #[.int .i64 1, .int .i64 nn] 27)).alloc (.cells #[.int .i64 0, .int .i64 0, .nilFunc] 104)) (w.heap.size + 1) 104 #[.int .i64 0, .int .i64 0, .nilFunc] := heap_alloc2_new _ _ _
  generalize hV : (w.alloc (.cells #[.int .i64 1, .int .i64 nn] 27)).alloc (.cells #[.int .i64 0, .int .i64 0, .nilFunc] 104) = V at HB x1 x2
  have l1 := x1.lt
  have l2 := x2.lt
  have hX : ∃ X, X = (V.alloc (.cells #[.int .i64 0, .int .i64 0, .nilFunc, .int .i64 0, .int .i64 0, .nilFunc, .int .i64 0, .int .i64 0, .nilFunc, .int .i64 0, .int .i64 0, .nilFunc, .int .i64 0, .int .i64 0, .nilFunc] 155)).setRow V.heap.size rlR := ⟨_, rfl⟩
  obtain ⟨X, hX⟩ := hX
  have HX : Below w.heap.size w X := by rw [hX]; exact below_setRow (HB.alloc HB.size _) (by omega) _
  have y1 : BoxR X w.heap.size 27 #[.int .i64 1, .int .i64 nn] := by rw [hX]; exact (x1.alloc _).rowOther l1
  have y2 : BoxR X (w.heap.size + 1) 104 #[.int .i64 0, .int .i64 0, .nilFunc] := by rw [hX]; exact (x2.alloc _).rowOther l2
  have y3 : BoxR X V.heap.size 155 rlR := by rw [hX]; exact (boxR_new V _ _).rowNew
  have hXs : V.heap.size < X.heap.size := y3.lt
  unfold rlR at y3 hX
  have g0 := y1.cell 0
  have g1 := y1.cell 1
  simp at g0 g1
  have a0 := y3.cell 3
  have a1 := y3.cell 4
  have a2 := y3.cell 5
  simp at a0 a1 a2
  have hI : ib 1 0 4 = true := by decide
  have hY : ∃ Y, Y = (X.alloc (.cells #[.int .i64 0, .int .i64 0, .nilFunc] 104)).setRow X.heap.size #[.int .i64 (-2147483647), .int .i64 2147483647, .func (.func 127) #[] #[]] := ⟨_, rfl⟩
  obtain ⟨Y, hY⟩ := hY
  have HY : Below w.heap.size w Y := by rw [hY]; exact below_setRow (HX.alloc HX.size _) (by omega) _
  have z1 : BoxR Y w.heap.size 27 #[.int .i64 1, .int .i64 nn] := by rw [hY]; exact (y1.alloc _).rowOther (by omega)
  have z2 : BoxR Y (w.heap.size + 1) 104 #[.int .i64 0, .int .i64 0, .nilFunc] := by rw [hY]; exact (y2.alloc _).rowOther (by omega)
  have z3 : BoxR Y X.heap.size 104 #[.int .i64 (-2147483647), .int .i64 2147483647, .func (.func 127) #[] #[]] := by rw [hY]; exact (boxR_new X _ _).rowNew
  clear y1 y2 y3 x1 x2
  go_enter Tryz.func76, Tryz.ntmps76
  go_wp2_with first | (refine wpList_store_row rfl 155 (.tmp 4) _ rfl V.heap.size _ (by rfl) (by rfl) _ _ (heap_alloc_new V _) (by kernel_rfl) (by rfl) (by simp [Value.oneCell']) ?_; rw [← hX]; clear hX hV; (try simp only [Act.put, List.setIfInBounds_toArray, List.set_cons_zero, List.set_cons_succ])) | (refine wpList_store_row rfl 104 (.tmp 5) _ rfl X.heap.size _ (by rfl) (by rfl) _ _ (heap_alloc_new X _) (by kernel_rfl) (by rfl) (by simp [Value.oneCell']) ?_; rw [← hY]; clear hY g0 g1 a0 a1 a2; (try simp only [Act.put, List.setIfInBounds_toArray, List.set_cons_zero, List.set_cons_succ])) | (go_at_call 75; refine (between_any _ _ _ _).mono ?_; rintro e w' ⟨rfl, hw'⟩; rw [hw', hI]; clear hw' w' hI)
  have c0 := z3.cell 0
  have c1 := z3.cell 1
  have c2 := z3.cell 2
  have d1 := z1.cell 1
  simp only [List.size_toArray, List.getElem?_toArray, List.getElem?_cons_zero, List.getElem?_cons_succ] at c0 c1 c2 d1
  refine wp_region_tail_lit 8 (by kernel_rfl) (by kernel_rfl) (by decide) (by intro c d v a w h; cases d <;> exact h) ?_
  simp only [List.take_succ_cons, List.take_zero, List.drop_succ_cons, List.drop_zero]
  repeat (go_big_quiet_step ((go_at_call 75; refine Calls.quiet_of_same (between_any _ _ _ _))))
  refine wpQuiet_nil ?_
  rintro _ ⟨nq, rfl⟩
  have z4 := z2.grew (below_drewN (Below.refl _ Y) nq)
  have hb4 := below_setRow (below_drewN HY nq) (by omega : w.heap.size ≤ w.heap.size + 1) #[.int .i64 (-2147483647), .int .i64 2147483647, .func (.func 127) #[] #[]]
  have z5 := z4.rowNew (cs' := #[.int .i64 (-2147483647), .int .i64 2147483647, .func (.func 127) #[] #[]])
  clear c0 c1 c2 d1 z1 z2 z3
  go_wp2_with (refine wpList_store_row rfl 104 (.tmp 2) _ rfl (w.heap.size + 1) #[.int .i64 (-2147483647), .int .i64 2147483647, .func (.func 127) #[] #[]] (by rfl) (by rfl) _ _ z4 (by kernel_rfl) (by rfl) (by simp [Value.oneCell']) ?_)
  (try simp only [Exit.inBlock, Exit.then]); refine bodyPost_ret (results_rule rfl _ _ (w.heap.size + 1) _ _ _ _ rfl z5 Tryz.underlying104 rfl (by kernel_rfl)) rfl ?_
  exact ⟨rfl, hb4⟩
set_option maxHeartbeats 4000000 in
theorem rr_2 (nn : Int) (w : World) : Calls Tryz.prog 76 #[.agg #[.int .i64 2, .int .i64 nn]] w fun e w' => e = .returned (.tuple #[rlV 2, .bool (ib nn 0 8)]) ∧ Below w.heap.size w w' := by
  have HB := ((Below.refl _ w).alloc (Nat.le_refl _) (.cells #[.int .i64 2, .int .i64 nn] 27)).alloc (by simp) (.cells #[.int .i64 0, .int .i64 0, .nilFunc] 104)
  have x1 := (boxR_new w 27 #[.int .i64 2, .int .i64 nn]).alloc (.cells #[.int .i64 0, .int .i64 0, .nilFunc] 104)
  have x2 : BoxR ((w.alloc (.cells #[.int .i64 2, .int .i64 nn] 27)).alloc (.cells #[.int .i64 0, .int .i64 0, .nilFunc] 104)) (w.heap.size + 1) 104 #[.int .i64 0, .int .i64 0, .nilFunc] := heap_alloc2_new _ _ _
  generalize hV : (w.alloc (.cells #[.int .i64 2, .int .i64 nn] 27)).alloc (.cells #[.int .i64 0, .int .i64 0, .nilFunc] 104) = V at HB x1 x2
  have l1 := x1.lt
  have l2 := x2.lt
  have hX : ∃ X, X = (V.alloc (.cells #[.int .i64 0, .int .i64 0, .nilFunc, .int .i64 0, .int .i64 0, .nilFunc, .int .i64 0, .int .i64 0, .nilFunc, .int .i64 0, .int .i64 0, .nilFunc, .int .i64 0, .int .i64 0, .nilFunc] 155)).setRow V.heap.size rlR := ⟨_, rfl⟩
  obtain ⟨X, hX⟩ := hX
  have HX : Below w.heap.size w X := by rw [hX]; exact below_setRow (HB.alloc HB.size _) (by omega) _
  have y1 : BoxR X w.heap.size 27 #[.int .i64 2, .int .i64 nn] := by rw [hX]; exact (x1.alloc _).rowOther l1
  have y2 : BoxR X (w.heap.size + 1) 104 #[.int .i64 0, .int .i64 0, .nilFunc] := by rw [hX]; exact (x2.alloc _).rowOther l2
  have y3 : BoxR X V.heap.size 155 rlR := by rw [hX]; exact (boxR_new V _ _).rowNew
  have hXs : V.heap.size < X.heap.size := y3.lt
  unfold rlR at y3 hX
  have g0 := y1.cell 0
  have g1 := y1.cell 1
  simp at g0 g1
  have a0 := y3.cell 6
  have a1 := y3.cell 7
  have a2 := y3.cell 8
  simp at a0 a1 a2
  have hI : ib 2 0 4 = true := by decide
  have hY : ∃ Y, Y = (X.alloc (.cells #[.int .i64 0, .int .i64 0, .nilFunc] 104)).setRow X.heap.size #[.int .i64 0, .int .i64 8, .func (.func 128) #[] #[]] := ⟨_, rfl⟩
  obtain ⟨Y, hY⟩ := hY
  have HY : Below w.heap.size w Y := by rw [hY]; exact below_setRow (HX.alloc HX.size _) (by omega) _
  have z1 : BoxR Y w.heap.size 27 #[.int .i64 2, .int .i64 nn] := by rw [hY]; exact (y1.alloc _).rowOther (by omega)
  have z2 : BoxR Y (w.heap.size + 1) 104 #[.int .i64 0, .int .i64 0, .nilFunc] := by rw [hY]; exact (y2.alloc _).rowOther (by omega)
  have z3 : BoxR Y X.heap.size 104 #[.int .i64 0, .int .i64 8, .func (.func 128) #[] #[]] := by rw [hY]; exact (boxR_new X _ _).rowNew
  clear y1 y2 y3 x1 x2
  go_enter Tryz.func76, Tryz.ntmps76
  go_wp2_with first | (refine wpList_store_row rfl 155 (.tmp 4) _ rfl V.heap.size _ (by rfl) (by rfl) _ _ (heap_alloc_new V _) (by kernel_rfl) (by rfl) (by simp [Value.oneCell']) ?_; rw [← hX]; clear hX hV; (try simp only [Act.put, List.setIfInBounds_toArray, List.set_cons_zero, List.set_cons_succ])) | (refine wpList_store_row rfl 104 (.tmp 5) _ rfl X.heap.size _ (by rfl) (by rfl) _ _ (heap_alloc_new X _) (by kernel_rfl) (by rfl) (by simp [Value.oneCell']) ?_; rw [← hY]; clear hY g0 g1 a0 a1 a2; (try simp only [Act.put, List.setIfInBounds_toArray, List.set_cons_zero, List.set_cons_succ])) | (go_at_call 75; refine (between_any _ _ _ _).mono ?_; rintro e w' ⟨rfl, hw'⟩; rw [hw', hI]; clear hw' w' hI)
  have c0 := z3.cell 0
  have c1 := z3.cell 1
  have c2 := z3.cell 2
  have d1 := z1.cell 1
  simp only [List.size_toArray, List.getElem?_toArray, List.getElem?_cons_zero, List.getElem?_cons_succ] at c0 c1 c2 d1
  refine wp_region_tail_lit 8 (by kernel_rfl) (by kernel_rfl) (by decide) (by intro c d v a w h; cases d <;> exact h) ?_
  simp only [List.take_succ_cons, List.take_zero, List.drop_succ_cons, List.drop_zero]
  repeat (go_big_quiet_step ((go_at_call 75; refine Calls.quiet_of_same (between_any _ _ _ _))))
  refine wpQuiet_nil ?_
  rintro _ ⟨nq, rfl⟩
  have z4 := z2.grew (below_drewN (Below.refl _ Y) nq)
  have hb4 := below_setRow (below_drewN HY nq) (by omega : w.heap.size ≤ w.heap.size + 1) #[.int .i64 0, .int .i64 8, .func (.func 128) #[] #[]]
  have z5 := z4.rowNew (cs' := #[.int .i64 0, .int .i64 8, .func (.func 128) #[] #[]])
  clear c0 c1 c2 d1 z1 z2 z3
  go_wp2_with (refine wpList_store_row rfl 104 (.tmp 2) _ rfl (w.heap.size + 1) #[.int .i64 0, .int .i64 8, .func (.func 128) #[] #[]] (by rfl) (by rfl) _ _ z4 (by kernel_rfl) (by rfl) (by simp [Value.oneCell']) ?_)
  (try simp only [Exit.inBlock, Exit.then]); refine bodyPost_ret (results_rule rfl _ _ (w.heap.size + 1) _ _ _ _ rfl z5 Tryz.underlying104 rfl (by kernel_rfl)) rfl ?_
  exact ⟨rfl, hb4⟩
set_option maxHeartbeats 4000000 in
theorem rr_3 (nn : Int) (w : World) : Calls Tryz.prog 76 #[.agg #[.int .i64 3, .int .i64 nn]] w fun e w' => e = .returned (.tuple #[rlV 3, .bool (ib nn 0 0)]) ∧ Below w.heap.size w w' := by
  have HB := ((Below.refl _ w).alloc (Nat.le_refl _) (.cells #[.int .i64 3, .int .i64 nn] 27)).alloc (by simp) (.cells #[.int .i64 0, .int .i64 0, .nilFunc] 104)
  have x1 := (boxR_new w 27 #[.int .i64 3, .int .i64 nn]).alloc (.cells #[.int .i64 0, .int .i64 0, .nilFunc] 104)
  have x2 : BoxR ((w.alloc (.cells #[.int .i64 3, .int .i64 nn] 27)).alloc (.cells #[.int .i64 0, .int .i64 0, .nilFunc] 104)) (w.heap.size + 1) 104 #[.int .i64 0, .int .i64 0, .nilFunc] := heap_alloc2_new _ _ _
  generalize hV : (w.alloc (.cells #[.int .i64 3, .int .i64 nn] 27)).alloc (.cells #[.int .i64 0, .int .i64 0, .nilFunc] 104) = V at HB x1 x2
  have l1 := x1.lt
  have l2 := x2.lt
  have hX : ∃ X, X = (V.alloc (.cells #[.int .i64 0, .int .i64 0, .nilFunc, .int .i64 0, .int .i64 0, .nilFunc, .int .i64 0, .int .i64 0, .nilFunc, .int .i64 0, .int .i64 0, .nilFunc, .int .i64 0, .int .i64 0, .nilFunc] 155)).setRow V.heap.size rlR := ⟨_, rfl⟩
  obtain ⟨X, hX⟩ := hX
  have HX : Below w.heap.size w X := by rw [hX]; exact below_setRow (HB.alloc HB.size _) (by omega) _
  have y1 : BoxR X w.heap.size 27 #[.int .i64 3, .int .i64 nn] := by rw [hX]; exact (x1.alloc _).rowOther l1
  have y2 : BoxR X (w.heap.size + 1) 104 #[.int .i64 0, .int .i64 0, .nilFunc] := by rw [hX]; exact (x2.alloc _).rowOther l2
  have y3 : BoxR X V.heap.size 155 rlR := by rw [hX]; exact (boxR_new V _ _).rowNew
  have hXs : V.heap.size < X.heap.size := y3.lt
  unfold rlR at y3 hX
  have g0 := y1.cell 0
  have g1 := y1.cell 1
  simp at g0 g1
  have a0 := y3.cell 9
  have a1 := y3.cell 10
  have a2 := y3.cell 11
  simp at a0 a1 a2
  have hI : ib 3 0 4 = true := by decide
  have hY : ∃ Y, Y = (X.alloc (.cells #[.int .i64 0, .int .i64 0, .nilFunc] 104)).setRow X.heap.size #[.int .i64 0, .int .i64 0, .func (.func 129) #[] #[]] := ⟨_, rfl⟩
  obtain ⟨Y, hY⟩ := hY
  have HY : Below w.heap.size w Y := by rw [hY]; exact below_setRow (HX.alloc HX.size _) (by omega) _
  have z1 : BoxR Y w.heap.size 27 #[.int .i64 3, .int .i64 nn] := by rw [hY]; exact (y1.alloc _).rowOther (by omega)
  have z2 : BoxR Y (w.heap.size + 1) 104 #[.int .i64 0, .int .i64 0, .nilFunc] := by rw [hY]; exact (y2.alloc _).rowOther (by omega)
  have z3 : BoxR Y X.heap.size 104 #[.int .i64 0, .int .i64 0, .func (.func 129) #[] #[]] := by rw [hY]; exact (boxR_new X _ _).rowNew
  clear y1 y2 y3 x1 x2
  go_enter Tryz.func76, Tryz.ntmps76
  go_wp2_with first | (refine wpList_store_row rfl 155 (.tmp 4) _ rfl V.heap.size _ (by rfl) (by rfl) _ _ (heap_alloc_new V _) (by kernel_rfl) (by rfl) (by simp [Value.oneCell']) ?_; rw [← hX]; clear hX hV; (try simp only [Act.put, List.setIfInBounds_toArray, List.set_cons_zero, List.set_cons_succ])) | (refine wpList_store_row rfl 104 (.tmp 5) _ rfl X.heap.size _ (by rfl) (by rfl) _ _ (heap_alloc_new X _) (by kernel_rfl) (by rfl) (by simp [Value.oneCell']) ?_; rw [← hY]; clear hY g0 g1 a0 a1 a2; (try simp only [Act.put, List.setIfInBounds_toArray, List.set_cons_zero, List.set_cons_succ])) | (go_at_call 75; refine (between_any _ _ _ _).mono ?_; rintro e w' ⟨rfl, hw'⟩; rw [hw', hI]; clear hw' w' hI)
  have c0 := z3.cell 0
  have c1 := z3.cell 1
  have c2 := z3.cell 2
  have d1 := z1.cell 1
  simp only [List.size_toArray, List.getElem?_toArray, List.getElem?_cons_zero, List.getElem?_cons_succ] at c0 c1 c2 d1
  refine wp_region_tail_lit 8 (by kernel_rfl) (by kernel_rfl) (by decide) (by intro c d v a w h; cases d <;> exact h) ?_
  simp only [List.take_succ_cons, List.take_zero, List.drop_succ_cons, List.drop_zero]
  repeat (go_big_quiet_step ((go_at_call 75; refine Calls.quiet_of_same (between_any _ _ _ _))))
  refine wpQuiet_nil ?_
  rintro _ ⟨nq, rfl⟩
  have z4 := z2.grew (below_drewN (Below.refl _ Y) nq)
  have hb4 := below_setRow (below_drewN HY nq) (by omega : w.heap.size ≤ w.heap.size + 1) #[.int .i64 0, .int .i64 0, .func (.func 129) #[] #[]]
  have z5 := z4.rowNew (cs' := #[.int .i64 0, .int .i64 0, .func (.func 129) #[] #[]])
  clear c0 c1 c2 d1 z1 z2 z3
  go_wp2_with (refine wpList_store_row rfl 104 (.tmp 2) _ rfl (w.heap.size + 1) #[.int .i64 0, .int .i64 0, .func (.func 129) #[] #[]] (by rfl) (by rfl) _ _ z4 (by kernel_rfl) (by rfl) (by simp [Value.oneCell']) ?_)
  (try simp only [Exit.inBlock, Exit.then]); refine bodyPost_ret (results_rule rfl _ _ (w.heap.size + 1) _ _ _ _ rfl z5 Tryz.underlying104 rfl (by kernel_rfl)) rfl ?_
  exact ⟨rfl, hb4⟩
set_option maxHeartbeats 4000000 in
theorem rr_4 (nn : Int) (w : World) : Calls Tryz.prog 76 #[.agg #[.int .i64 4, .int .i64 nn]] w fun e w' => e = .returned (.tuple #[rlV 4, .bool (ib nn 0 8)]) ∧ Below w.heap.size w w' := by
  have HB := ((Below.refl _ w).alloc (Nat.le_refl _) (.cells #[.int .i64 4, .int .i64 nn] 27)).alloc (by simp) (.cells #[.int .i64 0, .int .i64 0, .nilFunc] 104)
  have x1 := (boxR_new w 27 #[.int .i64 4, .int .i64 nn]).alloc (.cells #[.int .i64 0, .int .i64 0, .nilFunc] 104)
  have x2 : BoxR ((w.alloc (.cells #[.int .i64 4, .int .i64 nn] 27)).alloc (.cells #[.int .i64 0, .int .i64 0, .nilFunc] 104)) (w.heap.size + 1) 104 #[.int .i64 0, .int .i64 0, .nilFunc] := heap_alloc2_new _ _ _
  generalize hV : (w.alloc (.cells #[.int .i64 4, .int .i64 nn] 27)).alloc (.cells #[.int .i64 0, .int .i64 0, .nilFunc] 104) = V at HB x1 x2
  have l1 := x1.lt
  have l2 := x2.lt
  have hX : ∃ X, X = (V.alloc (.cells #[.int .i64 0, .int .i64 0, .nilFunc, .int .i64 0, .int .i64 0, .nilFunc, .int .i64 0, .int .i64 0, .nilFunc, .int .i64 0, .int .i64 0, .nilFunc, .int .i64 0, .int .i64 0, .nilFunc] 155)).setRow V.heap.size rlR := ⟨_, rfl⟩
  obtain ⟨X, hX⟩ := hX
  have HX : Below w.heap.size w X := by rw [hX]; exact below_setRow (HB.alloc HB.size _) (by omega) _
  have y1 : BoxR X w.heap.size 27 #[.int .i64 4, .int .i64 nn] := by rw [hX]; exact (x1.alloc _).rowOther l1
  have y2 : BoxR X (w.heap.size + 1) 104 #[.int .i64 0, .int .i64 0, .nilFunc] := by rw [hX]; exact (x2.alloc _).rowOther l2
  have y3 : BoxR X V.heap.size 155 rlR := by rw [hX]; exact (boxR_new V _ _).rowNew
  have hXs : V.heap.size < X.heap.size := y3.lt
  unfold rlR at y3 hX
  have g0 := y1.cell 0
  have g1 := y1.cell 1
  simp at g0 g1
  have a0 := y3.cell 12
  have a1 := y3.cell 13
  have a2 := y3.cell 14
  simp at a0 a1 a2
  have hI : ib 4 0 4 = true := by decide
  have hY : ∃ Y, Y = (X.alloc (.cells #[.int .i64 0, .int .i64 0, .nilFunc] 104)).setRow X.heap.size #[.int .i64 0, .int .i64 8, .func (.func 130) #[] #[]] := ⟨_, rfl⟩
  obtain ⟨Y, hY⟩ := hY
  have HY : Below w.heap.size w Y := by rw [hY]; exact below_setRow (HX.alloc HX.size _) (by omega) _
  have z1 : BoxR Y w.heap.size 27 #[.int .i64 4, .int .i64 nn] := by rw [hY]; exact (y1.alloc _).rowOther (by omega)
  have z2 : BoxR Y (w.heap.size + 1) 104 #[.int .i64 0, .int .i64 0, .nilFunc] := by rw [hY]; exact (y2.alloc _).rowOther (by omega)
  have z3 : BoxR Y X.heap.size 104 #[.int .i64 0, .int .i64 8, .func (.func 130) #[] #[]] := by rw [hY]; exact (boxR_new X _ _).rowNew
  clear y1 y2 y3 x1 x2
  go_enter Tryz.func76, Tryz.ntmps76
  go_wp2_with first | (refine wpList_store_row rfl 155 (.tmp 4) _ rfl V.heap.size _ (by rfl) (by rfl) _ _ (heap_alloc_new V _) (by kernel_rfl) (by rfl) (by simp [Value.oneCell']) ?_; rw [← hX]; clear hX hV; (try simp only [Act.put, List.setIfInBounds_toArray, List.set_cons_zero, List.set_cons_succ])) | (refine wpList_store_row rfl 104 (.tmp 5) _ rfl X.heap.size _ (by rfl) (by rfl) _ _ (heap_alloc_new X _) (by kernel_rfl) (by rfl) (by simp [Value.oneCell']) ?_; rw [← hY]; clear hY g0 g1 a0 a1 a2; (try simp only [Act.put, List.setIfInBounds_toArray, List.set_cons_zero, List.set_cons_succ])) | (go_at_call 75; refine (between_any _ _ _ _).mono ?_; rintro e w' ⟨rfl, hw'⟩; rw [hw', hI]; clear hw' w' hI)
  have c0 := z3.cell 0
  have c1 := z3.cell 1
  have c2 := z3.cell 2
  have d1 := z1.cell 1
  simp only [List.size_toArray, List.getElem?_toArray, List.getElem?_cons_zero, List.getElem?_cons_succ] at c0 c1 c2 d1
  refine wp_region_tail_lit 8 (by kernel_rfl) (by kernel_rfl) (by decide) (by intro c d v a w h; cases d <;> exact h) ?_
  simp only [List.take_succ_cons, List.take_zero, List.drop_succ_cons, List.drop_zero]
  repeat (go_big_quiet_step ((go_at_call 75; refine Calls.quiet_of_same (between_any _ _ _ _))))
  refine wpQuiet_nil ?_
  rintro _ ⟨nq, rfl⟩
  have z4 := z2.grew (below_drewN (Below.refl _ Y) nq)
  have hb4 := below_setRow (below_drewN HY nq) (by omega : w.heap.size ≤ w.heap.size + 1) #[.int .i64 0, .int .i64 8, .func (.func 130) #[] #[]]
  have z5 := z4.rowNew (cs' := #[.int .i64 0, .int .i64 8, .func (.func 130) #[] #[]])
  clear c0 c1 c2 d1 z1 z2 z3
  go_wp2_with (refine wpList_store_row rfl 104 (.tmp 2) _ rfl (w.heap.size + 1) #[.int .i64 0, .int .i64 8, .func (.func 130) #[] #[]] (by rfl) (by rfl) _ _ z4 (by kernel_rfl) (by rfl) (by simp [Value.oneCell']) ?_)
  (try simp only [Exit.inBlock, Exit.then]); refine bodyPost_ret (results_rule rfl _ _ (w.heap.size + 1) _ _ _ _ rfl z5 Tryz.underlying104 rfl (by kernel_rfl)) rfl ?_
  exact ⟨rfl, hb4⟩
set_option maxHeartbeats 4000000 in
theorem rr_x (kd nn : Int) (w : World) (hI : ib kd 0 4 = false) : Calls Tryz.prog 76 #[.agg #[.int .i64 kd, .int .i64 nn]] w fun e w' => e = .returned (.tuple #[rlV 5, .bool false]) ∧ Below w.heap.size w w' := by
  have HB := ((Below.refl _ w).alloc (Nat.le_refl _) (.cells #[.int .i64 kd, .int .i64 nn] 27)).alloc (by simp) (.cells #[.int .i64 0, .int .i64 0, .nilFunc] 104)
  have x1 := (boxR_new w 27 #[.int .i64 kd, .int .i64 nn]).alloc (.cells #[.int .i64 0, .int .i64 0, .nilFunc] 104)
  have x2 : BoxR ((w.alloc (.cells #[.int .i64 kd, .int .i64 nn] 27)).alloc (.cells #[.int .i64 0, .int .i64 0, .nilFunc] 104)) (w.heap.size + 1) 104 #[.int .i64 0, .int .i64 0, .nilFunc] := heap_alloc2_new _ _ _
  generalize hV : (w.alloc (.cells #[.int .i64 kd, .int .i64 nn] 27)).alloc (.cells #[.int .i64 0, .int .i64 0, .nilFunc] 104) = V at HB x1 x2
  have l1 := x1.lt
  have l2 := x2.lt
  have hX : ∃ X, X = (V.alloc (.cells #[.int .i64 0, .int .i64 0, .nilFunc, .int .i64 0, .int .i64 0, .nilFunc, .int .i64 0, .int .i64 0, .nilFunc, .int .i64 0, .int .i64 0, .nilFunc, .int .i64 0, .int .i64 0, .nilFunc] 155)).setRow V.heap.size rlR := ⟨_, rfl⟩
  obtain ⟨X, hX⟩ := hX
  have HX : Below w.heap.size w X := by rw [hX]; exact below_setRow (HB.alloc HB.size _) (by omega) _
  have y1 : BoxR X w.heap.size 27 #[.int .i64 kd, .int .i64 nn] := by rw [hX]; exact (x1.alloc _).rowOther l1
  have y2 : BoxR X (w.heap.size + 1) 104 #[.int .i64 0, .int .i64 0, .nilFunc] := by rw [hX]; exact (x2.alloc _).rowOther l2
  unfold rlR at hX
  have g0 := y1.cell 0
  have g1 := y1.cell 1
  simp at g0 g1
  have hb4 := below_setRow HX (by omega : w.heap.size ≤ w.heap.size + 1) #[.int .i64 0, .int .i64 0, .nilFunc]
  have z5 := y2.rowNew (cs' := #[.int .i64 0, .int .i64 0, .nilFunc])
  clear y1 x1 x2
  go_enter Tryz.func76, Tryz.ntmps76
  go_wp2_with first | (refine wpList_store_row rfl 155 (.tmp 4) _ rfl V.heap.size _ (by rfl) (by rfl) _ _ (heap_alloc_new V _) (by kernel_rfl) (by rfl) (by simp [Value.oneCell']) ?_; rw [← hX]; clear hX hV; (try simp only [Act.put, List.setIfInBounds_toArray, List.set_cons_zero, List.set_cons_succ])) | (go_at_call 75; refine (between_any _ _ _ _).mono ?_; rintro e w' ⟨rfl, hw'⟩; rw [hw', hI]; clear hw' w' hI) | (refine wpList_store_row rfl 104 (.tmp 2) _ rfl (w.heap.size + 1) #[.int .i64 0, .int .i64 0, .nilFunc] (by rfl) (by rfl) _ _ y2 (by kernel_rfl) (by rfl) (by simp [Value.oneCell']) ?_; (try simp only [Act.put, List.setIfInBounds_toArray, List.set_cons_zero, List.set_cons_succ]))
  (try simp only [Exit.inBlock, Exit.then]); refine bodyPost_ret (results_rule rfl _ _ (w.heap.size + 1) _ _ _ _ rfl z5 Tryz.underlying104 rfl (by kernel_rfl)) rfl ?_
  exact ⟨rfl, hb4⟩
/-- the row of the table that a guard's kind names, 5 for none -/
def rlK (g : Gd) : Nat := bif ib g.kd 0 4 then g.kd.toNat else 5
theorem rightRule_any (g : Gd) (w : World) : Calls Tryz.prog 76 #[(.agg #[.int .i64 g.kd, .int .i64 g.nn])] w fun e w' => e = .returned (.tuple #[rlV (rlK g), .bool (okGd g)]) ∧ Below w.heap.size w w' := by
  obtain ⟨kd, nn⟩ := g
  cases hI : ib kd 0 4
  case false =>
    have e1 : rlK ⟨kd, nn⟩ = 5 := by unfold rlK; rw [hI]; rfl
    have e2 : okGd ⟨kd, nn⟩ = false := by
      cases h : okGd ⟨kd, nn⟩
      · rfl
      · have := okGd_kd h
        unfold ib at hI
        simp at hI this
        omega
    rw [e1, e2]
    exact rr_x kd nn w hI
  case true =>
    have hb := ib_bd hI
    have hk : kd = 0 ∨ kd = 1 ∨ kd = 2 ∨ kd = 3 ∨ kd = 4 := by omega
    rcases hk with rfl | rfl | rfl | rfl | rfl
    · have e : okGd ⟨0, nn⟩ = ib nn 0 0 := by unfold okGd ib; simp; rw [Bool.eq_iff_iff]; simp; omega
      rw [e]; exact rr_0 nn w
    · exact rr_1 nn w
    · exact rr_2 nn w
    · have e : okGd ⟨3, nn⟩ = ib nn 0 0 := by unfold okGd ib; simp; rw [Bool.eq_iff_iff]; simp; omega
      rw [e]; exact rr_3 nn w
    · exact rr_4 nn w
end Go.Proofs.YtodfdfncdoliiadGreat
