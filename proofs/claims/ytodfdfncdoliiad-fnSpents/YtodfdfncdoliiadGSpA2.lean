/-
  Chapter 10: the library's Clone of things; the specification's l9Copy. Written by tools/sp.gen.py. Chapter 10: words for an effect: a box's cells; how a law compares two. Written by tools/ef.gen.py. Own work.
-/
import Derived.Test.YtodfdfncdoliiadGEfB2
import Derived.Test.YtodfdfncdoliiadStNew
import Derived.Deep.DeepCutAuto
import Derived.Deep.CutBlock
import Derived.Laws.OwnMore
namespace Go.Proofs.Ytodfdfncdoliiad
open Go.ChangeShapes Go.WideShapes Go.ChangeAt Go.RowKit
set_option maxRecDepth 100000
set_option linter.unusedVariables false
set_option linter.unusedSimpArgs false

theorem run_append_noneC {P : Program} {w : World} {base : Nat} (t ty e : TypeId) (i : TypeInfo) (size : Nat) (ht : P.underlying t = some (.slice e)) (hi : P.info? e = some i) (v : Value) (n : Nat) (xs : List Value) (hown : w.ownsRow base e size v n xs) (c : Nat) :
    (Builtin.append_ #[t, t] ty #[v, .slice none 0 c]).run P w = .ok v w := by
  rcases hown.2 with ⟨rfl, rfl⟩ | ⟨g, cap, cur, rfl, _, _, hnc, _⟩
  · simp [Builtin.append_, run_underlying ht, sizeOf, typeInfo, hi, Builtin.lenOf, Builtin.firstCells]
  · simp [Builtin.append_, run_underlying ht, sizeOf, typeInfo, hi, Builtin.lenOf, Builtin.firstCells, hnc, storeCells]
theorem wpList_append_noneC {P : Program} {w : World} {ops : Array Oper} {rest : List Oper} {o : Oper} {a : Act} {Q : Exit → Act → World → Prop} (hgd : o.guard = none) (s x : Operand) (t : TypeId)
    (ho : o.op = .call { callee := .builtin .append, args := #[s, x], argTypes := #[t, t] }) (base : Nat) (e : TypeId) (i : TypeInfo) (size : Nat) (ht : P.underlying t = some (.slice e)) (hi : P.info? e = some i)
    (v : Value) (n : Nat) (xs : List Value) (hs : a.eval s = v) (hown : w.ownsRow base e size v n xs) (c : Nat) (hx : a.eval x = .slice none 0 c)
    (h : wpList P ops Q rest (a.put o.dst v) w) : wpList P ops Q (o :: rest) a w := by
  refine wpList_plain hgd fun K hK => ?_
  have hrun := run_append_noneC (P := P) (w := w) (base := base) t o.type e i size ht hi v n xs hown c
  unfold Oper.wp
  simp [execOp, ho, resolve, invoke, builtin, hs, hx, hrun, Result.andThen]
  exact hK _ _ h
theorem BoxR.grownS {w w' : World} {b t : Nat} {cs : Array Value} {row : Option Nat} (h : BoxR w b t cs) (hg : w.grownBy w' row) (hr : some b ≠ row) : BoxR w' b t cs := (hg.block b h.lt hr).trans h
theorem OwnE.downS {α : Type} {C : α → List Value} {m : Nat} {w : World} {B B' b : Nat} {a : Option Addr} {n : Nat} {f : Nat → α} (h : OwnE C m w B b a n f) (hB : B' ≤ B) : OwnE C m w B' b a n f := ⟨Nat.le_trans hB h.1, h.2⟩
/-- a list that is nil has nothing in it -/
theorem nil_none {w : World} {b n : Nat} {f : Nat → Ev} (h : RdE evC 7 w b none n f) : n = 0 := by
  rcases h with h | ⟨o, e, _⟩
  · exact h
  · cases e
/-- a list of the call's own: nothing, or a row of its own -/
def OwnL (w : World) (B : Nat) (la : Option Addr) (n : Nat) (f : Nat → Ev) : Prop := (n = 0 ∧ la = none) ∨ ∃ q, la = some ⟨q, 0, none⟩ ∧ OwnE evC 7 w B q la n f
set_option maxHeartbeats 1000000 in
theorem cloneEv_none (c : Nat) (w : World) : Calls Try.prog 42 #[.slice none 0 c] w fun e w' => e = .returned (.slice none 0 0) ∧ Below w.heap.size w w' := by
  have hne : (binOp .eql 28 (.slice none 0 c) (.slice none 0 0)).run Try.prog w = .ok (.bool true) w := by
    simp only [binOp]
    simp [run_equal_slice_nil (P := Try.prog) w 28 84 none 0 c Try.underlying28]
  go_enter Try.func42, Try.ntmps42
  go_wp2
  go_ret
  exact ⟨rfl, Below.refl _ _⟩
set_option maxHeartbeats 1000000 in
theorem cloneEv_some (ad : Addr) (b n c : Nat) (f : Nat → Ev) (w : World) (hn : n ≤ 1048577) (h : RdE evC 7 w b (some ad) n f) :
    Calls Try.prog 42 #[.slice (some ad) n c] w fun e w' => ∃ q cap, e = .returned (.slice (some ⟨q, 0, none⟩) n cap) ∧ n ≤ cap ∧ cap ≤ maxLen ∧ Below w.heap.size w w' ∧ OwnE evC 7 w' w.heap.size q (some ⟨q, 0, none⟩) n f := by
  obtain ⟨i0, hi, hz0, hz1, hz2⟩ := info_parts Try.infoEv
  have hown0 : (w.alloc (.cells #[] 84)).ownsRow w.heap.size 84 7 (.slice (some ⟨w.heap.size, 0, none⟩) 0 0) 0 [] := World.ownsRow_lit w #[] 0 (Nat.le_refl _) (by decide) rfl
  have hbA := below_new2'' w (.cells #[] 84)
  have hnews := (h.grew evC_ne hbA).newsE evC_len
  have hne : (binOp .eql 28 (.slice (some ad) n c) (.slice none 0 0)).run Try.prog w = .ok (.bool false) w := by
    simp only [binOp]
    simp [run_equal_slice_nil (P := Try.prog) w 28 84 (some ad) n c Try.underlying28]
  go_enter Try.func42, Try.ntmps42
  go_wp2_with (at_builtin; generalize hA : w.alloc (.cells #[] 84) = WA at hown0 hbA hnews ⊢; refine wpList_append_own _ rfl (.tmp 5) (.tmp 6) 28 rfl w.heap.size 84 i0 _ 7 56 Try.underlying28 hi hz0 hz1 hz2 rfl (by decide) _ _ _ rfl hown0 ad n c (valsE evC n f) rfl (by rw [valsE_len evC_len]) hnews (evC_one _ _) (by unfold maxLen; omega) (by omega) hbA.size ?_)
  intro v4 w4 hown4 hgr4 hnil4
  have hb4 : Below w.heap.size w w4 := hbA.grown hgr4 hbA.size (fun k hk => (hown0.lt k hk).1)
  have hv4 : v4 ≠ .slice none 0 0 := fun e => by first | exact hnil4 e | (have h9 := (hnil4.1 e).1; simp at h9)
  (try simp only [Nat.zero_add, List.nil_append] at hown4)
  obtain ⟨q4, cap4, rfl, hc4, o4⟩ := own_ofE evC_len hown4 hv4
  obtain ⟨cur4, hcur4, hm4⟩ := row_type hown4
  clear hown4 hgr4 hnil4 hown0 hnews
  go_wp2
  go_ret
  exact ⟨q4, cap4, rfl, hc4, hm4, hb4, o4⟩
theorem cloneEv_any (a : Option Addr) (b n c : Nat) (f : Nat → Ev) (w : World) (hn : n ≤ 1048577) (h : RdE evC 7 w b a n f) :
    Calls Try.prog 42 #[.slice a n c] w fun e w' => ∃ la cap, e = .returned (.slice la n cap) ∧ n ≤ cap ∧ cap ≤ maxLen ∧ Below w.heap.size w w' ∧ OwnL w' w.heap.size la n f := by
  cases a with
  | none =>
    obtain rfl := nil_none h
    exact (cloneEv_none c w).mono (by rintro e w' ⟨rfl, hb⟩; exact ⟨none, 0, rfl, Nat.le_refl _, by unfold maxLen; omega, hb, .inl ⟨rfl, rfl⟩⟩)
  | some ad => exact (cloneEv_some ad b n c f w hn h).mono (by rintro e w' ⟨q, cap, rfl, h1, h2, hb, ho⟩; exact ⟨_, cap, rfl, h1, h2, hb, .inr ⟨q, rfl, ho⟩⟩)
set_option maxHeartbeats 4000000 in
theorem l9Copy_some (a : Ac) (ad : Addr) (w : World) (hok : a.ok w) (hn : a.ln ≤ 1048577) (hla : a.la = some ad) : Calls Try.prog 44 #[(.agg #[.int .i64 a.kd, .int .i64 a.nn, .int .i64 a.pi, .int .i64 a.si, .int .i64 a.zo, .bool a.be, .slice a.la a.ln a.lcap])] w fun e w' => ∃ t : Ac, e = .returned (.agg #[.int .i64 t.kd, .int .i64 t.nn, .int .i64 t.pi, .int .i64 t.si, .int .i64 t.zo, .bool t.be, .slice t.la t.ln t.lcap]) ∧ Below w.heap.size w w' ∧ OwnA w' w.heap.size t ∧ AlikeA t a := by
  obtain ⟨i0, hi, hz0, hz1, hz2⟩ := info_parts Try.infoEv
  obtain ⟨_, _, r1, _⟩ := hok
  obtain ⟨kd, nn, pi, si, zo, be, la, ln, lcap, lb, es⟩ := a
  dsimp only at hla r1 hn ⊢
  subst hla
  have hb0 := ((Below.refl _ w).alloc (Nat.le_refl _) (.cells #[.int .i64 kd, .int .i64 nn, .int .i64 pi, .int .i64 si, .int .i64 zo, .bool be, .slice (some ad) ln lcap] 30)).alloc (by simp) (.cells #[.int .i64 0, .int .i64 0, .int .i64 0, .int .i64 0, .int .i64 0, .bool false, .slice none 0 0] 30)
  have x1 := (boxR_new w 30 #[.int .i64 kd, .int .i64 nn, .int .i64 pi, .int .i64 si, .int .i64 zo, .bool be, .slice (some ad) ln lcap]).alloc (.cells #[.int .i64 0, .int .i64 0, .int .i64 0, .int .i64 0, .int .i64 0, .bool false, .slice none 0 0] 30)
  have x2 : BoxR ((w.alloc (.cells #[.int .i64 kd, .int .i64 nn, .int .i64 pi, .int .i64 si, .int .i64 zo, .bool be, .slice (some ad) ln lcap] 30)).alloc (.cells #[.int .i64 0, .int .i64 0, .int .i64 0, .int .i64 0, .int .i64 0, .bool false, .slice none 0 0] 30)) (w.heap.size + 1) 30 #[.int .i64 0, .int .i64 0, .int .i64 0, .int .i64 0, .int .i64 0, .bool false, .slice none 0 0] := heap_alloc2_new _ _ _
  generalize hW : (w.alloc (.cells #[.int .i64 kd, .int .i64 nn, .int .i64 pi, .int .i64 si, .int .i64 zo, .bool be, .slice (some ad) ln lcap] 30)).alloc (.cells #[.int .i64 0, .int .i64 0, .int .i64 0, .int .i64 0, .int .i64 0, .bool false, .slice none 0 0] 30) = W at hb0 x1 x2
  have hown0 : (W.alloc (.cells #[] 84)).ownsRow W.heap.size 84 7 (.slice (some ⟨W.heap.size, 0, none⟩) 0 0) 0 [] := World.ownsRow_lit W #[] 0 (Nat.le_refl _) (by decide) rfl
  have hbA := below_new2'' W (.cells #[] 84)
  have hnews := ((r1.grew evC_ne hb0).grew evC_ne hbA).newsE evC_len
  have y1 := x1.alloc (.cells #[] 84)
  have y2 := x2.alloc (.cells #[] 84)
  have hWl := x2.lt
  have c6 : (W.alloc (.cells #[] 84)).cell? ⟨w.heap.size, 6, none⟩ = some (.slice (some ad) ln lcap) := y1.cell 6
  go_enter Try.func44, Try.ntmps44
  go_wp2_with (at_builtin; generalize hA : W.alloc (.cells #[] 84) = WA at hown0 hbA hnews y1 y2 c6 ⊢; refine wpList_append_own _ rfl (.tmp 3) (.tmp 5) 28 rfl W.heap.size 84 i0 _ 7 56 Try.underlying28 hi hz0 hz1 hz2 rfl (by decide) _ _ _ rfl hown0 ad ln lcap (valsE evC ln es) rfl (by rw [valsE_len evC_len]) hnews (evC_one _ _) (by unfold maxLen; omega) (by omega) hbA.size ?_)
  intro v4 w4 hown4 hgr4 hnil4
  have hBA := below_app hb0 hbA hb0.size
  have hb4 : Below w.heap.size w w4 := hBA.grown hgr4 hBA.size (fun k hk => by have := (hown0.lt k hk).1; have := hb0.size; omega)
  have hv4 : v4 ≠ .slice none 0 0 := fun e => by first | exact hnil4 e | (have h9 := (hnil4.1 e).1; simp at h9)
  have z1 := y1.grownS hgr4 (by simp [Value.ownBlock]; try omega)
  have z2 := y2.grownS hgr4 (by simp [Value.ownBlock]; try omega)
  (try simp only [Nat.zero_add, List.nil_append] at hown4)
  obtain ⟨q4, cap4, rfl, hc4, o4⟩ := own_ofE evC_len hown4 hv4
  obtain ⟨cur4, hcur4, hm4⟩ := row_type hown4
  clear hown4 hgr4 hnil4 hown0 hnews y1 y2 x1 x2 hbA hBA hW c6
  have n1 : q4 ≠ w.heap.size := by have := o4.1; omega
  have n2 : q4 ≠ w.heap.size + 1 := by have := o4.1; omega
  have f6 := z1.froz 6
  have g6 := z1.cell 6
  simp at g6
  have a1 := z1.put 6 (.slice (some ⟨q4, 0, none⟩) ln cap4)
  have a2 := z2.other (q := ⟨w.heap.size, 6, none⟩) (by simp) (.slice (some ⟨q4, 0, none⟩) ln cap4)
  have ao := o4.setCell (q := ⟨w.heap.size, 6, none⟩) n1 (.slice (some ⟨q4, 0, none⟩) ln cap4)
  have hb5 := hb4.setCell (p := ⟨w.heap.size, 6, none⟩) (Nat.le_refl _) (.slice (some ⟨q4, 0, none⟩) ln cap4)
  generalize hV : w4.setCell ⟨w.heap.size, 6, none⟩ (.slice (some ⟨q4, 0, none⟩) ln cap4) = V at a1 a2 ao hb5
  simp only [List.setIfInBounds_toArray, List.set_cons_zero, List.set_cons_succ] at a1
  go_wp2_with first | (refine wpList_load_row rfl 30 _ rfl (w.heap.size) (by rfl) _ _ _ _ a1 Try.underlying30 rfl (by kernel_rfl) ?_) | (refine wpList_store_row rfl 30 (.tmp 2) _ rfl (w.heap.size + 1) _ (by rfl) (by rfl) _ _ a2 (by kernel_rfl) (by rfl) (by simp [Value.oneCell']) ?_)
  (try simp only [Exit.inBlock, Exit.then]); refine bodyPost_ret (results_cell_row rfl _ _ (w.heap.size + 1) _ _ _ _ rfl (setRow_heap _ _ _ _ _ _ a2) Try.underlying30 rfl (by kernel_rfl)) rfl ?_
  exact ⟨⟨kd, nn, pi, si, zo, be, some ⟨q4, 0, none⟩, ln, cap4, q4, es⟩, rfl, below_setRow hb5 (by omega) _, ⟨hc4, hm4, (ao.setRow n2 _).downS (by omega)⟩, ⟨rfl, rfl, rfl, rfl, rfl, rfl, rfl, rfl⟩⟩
set_option maxHeartbeats 4000000 in
theorem l9Copy_none (a : Ac) (w : World) (hok : a.ok w) (hla : a.la = none) : Calls Try.prog 44 #[(.agg #[.int .i64 a.kd, .int .i64 a.nn, .int .i64 a.pi, .int .i64 a.si, .int .i64 a.zo, .bool a.be, .slice a.la a.ln a.lcap])] w fun e w' => ∃ t : Ac, e = .returned (.agg #[.int .i64 t.kd, .int .i64 t.nn, .int .i64 t.pi, .int .i64 t.si, .int .i64 t.zo, .bool t.be, .slice t.la t.ln t.lcap]) ∧ Below w.heap.size w w' ∧ OwnA w' w.heap.size t ∧ AlikeA t a := by
  obtain ⟨i0, hi, hz0, hz1, hz2⟩ := info_parts Try.infoEv
  obtain ⟨_, _, r1, _⟩ := hok
  obtain ⟨kd, nn, pi, si, zo, be, la, ln, lcap, lb, es⟩ := a
  dsimp only at hla r1 ⊢
  subst hla
  obtain rfl := nil_none r1
  have hb0 := ((Below.refl _ w).alloc (Nat.le_refl _) (.cells #[.int .i64 kd, .int .i64 nn, .int .i64 pi, .int .i64 si, .int .i64 zo, .bool be, .slice none 0 lcap] 30)).alloc (by simp) (.cells #[.int .i64 0, .int .i64 0, .int .i64 0, .int .i64 0, .int .i64 0, .bool false, .slice none 0 0] 30)
  have x1 := (boxR_new w 30 #[.int .i64 kd, .int .i64 nn, .int .i64 pi, .int .i64 si, .int .i64 zo, .bool be, .slice none 0 lcap]).alloc (.cells #[.int .i64 0, .int .i64 0, .int .i64 0, .int .i64 0, .int .i64 0, .bool false, .slice none 0 0] 30)
  have x2 : BoxR ((w.alloc (.cells #[.int .i64 kd, .int .i64 nn, .int .i64 pi, .int .i64 si, .int .i64 zo, .bool be, .slice none 0 lcap] 30)).alloc (.cells #[.int .i64 0, .int .i64 0, .int .i64 0, .int .i64 0, .int .i64 0, .bool false, .slice none 0 0] 30)) (w.heap.size + 1) 30 #[.int .i64 0, .int .i64 0, .int .i64 0, .int .i64 0, .int .i64 0, .bool false, .slice none 0 0] := heap_alloc2_new _ _ _
  generalize hW : (w.alloc (.cells #[.int .i64 kd, .int .i64 nn, .int .i64 pi, .int .i64 si, .int .i64 zo, .bool be, .slice none 0 lcap] 30)).alloc (.cells #[.int .i64 0, .int .i64 0, .int .i64 0, .int .i64 0, .int .i64 0, .bool false, .slice none 0 0] 30) = W at hb0 x1 x2
  have hown0 : (W.alloc (.cells #[] 84)).ownsRow W.heap.size 84 7 (.slice (some ⟨W.heap.size, 0, none⟩) 0 0) 0 [] := World.ownsRow_lit W #[] 0 (Nat.le_refl _) (by decide) rfl
  have hbA := below_new2'' W (.cells #[] 84)
  have z1 := x1.alloc (.cells #[] 84)
  have z2 := x2.alloc (.cells #[] 84)
  have hWl := x2.lt
  have hb4 := below_app hb0 hbA hb0.size
  have o4 : OwnE evC 7 (W.alloc (.cells #[] 84)) W.heap.size W.heap.size (some ⟨W.heap.size, 0, none⟩) 0 es := ⟨Nat.le_refl _, by simp, .inl rfl, free_row (heap_alloc_new W _)⟩
  have c6 : (W.alloc (.cells #[] 84)).cell? ⟨w.heap.size, 6, none⟩ = some (.slice none 0 lcap) := z1.cell 6
  have f6 := z1.froz 6
  have n1 : W.heap.size ≠ w.heap.size := by omega
  have n2 : W.heap.size ≠ w.heap.size + 1 := by omega
  have hm4 : (0 : Nat) ≤ maxLen := by unfold maxLen; omega
  have a1 := z1.put 6 (.slice (some ⟨W.heap.size, 0, none⟩) 0 0)
  have a2 := z2.other (q := ⟨w.heap.size, 6, none⟩) (by simp) (.slice (some ⟨W.heap.size, 0, none⟩) 0 0)
  have ao := o4.setCell (q := ⟨w.heap.size, 6, none⟩) n1 (.slice (some ⟨W.heap.size, 0, none⟩) 0 0)
  have hb5 := hb4.setCell (p := ⟨w.heap.size, 6, none⟩) (Nat.le_refl _) (.slice (some ⟨W.heap.size, 0, none⟩) 0 0)
  simp only [List.setIfInBounds_toArray, List.set_cons_zero, List.set_cons_succ] at a1
  go_enter Try.func44, Try.ntmps44
  go_upto_region 2 with (at_builtin; refine wpList_append_noneC rfl (.tmp 3) (.tmp 5) 28 rfl W.heap.size 84 i0 7 Try.underlying28 hi _ _ _ rfl hown0 lcap rfl ?_)
  generalize hV : (W.alloc (.cells #[] 84)).setCell ⟨w.heap.size, 6, none⟩ (.slice (some ⟨W.heap.size, 0, none⟩) 0 0) = V at a1 a2 ao hb5 ⊢
  clear z1 z2 o4 hb4 hown0 hbA hb0 x1 x2 c6 f6 hV hW
  go_wp2_with first | (refine wpList_load_row rfl 30 _ rfl (w.heap.size) (by rfl) _ _ _ _ a1 Try.underlying30 rfl (by kernel_rfl) ?_) | (refine wpList_store_row rfl 30 (.tmp 2) _ rfl (w.heap.size + 1) _ (by rfl) (by rfl) _ _ a2 (by kernel_rfl) (by rfl) (by simp [Value.oneCell']) ?_)
  (try simp only [Exit.inBlock, Exit.then]); refine bodyPost_ret (results_cell_row rfl _ _ (w.heap.size + 1) _ _ _ _ rfl (setRow_heap _ _ _ _ _ _ a2) Try.underlying30 rfl (by kernel_rfl)) rfl ?_
  exact ⟨⟨kd, nn, pi, si, zo, be, some ⟨W.heap.size, 0, none⟩, 0, 0, W.heap.size, es⟩, rfl, below_setRow hb5 (by omega) _, ⟨Nat.le_refl _, hm4, (ao.setRow n2 _).downS (by omega)⟩, ⟨rfl, rfl, rfl, rfl, rfl, rfl, rfl, rfl⟩⟩
theorem l9Copy_any (a : Ac) (w : World) (hok : a.ok w) (hn : a.ln ≤ 1048577) : Calls Try.prog 44 #[(.agg #[.int .i64 a.kd, .int .i64 a.nn, .int .i64 a.pi, .int .i64 a.si, .int .i64 a.zo, .bool a.be, .slice a.la a.ln a.lcap])] w fun e w' => ∃ t : Ac, e = .returned (.agg #[.int .i64 t.kd, .int .i64 t.nn, .int .i64 t.pi, .int .i64 t.si, .int .i64 t.zo, .bool t.be, .slice t.la t.ln t.lcap]) ∧ Below w.heap.size w w' ∧ OwnA w' w.heap.size t ∧ AlikeA t a := by
  have h0 : a.la = none ∨ ∃ ad, a.la = some ad := by
    cases a.la with
    | none => exact .inl rfl
    | some ad => exact .inr ⟨ad, rfl⟩
  rcases h0 with h | ⟨ad, h⟩
  · exact l9Copy_none a w hok h
  · exact l9Copy_some a ad w hok hn h
end Go.Proofs.Ytodfdfncdoliiad
namespace Go.Proofs.Ytodfdfncdoliiad
open Go.ChangeShapes Go.WideShapes Go.ChangeAt Go.RowKit
set_option maxRecDepth 100000
set_option linter.unusedVariables false
set_option linter.unusedSimpArgs false

/-- the cells of an effect, in a box -/
theorem BoxR.cells22 {w : World} {g : Nat} {a : Ef} {T : Nat} (h : BoxR w g T #[.int .i64 a.id, .int .i64 a.si, .int .i64 a.sr, .int .i64 a.cl, .int .i64 a.pt.kd, .int .i64 a.pt.wh, .int .i64 a.pt.sr, .int .i64 a.pt.tr, .int .i64 a.pt.pi, .int .i64 a.pt.le, .int .i64 a.pt.zo, .int .i64 a.gd.kd, .int .i64 a.gd.nn, .int .i64 a.ac.kd, .int .i64 a.ac.nn, .int .i64 a.ac.pi, .int .i64 a.ac.si, .int .i64 a.ac.zo, .bool a.ac.be, .slice a.ac.la a.ac.ln a.ac.lcap, .int .i64 a.un, .int .i64 a.le]) : w.cell? ⟨g, 0, none⟩ = some (.int .i64 a.id) ∧ w.cell? ⟨g, 1, none⟩ = some (.int .i64 a.si) ∧ w.cell? ⟨g, 2, none⟩ = some (.int .i64 a.sr) ∧ w.cell? ⟨g, 3, none⟩ = some (.int .i64 a.cl) ∧ w.cell? ⟨g, 4, none⟩ = some (.int .i64 a.pt.kd) ∧ w.cell? ⟨g, 5, none⟩ = some (.int .i64 a.pt.wh) ∧ w.cell? ⟨g, 6, none⟩ = some (.int .i64 a.pt.sr) ∧ w.cell? ⟨g, 7, none⟩ = some (.int .i64 a.pt.tr) ∧ w.cell? ⟨g, 8, none⟩ = some (.int .i64 a.pt.pi) ∧ w.cell? ⟨g, 9, none⟩ = some (.int .i64 a.pt.le) ∧ w.cell? ⟨g, 10, none⟩ = some (.int .i64 a.pt.zo) ∧ w.cell? ⟨g, 11, none⟩ = some (.int .i64 a.gd.kd) ∧ w.cell? ⟨g, 12, none⟩ = some (.int .i64 a.gd.nn) ∧ w.cell? ⟨g, 13, none⟩ = some (.int .i64 a.ac.kd) ∧ w.cell? ⟨g, 14, none⟩ = some (.int .i64 a.ac.nn) ∧ w.cell? ⟨g, 15, none⟩ = some (.int .i64 a.ac.pi) ∧ w.cell? ⟨g, 16, none⟩ = some (.int .i64 a.ac.si) ∧ w.cell? ⟨g, 17, none⟩ = some (.int .i64 a.ac.zo) ∧ w.cell? ⟨g, 18, none⟩ = some (.bool a.ac.be) ∧ w.cell? ⟨g, 19, none⟩ = some (.slice a.ac.la a.ac.ln a.ac.lcap) ∧ w.cell? ⟨g, 20, none⟩ = some (.int .i64 a.un) ∧ w.cell? ⟨g, 21, none⟩ = some (.int .i64 a.le) :=
  ⟨h.cell 0, h.cell 1, h.cell 2, h.cell 3, h.cell 4, h.cell 5, h.cell 6, h.cell 7, h.cell 8, h.cell 9, h.cell 10, h.cell 11, h.cell 12, h.cell 13, h.cell 14, h.cell 15, h.cell 16, h.cell 17, h.cell 18, h.cell 19, h.cell 20, h.cell 21⟩
end Go.Proofs.Ytodfdfncdoliiad
