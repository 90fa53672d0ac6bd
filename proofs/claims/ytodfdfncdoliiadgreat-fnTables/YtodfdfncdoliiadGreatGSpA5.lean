/-
  Chapter 10: the library's Clone of things; the specification's l9Copy. Written by tools/sp.gen.py. Chapter 10: the specification's l10Copy and Spent (spE). Written by tools/sp.gen.py. Chapter 11: a list of effects of the call's own, to which others are appended (BuildT); the specification's l11Copy. Written by tools/tab.gen.py. Chapter 9: the specification at acts that are alike. Written by tools/ac.gen.py. Chapter 10: the specification at effects that are alike. Written by tools/ef.gen.py. Own work.
-/
import Derived.Test.YtodfdfncdoliiadGreatGPaA4
import Derived.Test.YtodfdfncdoliiadGreatStNew
import Derived.Deep.DeepCutAuto
import Derived.Deep.CutBlock
import Derived.Laws.OwnMore
import Derived.Test.YtodfdfncdoliiadGreatGEvA3
import Derived.Test.YtodfdfncdoliiadGreatGEfC3
import Derived.Test.YtodfdfncdoliiadGreatTaE
import Derived.Test.YtodfdfncdoliiadGreatGStAt3
import Derived.Maps.AppendAt
import Derived.Test.YtodfdfncdoliiadGreatAcD
import Derived.Test.YtodfdfncdoliiadGreatGPaB5
namespace Go.Proofs.YtodfdfncdoliiadGreat
open Go.ChangeShapes Go.WideShapes Go.ChangeAt Go.RowKit
set_option maxRecDepth 100000
set_option linter.unusedVariables false
set_option linter.unusedSimpArgs false

theorem run_append_noneC {P : Program} {w : World} {base : Nat} (t ty e : TypeId) (i : TypeInfo) (size : Nat) (ht : P.underlying t = some (.slice e)) (hi : P.info? e = some i) (v : Value) (n : Nat) (xs : List Value) (hown : w.ownsRow base e size v n xs) (c : Nat) :
    (Builtin.append_ #[t, t] ty #[v, .slice none 0 c]).run P w = .ok v w := by
  rcases hown.2 with ⟨rfl, rfl⟩ | ⟨g, cap, cur, rfl, _, _, hnc, _⟩
  · simp [Builtin.append_, run_underlying ht, sizeOf, typeInfo, hi, Builtin.lenOf, Builtin.firstCells]
  · simp [Builtin.append_, run_underlying ht, sizeOf, typeInfo, hi, Builtin.lenOf, Builtin.firstCells, hnc, storeCells]
theorem wpList_append_noneC {P : Program} {w : World} {ops : Array Oper} {rest : List Oper} {o : Oper} {a : Act} {Q : Exit → Act → World → Prop} (hgd : o.guard = none) (s x : Operand) (t : TypeId)
    (ho : o.op = .call { callee := .builtin .append, args := #[s, x], argTypes := #[t, t] }) (base : Nat) (e : TypeId) (i : TypeInfo) (size : Nat) (ht : P.underlying t = some (.slice e)) (hi : P.info? e = some i)
    (v : Value) (n : Nat) (xs : List Value) (hs : a.eval s = v) (hown : w.ownsRow base e size v n xs) (c : Nat) (hx : a.eval x = .slice none 0 c)
    (h : wpList P ops Q rest (a.put o.dst v) w) : wpList P ops Q (o :: rest) a w := by
  refine wpList_plain hgd fun K hK => ?_
  have hrun := run_append_noneC (P := P) (w := w) (base := base) t o.type e i size ht hi v n xs hown c
  unfold Oper.wp
  simp [execOp, ho, resolve, invoke, builtin, hs, hx, hrun, Result.andThen]
  exact hK _ _ h
theorem BoxR.grownS {w w' : World} {b t : Nat} {cs : Array Value} {row : Option Nat} (h : BoxR w b t cs) (hg : w.grownBy w' row) (hr : some b ≠ row) : BoxR w' b t cs := (hg.block b h.lt hr).trans h
theorem OwnE.downS {α : Type} {C : α → List Value} {m : Nat} {w : World} {B B' b : Nat} {a : Option Addr} {n : Nat} {f : Nat → α} (h : OwnE C m w B b a n f) (hB : B' ≤ B) : OwnE C m w B' b a n f := ⟨Nat.le_trans hB h.1, h.2⟩
/-- a list that is nil has nothing in it -/
theorem nil_none {w : World} {b n : Nat} {f : Nat → Ev} (h : RdE evC 7 w b none n f) : n = 0 := by
  rcases h with h | ⟨o, e, _⟩
  · exact h
  · cases e
/-- a list of the call's own: nothing, or a row of its own -/
def OwnL (w : World) (B : Nat) (la : Option Addr) (n : Nat) (f : Nat → Ev) : Prop := (n = 0 ∧ la = none) ∨ ∃ q, la = some ⟨q, 0, none⟩ ∧ OwnE evC 7 w B q la n f
set_option maxHeartbeats 1000000 in
theorem cloneEv_none (c : Nat) (w : World) : Calls Tryz.prog 157 #[.slice none 0 c] w fun e w' => e = .returned (.slice none 0 0) ∧ Below w.heap.size w w' := by
  have hne : (binOp .eql 28 (.slice none 0 c) (.slice none 0 0)).run Tryz.prog w = .ok (.bool true) w := by
    simp only [binOp]
    simp [run_equal_slice_nil (P := Tryz.prog) w 28 39 none 0 c Tryz.underlying28]
  go_enter Tryz.func157, Tryz.ntmps157
  go_wp2
  go_ret
  exact ⟨rfl, Below.refl _ _⟩
set_option maxHeartbeats 1000000 in
theorem cloneEv_some (ad : Addr) (b n c : Nat) (f : Nat → Ev) (w : World) (hn : n ≤ 1048577) (h : RdE evC 7 w b (some ad) n f) :
    Calls Tryz.prog 157 #[.slice (some ad) n c] w fun e w' => ∃ q cap, e = .returned (.slice (some ⟨q, 0, none⟩) n cap) ∧ n ≤ cap ∧ cap ≤ maxLen ∧ Below w.heap.size w w' ∧ OwnE evC 7 w' w.heap.size q (some ⟨q, 0, none⟩) n f := by
  obtain ⟨i0, hi, hz0, hz1, hz2⟩ := info_parts Tryz.infoEv
  have hown0 : (w.alloc (.cells #[] 39)).ownsRow w.heap.size 39 7 (.slice (some ⟨w.heap.size, 0, none⟩) 0 0) 0 [] := World.ownsRow_lit w #[] 0 (Nat.le_refl _) (by decide) rfl
  have hbA := below_new2'' w (.cells #[] 39)
  have hnews := (h.grew evC_ne hbA).newsE evC_len
  have hne : (binOp .eql 28 (.slice (some ad) n c) (.slice none 0 0)).run Tryz.prog w = .ok (.bool false) w := by
    simp only [binOp]
    simp [run_equal_slice_nil (P := Tryz.prog) w 28 39 (some ad) n c Tryz.underlying28]
  go_enter Tryz.func157, Tryz.ntmps157
  go_wp2_with (at_builtin; generalize hA : w.alloc (.cells #[] 39) = WA at hown0 hbA hnews ⊢; refine wpList_append_own _ rfl (.tmp 5) (.tmp 6) 28 rfl w.heap.size 39 i0 _ 7 56 Tryz.underlying28 hi hz0 hz1 hz2 rfl (by decide) _ _ _ rfl hown0 ad n c (valsE evC n f) rfl (by rw [valsE_len evC_len]) hnews (evC_one _ _) (by unfold maxLen; omega) (by omega) hbA.size ?_)
  intro v4 w4 hown4 hgr4 hnil4
  have hb4 : Below w.heap.size w w4 := hbA.grown hgr4 hbA.size (fun k hk => (hown0.lt k hk).1)
  have hv4 : v4 ≠ .slice none 0 0 := fun e => by first | exact hnil4 e | (have h9 := (hnil4.1 e).1; simp at h9)
  (try simp only [Nat.zero_add, List.nil_append] at hown4)
  obtain ⟨q4, cap4, rfl, hc4, o4⟩ := own_ofE evC_len hown4 hv4
  obtain ⟨cur4, hcur4, hm4⟩ := row_type hown4
  clear hown4 hgr4 hnil4 hown0 hnews
  go_wp2
  go_ret
  exact ⟨q4, cap4, rfl, hc4, hm4, hb4, o4⟩
theorem cloneEv_any (a : Option Addr) (b n c : Nat) (f : Nat → Ev) (w : World) (hn : n ≤ 1048577) (h : RdE evC 7 w b a n f) :
    Calls Tryz.prog 157 #[.slice a n c] w fun e w' => ∃ la cap, e = .returned (.slice la n cap) ∧ n ≤ cap ∧ cap ≤ maxLen ∧ Below w.heap.size w w' ∧ OwnL w' w.heap.size la n f := by
  cases a with
  | none =>
    obtain rfl := nil_none h
    exact (cloneEv_none c w).mono (by rintro e w' ⟨rfl, hb⟩; exact ⟨none, 0, rfl, Nat.le_refl _, by unfold maxLen; omega, hb, .inl ⟨rfl, rfl⟩⟩)
  | some ad => exact (cloneEv_some ad b n c f w hn h).mono (by rintro e w' ⟨q, cap, rfl, h1, h2, hb, ho⟩; exact ⟨_, cap, rfl, h1, h2, hb, .inr ⟨q, rfl, ho⟩⟩)
set_option maxHeartbeats 4000000 in
theorem l9Copy_some (a : Ac) (ad : Addr) (w : World) (hok : a.ok w) (hn : a.ln ≤ 1048577) (hla : a.la = some ad) : Calls Tryz.prog 103 #[(.agg #[.int .i64 a.kd, .int .i64 a.nn, .int .i64 a.pi, .int .i64 a.si, .int .i64 a.zo, .bool a.be, .slice a.la a.ln a.lcap])] w fun e w' => ∃ t : Ac, e = .returned (.agg #[.int .i64 t.kd, .int .i64 t.nn, .int .i64 t.pi, .int .i64 t.si, .int .i64 t.zo, .bool t.be, .slice t.la t.ln t.lcap]) ∧ Below w.heap.size w w' ∧ OwnA w' w.heap.size t ∧ AlikeA t a := by
  obtain ⟨i0, hi, hz0, hz1, hz2⟩ := info_parts Tryz.infoEv
  obtain ⟨_, _, r1, _⟩ := hok
  obtain ⟨kd, nn, pi, si, zo, be, la, ln, lcap, lb, es⟩ := a
  dsimp only at hla r1 hn ⊢
  subst hla
  have hb0 := ((Below.refl _ w).alloc (Nat.le_refl _) (.cells #[.int .i64 kd, .int .i64 nn, .int .i64 pi, .int .i64 si, .int .i64 zo, .bool be, .slice (some ad) ln lcap] 30)).alloc (by simp) (.cells #[.int .i64 0, .int .i64 0, .int .i64 0, .int .i64 0, .int .i64 0, .bool false, .slice none 0 0] 30)
  have x1 := (boxR_new w 30 #[.int .i64 kd, .int .i64 nn, .int .i64 pi, .int .i64 si, .int .i64 zo, .bool be, .slice (some ad) ln lcap]).alloc (.cells #[.int .i64 0, .int .i64 0, .int .i64 0, .int .i64 0, .int .i64 0, .bool false, .slice none 0 0] 30)
  have x2 : BoxR ((w.alloc (.cells #[.int .i64 kd, .int .i64 nn, .int .i64 pi, .int .i64 si, .int .i64 zo, .bool be, .slice (some ad) ln lcap] 30)).alloc (.cells #[.int .i64 0, .int .i64 0, .int .i64 0, .int .i64 0, .int .i64 0, .bool false, .slice none 0 0] 30)) (w.heap.size + 1) 30 #[.int .i64 0, .int .i64 0, .int .i64 0, .int .i64 0, .int .i64 0, .bool false, .slice none 0 0] := heap_alloc2_new _ _ _
  generalize hW : (w.alloc (.cells #[.int .i64 kd, .int .i64 nn, .int .i64 pi, .int .i64 si, .int .i64 zo, .bool be, .slice (some ad) ln lcap] 30)).alloc (.cells #[.int .i64 0, .int .i64 0, .int .i64 0, .int .i64 0, .int .i64 0, .bool false, .slice none 0 0] 30) = W at hb0 x1 x2
  have hown0 : (W.alloc (.cells #[] 39)).ownsRow W.heap.size 39 7 (.slice (some ⟨W.heap.size, 0, none⟩) 0 0) 0 [] := World.ownsRow_lit W #[] 0 (Nat.le_refl _) (by decide) rfl
  have hbA := below_new2'' W (.cells #[] 39)
  have hnews := ((r1.grew evC_ne hb0).grew evC_ne hbA).newsE evC_len
  have y1 := x1.alloc (.cells #[] 39)
  have y2 := x2.alloc (.cells #[] 39)
  have hWl := x2.lt
  have c6 : (W.alloc (.cells #[] 39)).cell? ⟨w.heap.size, 6, none⟩ = some (.slice (some ad) ln lcap) := y1.cell 6
  go_enter Tryz.func103, Tryz.ntmps103
  go_wp2_with (at_builtin; generalize hA : W.alloc (.cells #[] 39) = WA at hown0 hbA hnews y1 y2 c6 ⊢; refine wpList_append_own _ rfl (.tmp 3) (.tmp 5) 28 rfl W.heap.size 39 i0 _ 7 56 Tryz.underlying28 hi hz0 hz1 hz2 rfl (by decide) _ _ _ rfl hown0 ad ln lcap (valsE evC ln es) rfl (by rw [valsE_len evC_len]) hnews (evC_one _ _) (by unfold maxLen; omega) (by omega) hbA.size ?_)
  intro v4 w4 hown4 hgr4 hnil4
  have hBA := below_app hb0 hbA hb0.size
  have hb4 : Below w.heap.size w w4 := hBA.grown hgr4 hBA.size (fun k hk => by have := (hown0.lt k hk).1; have := hb0.size; omega)
  have hv4 : v4 ≠ .slice none 0 0 := fun e => by first | exact hnil4 e | (have h9 := (hnil4.1 e).1; simp at h9)
  have z1 := y1.grownS hgr4 (by simp [Value.ownBlock]; try omega)
  have z2 := y2.grownS hgr4 (by simp [Value.ownBlock]; try omega)
  (try simp only [Nat.zero_add, List.nil_append] at hown4)
  obtain ⟨q4, cap4, rfl, hc4, o4⟩ := own_ofE evC_len hown4 hv4
  obtain ⟨cur4, hcur4, hm4⟩ := row_type hown4
  clear hown4 hgr4 hnil4 hown0 hnews y1 y2 x1 x2 hbA hBA hW c6
  have n1 : q4 ≠ w.heap.size := by have := o4.1; omega
  have n2 : q4 ≠ w.heap.size + 1 := by have := o4.1; omega
  have f6 := z1.froz 6
  have g6 := z1.cell 6
  simp at g6
  have a1 := z1.put 6 (.slice (some ⟨q4, 0, none⟩) ln cap4)
  have a2 := z2.other (q := ⟨w.heap.size, 6, none⟩) (by simp) (.slice (some ⟨q4, 0, none⟩) ln cap4)
  have ao := o4.setCell (q := ⟨w.heap.size, 6, none⟩) n1 (.slice (some ⟨q4, 0, none⟩) ln cap4)
  have hb5 := hb4.setCell (p := ⟨w.heap.size, 6, none⟩) (Nat.le_refl _) (.slice (some ⟨q4, 0, none⟩) ln cap4)
  generalize hV : w4.setCell ⟨w.heap.size, 6, none⟩ (.slice (some ⟨q4, 0, none⟩) ln cap4) = V at a1 a2 ao hb5
  simp only [List.setIfInBounds_toArray, List.set_cons_zero, List.set_cons_succ] at a1
  go_wp2_with first | (refine wpList_load_row rfl 30 _ rfl (w.heap.size) (by rfl) _ _ _ _ a1 Tryz.underlying30 rfl (by kernel_rfl) ?_) | (refine wpList_store_row rfl 30 (.tmp 2) _ rfl (w.heap.size + 1) _ (by rfl) (by rfl) _ _ a2 (by kernel_rfl) (by rfl) (by simp [Value.oneCell']) ?_)
  (try simp only [Exit.inBlock, Exit.then]); refine bodyPost_ret (results_cell_row rfl _ _ (w.heap.size + 1) _ _ _ _ rfl (setRow_heap _ _ _ _ _ _ a2) Tryz.underlying30 rfl (by kernel_rfl)) rfl ?_
  exact ⟨⟨kd, nn, pi, si, zo, be, some ⟨q4, 0, none⟩, ln, cap4, q4, es⟩, rfl, below_setRow hb5 (by omega) _, ⟨hc4, hm4, (ao.setRow n2 _).downS (by omega)⟩, ⟨rfl, rfl, rfl, rfl, rfl, rfl, rfl, rfl⟩⟩
set_option maxHeartbeats 4000000 in
theorem l9Copy_none (a : Ac) (w : World) (hok : a.ok w) (hla : a.la = none) : Calls Tryz.prog 103 #[(.agg #[.int .i64 a.kd, .int .i64 a.nn, .int .i64 a.pi, .int .i64 a.si, .int .i64 a.zo, .bool a.be, .slice a.la a.ln a.lcap])] w fun e w' => ∃ t : Ac, e = .returned (.agg #[.int .i64 t.kd, .int .i64 t.nn, .int .i64 t.pi, .int .i64 t.si, .int .i64 t.zo, .bool t.be, .slice t.la t.ln t.lcap]) ∧ Below w.heap.size w w' ∧ OwnA w' w.heap.size t ∧ AlikeA t a := by
  obtain ⟨i0, hi, hz0, hz1, hz2⟩ := info_parts Tryz.infoEv
  obtain ⟨_, _, r1, _⟩ := hok
  obtain ⟨kd, nn, pi, si, zo, be, la, ln, lcap, lb, es⟩ := a
  dsimp only at hla r1 ⊢
  subst hla
  obtain rfl := nil_none r1
  have hb0 := ((Below.refl _ w).alloc (Nat.le_refl _) (.cells #[.int .i64 kd, .int .i64 nn, .int .i64 pi, .int .i64 si, .int .i64 zo, .bool be, .slice none 0 lcap] 30)).alloc (by simp) (.cells #[.int .i64 0, .int .i64 0, .int .i64 0, .int .i64 0, .int .i64 0, .bool false, .slice none 0 0] 30)
  have x1 := (boxR_new w 30 #[.int .i64 kd, .int .i64 nn, .int .i64 pi, .int .i64 si, .int .i64 zo, .bool be, .slice none 0 lcap]).alloc (.cells #[.int .i64 0, .int .i64 0, .int .i64 0, .int .i64 0, .int .i64 0, .bool false, .slice none 0 0] 30)
  have x2 : BoxR ((w.alloc (.cells #[.int .i64 kd, .int .i64 nn, .int .i64 pi, .int .i64 si, .int .i64 zo, .bool be, .slice none 0 lcap] 30)).alloc (.cells #[.int .i64 0, .int .i64 0, .int .i64 0, .int .i64 0, .int .i64 0, .bool false, .slice none 0 0] 30)) (w.heap.size + 1) 30 #[.int .i64 0, .int .i64 0, .int .i64 0, .int .i64 0, .int .i64 0, .bool false, .slice none 0 0] := heap_alloc2_new _ _ _
  generalize hW : (w.alloc (.cells #[.int .i64 kd, .int .i64 nn, .int .i64 pi, .int .i64 si, .int .i64 zo, .bool be, .slice none 0 lcap] 30)).alloc (.cells #[.int .i64 0, .int .i64 0, .int .i64 0, .int .i64 0, .int .i64 0, .bool false, .slice none 0 0] 30) = W at hb0 x1 x2
  have hown0 : (W.alloc (.cells #[] 39)).ownsRow W.heap.size 39 7 (.slice (some ⟨W.heap.size, 0, none⟩) 0 0) 0 [] := World.ownsRow_lit W #[] 0 (Nat.le_refl _) (by decide) rfl
  have hbA := below_new2'' W (.cells #[] 39)
  have z1 := x1.alloc (.cells #[] 39)
  have z2 := x2.alloc (.cells #[] 39)
  have hWl := x2.lt
  have hb4 := below_app hb0 hbA hb0.size
  have o4 : OwnE evC 7 (W.alloc (.cells #[] 39)) W.heap.size W.heap.size (some ⟨W.heap.size, 0, none⟩) 0 es := ⟨Nat.le_refl _, by simp, .inl rfl, free_row (heap_alloc_new W _)⟩
  have c6 : (W.alloc (.cells #[] 39)).cell? ⟨w.heap.size, 6, none⟩ = some (.slice none 0 lcap) := z1.cell 6
  have f6 := z1.froz 6
  have n1 : W.heap.size ≠ w.heap.size := by omega
  have n2 : W.heap.size ≠ w.heap.size + 1 := by omega
  have hm4 : (0 : Nat) ≤ maxLen := by unfold maxLen; omega
  have a1 := z1.put 6 (.slice (some ⟨W.heap.size, 0, none⟩) 0 0)
  have a2 := z2.other (q := ⟨w.heap.size, 6, none⟩) (by simp) (.slice (some ⟨W.heap.size, 0, none⟩) 0 0)
  have ao := o4.setCell (q := ⟨w.heap.size, 6, none⟩) n1 (.slice (some ⟨W.heap.size, 0, none⟩) 0 0)
  have hb5 := hb4.setCell (p := ⟨w.heap.size, 6, none⟩) (Nat.le_refl _) (.slice (some ⟨W.heap.size, 0, none⟩) 0 0)
  simp only [List.setIfInBounds_toArray, List.set_cons_zero, List.set_cons_succ] at a1
  go_enter Tryz.func103, Tryz.ntmps103
  go_upto_region 2 with (at_builtin; refine wpList_append_noneC rfl (.tmp 3) (.tmp 5) 28 rfl W.heap.size 39 i0 7 Tryz.underlying28 hi _ _ _ rfl hown0 lcap rfl ?_)
  generalize hV : (W.alloc (.cells #[] 39)).setCell ⟨w.heap.size, 6, none⟩ (.slice (some ⟨W.heap.size, 0, none⟩) 0 0) = V at a1 a2 ao hb5 ⊢
  clear z1 z2 o4 hb4 hown0 hbA hb0 x1 x2 c6 f6 hV hW
  go_wp2_with first | (refine wpList_load_row rfl 30 _ rfl (w.heap.size) (by rfl) _ _ _ _ a1 Tryz.underlying30 rfl (by kernel_rfl) ?_) | (refine wpList_store_row rfl 30 (.tmp 2) _ rfl (w.heap.size + 1) _ (by rfl) (by rfl) _ _ a2 (by kernel_rfl) (by rfl) (by simp [Value.oneCell']) ?_)
  (try simp only [Exit.inBlock, Exit.then]); refine bodyPost_ret (results_cell_row rfl _ _ (w.heap.size + 1) _ _ _ _ rfl (setRow_heap _ _ _ _ _ _ a2) Tryz.underlying30 rfl (by kernel_rfl)) rfl ?_
  exact ⟨⟨kd, nn, pi, si, zo, be, some ⟨W.heap.size, 0, none⟩, 0, 0, W.heap.size, es⟩, rfl, below_setRow hb5 (by omega) _, ⟨Nat.le_refl _, hm4, (ao.setRow n2 _).downS (by omega)⟩, ⟨rfl, rfl, rfl, rfl, rfl, rfl, rfl, rfl⟩⟩
theorem l9Copy_any (a : Ac) (w : World) (hok : a.ok w) (hn : a.ln ≤ 1048577) : Calls Tryz.prog 103 #[(.agg #[.int .i64 a.kd, .int .i64 a.nn, .int .i64 a.pi, .int .i64 a.si, .int .i64 a.zo, .bool a.be, .slice a.la a.ln a.lcap])] w fun e w' => ∃ t : Ac, e = .returned (.agg #[.int .i64 t.kd, .int .i64 t.nn, .int .i64 t.pi, .int .i64 t.si, .int .i64 t.zo, .bool t.be, .slice t.la t.ln t.lcap]) ∧ Below w.heap.size w w' ∧ OwnA w' w.heap.size t ∧ AlikeA t a := by
  have h0 : a.la = none ∨ ∃ ad, a.la = some ad := by
    cases a.la with
    | none => exact .inl rfl
    | some ad => exact .inr ⟨ad, rfl⟩
  rcases h0 with h | ⟨ad, h⟩
  · exact l9Copy_none a w hok h
  · exact l9Copy_some a ad w hok hn h
end Go.Proofs.YtodfdfncdoliiadGreat
namespace Go.Proofs.YtodfdfncdoliiadGreat
open Go.ChangeShapes Go.WideShapes Go.ChangeAt Go.RowKit
set_option maxRecDepth 100000
set_option linter.unusedVariables false
set_option linter.unusedSimpArgs false

/-- what is left of it -/
def lfE (a : Ef) (n : Int) : Int := if a.ac.kd = 2 then up (ls a.le n) 2147483647 else if 0 < a.le then a.le - 1 else a.le
def spE (a : Ef) (n : Int) : Ef := ⟨a.id, a.si, a.sr, a.cl, a.pt, a.gd, a.ac, a.un, lfE a n⟩
set_option maxHeartbeats 4000000 in
theorem l10Copy_any (a : Ef) (w : World) (hok : a.okW w) (hn : a.ac.ln ≤ 1048577) : Calls Tryz.prog 51 #[(.agg #[.int .i64 a.id, .int .i64 a.si, .int .i64 a.sr, .int .i64 a.cl, .int .i64 a.pt.kd, .int .i64 a.pt.wh, .int .i64 a.pt.sr, .int .i64 a.pt.tr, .int .i64 a.pt.pi, .int .i64 a.pt.le, .int .i64 a.pt.zo, .int .i64 a.gd.kd, .int .i64 a.gd.nn, .int .i64 a.ac.kd, .int .i64 a.ac.nn, .int .i64 a.ac.pi, .int .i64 a.ac.si, .int .i64 a.ac.zo, .bool a.ac.be, .slice a.ac.la a.ac.ln a.ac.lcap, .int .i64 a.un, .int .i64 a.le])] w fun e w' => ∃ t : Ef, e = .returned (.agg #[.int .i64 t.id, .int .i64 t.si, .int .i64 t.sr, .int .i64 t.cl, .int .i64 t.pt.kd, .int .i64 t.pt.wh, .int .i64 t.pt.sr, .int .i64 t.pt.tr, .int .i64 t.pt.pi, .int .i64 t.pt.le, .int .i64 t.pt.zo, .int .i64 t.gd.kd, .int .i64 t.gd.nn, .int .i64 t.ac.kd, .int .i64 t.ac.nn, .int .i64 t.ac.pi, .int .i64 t.ac.si, .int .i64 t.ac.zo, .bool t.ac.be, .slice t.ac.la t.ac.ln t.ac.lcap, .int .i64 t.un, .int .i64 t.le]) ∧ Below w.heap.size w w' ∧ OwnF w' w.heap.size t ∧ AlikeF t a := by
  have HB := ((Below.refl _ w).alloc (Nat.le_refl _) (.cells #[.int .i64 a.id, .int .i64 a.si, .int .i64 a.sr, .int .i64 a.cl, .int .i64 a.pt.kd, .int .i64 a.pt.wh, .int .i64 a.pt.sr, .int .i64 a.pt.tr, .int .i64 a.pt.pi, .int .i64 a.pt.le, .int .i64 a.pt.zo, .int .i64 a.gd.kd, .int .i64 a.gd.nn, .int .i64 a.ac.kd, .int .i64 a.ac.nn, .int .i64 a.ac.pi, .int .i64 a.ac.si, .int .i64 a.ac.zo, .bool a.ac.be, .slice a.ac.la a.ac.ln a.ac.lcap, .int .i64 a.un, .int .i64 a.le] 32)).alloc (by simp) (.cells #[.int .i64 0, .int .i64 0, .int .i64 0, .int .i64 0, .int .i64 0, .int .i64 0, .int .i64 0, .int .i64 0, .int .i64 0, .int .i64 0, .int .i64 0, .int .i64 0, .int .i64 0, .int .i64 0, .int .i64 0, .int .i64 0, .int .i64 0, .int .i64 0, .bool false, .slice none 0 0, .int .i64 0, .int .i64 0] 32)
  have x1 := (boxR_new w 32 #[.int .i64 a.id, .int .i64 a.si, .int .i64 a.sr, .int .i64 a.cl, .int .i64 a.pt.kd, .int .i64 a.pt.wh, .int .i64 a.pt.sr, .int .i64 a.pt.tr, .int .i64 a.pt.pi, .int .i64 a.pt.le, .int .i64 a.pt.zo, .int .i64 a.gd.kd, .int .i64 a.gd.nn, .int .i64 a.ac.kd, .int .i64 a.ac.nn, .int .i64 a.ac.pi, .int .i64 a.ac.si, .int .i64 a.ac.zo, .bool a.ac.be, .slice a.ac.la a.ac.ln a.ac.lcap, .int .i64 a.un, .int .i64 a.le]).alloc (.cells #[.int .i64 0, .int .i64 0, .int .i64 0, .int .i64 0, .int .i64 0, .int .i64 0, .int .i64 0, .int .i64 0, .int .i64 0, .int .i64 0, .int .i64 0, .int .i64 0, .int .i64 0, .int .i64 0, .int .i64 0, .int .i64 0, .int .i64 0, .int .i64 0, .bool false, .slice none 0 0, .int .i64 0, .int .i64 0] 32)
  have x2 : BoxR ((w.alloc (.cells #[.int .i64 a.id, .int .i64 a.si, .int .i64 a.sr, .int .i64 a.cl, .int .i64 a.pt.kd, .int .i64 a.pt.wh, .int .i64 a.pt.sr, .int .i64 a.pt.tr, .int .i64 a.pt.pi, .int .i64 a.pt.le, .int .i64 a.pt.zo, .int .i64 a.gd.kd, .int .i64 a.gd.nn, .int .i64 a.ac.kd, .int .i64 a.ac.nn, .int .i64 a.ac.pi, .int .i64 a.ac.si, .int .i64 a.ac.zo, .bool a.ac.be, .slice a.ac.la a.ac.ln a.ac.lcap, .int .i64 a.un, .int .i64 a.le] 32)).alloc (.cells #[.int .i64 0, .int .i64 0, .int .i64 0, .int .i64 0, .int .i64 0, .int .i64 0, .int .i64 0, .int .i64 0, .int .i64 0, .int .i64 0, .int .i64 0, .int .i64 0, .int .i64 0, .int .i64 0, .int .i64 0, .int .i64 0, .int .i64 0, .int .i64 0, .bool false, .slice none 0 0, .int .i64 0, .int .i64 0] 32)) (w.heap.size + 1) 32 #[.int .i64 0, .int .i64 0, .int .i64 0, .int .i64 0, .int .i64 0, .int .i64 0, .int .i64 0, .int .i64 0, .int .i64 0, .int .i64 0, .int .i64 0, .int .i64 0, .int .i64 0, .int .i64 0, .int .i64 0, .int .i64 0, .int .i64 0, .int .i64 0, .bool false, .slice none 0 0, .int .i64 0, .int .i64 0] := heap_alloc2_new _ _ _
  generalize hW : (w.alloc (.cells #[.int .i64 a.id, .int .i64 a.si, .int .i64 a.sr, .int .i64 a.cl, .int .i64 a.pt.kd, .int .i64 a.pt.wh, .int .i64 a.pt.sr, .int .i64 a.pt.tr, .int .i64 a.pt.pi, .int .i64 a.pt.le, .int .i64 a.pt.zo, .int .i64 a.gd.kd, .int .i64 a.gd.nn, .int .i64 a.ac.kd, .int .i64 a.ac.nn, .int .i64 a.ac.pi, .int .i64 a.ac.si, .int .i64 a.ac.zo, .bool a.ac.be, .slice a.ac.la a.ac.ln a.ac.lcap, .int .i64 a.un, .int .i64 a.le] 32)).alloc (.cells #[.int .i64 0, .int .i64 0, .int .i64 0, .int .i64 0, .int .i64 0, .int .i64 0, .int .i64 0, .int .i64 0, .int .i64 0, .int .i64 0, .int .i64 0, .int .i64 0, .int .i64 0, .int .i64 0, .int .i64 0, .int .i64 0, .int .i64 0, .int .i64 0, .bool false, .slice none 0 0, .int .i64 0, .int .i64 0] 32) = W at HB x1 x2
  have oka := act_grew hok.1 HB
  obtain ⟨k13, k14, k15, k16, k17, k18, k19⟩ := x1.acts
  go_enter Tryz.func51, Tryz.ntmps51
  go_wp2_with fail
  refine (l9Copy_any a.ac _ oka hn).mono ?_
  rintro e w1 ⟨ta, rfl, hb, oA, eA⟩
  clear k13 k14 k15 k16 k17 k18 k19 hW oka
  have hwl := x2.lt
  replace x1 := x1.grew hb
  replace x2 := x2.grew hb
  replace HB := below_app HB hb HB.size
  clear hb
  have ht : w1.there w.heap.size 13 7 := x1.thereL (by simp)
  have y1 := x1.putL 13 (#[.int .i64 ta.kd, .int .i64 ta.nn, .int .i64 ta.pi, .int .i64 ta.si, .int .i64 ta.zo, .bool ta.be, .slice ta.la ta.ln ta.lcap] : Array Value).toList
  have y2 := x2.otherL (g := w.heap.size) (by omega) 13 (#[.int .i64 ta.kd, .int .i64 ta.nn, .int .i64 ta.pi, .int .i64 ta.si, .int .i64 ta.zo, .bool ta.be, .slice ta.la ta.ln ta.lcap] : Array Value).toList
  have yb := below_setCells' (g := w.heap.size) (Nat.le_refl _) (#[.int .i64 ta.kd, .int .i64 ta.nn, .int .i64 ta.pi, .int .i64 ta.si, .int .i64 ta.zo, .bool ta.be, .slice ta.la ta.ln ta.lcap] : Array Value).toList 13 w1 HB
  replace oA := OwnA.setL oA (g := w.heap.size) (by have := oA.2.2.1; omega) 13 (#[.int .i64 ta.kd, .int .i64 ta.nn, .int .i64 ta.pi, .int .i64 ta.si, .int .i64 ta.zo, .bool ta.be, .slice ta.la ta.ln ta.lcap] : Array Value).toList
  generalize hU : w1.setCells w.heap.size 13 (#[.int .i64 ta.kd, .int .i64 ta.nn, .int .i64 ta.pi, .int .i64 ta.si, .int .i64 ta.zo, .bool ta.be, .slice ta.la ta.ln ta.lcap] : Array Value).toList = U at y1 y2 yb oA
  clear x1 x2 HB
  simp only [putA, List.setIfInBounds_toArray, List.set_cons_zero, List.set_cons_succ] at y1
  go_upto_region 2 with (refine wpList_store_mid rfl 30 (.tmp 6) (.tmp 5) rfl (w.heap.size) 13 #[.int .i64 ta.kd, .int .i64 ta.nn, .int .i64 ta.pi, .int .i64 ta.si, .int .i64 ta.zo, .bool ta.be, .slice ta.la ta.ln ta.lcap] (by first | rfl | simp [Act.eval]) rfl ht (by kernel_rfl) (by simp [Value.oneCell']) ?_; rw [hU])
  clear hU ht
  have z1 : BoxR U w.heap.size 32 #[.int .i64 a.id, .int .i64 a.si, .int .i64 a.sr, .int .i64 a.cl, .int .i64 a.pt.kd, .int .i64 a.pt.wh, .int .i64 a.pt.sr, .int .i64 a.pt.tr, .int .i64 a.pt.pi, .int .i64 a.pt.le, .int .i64 a.pt.zo, .int .i64 a.gd.kd, .int .i64 a.gd.nn, .int .i64 ta.kd, .int .i64 ta.nn, .int .i64 ta.pi, .int .i64 ta.si, .int .i64 ta.zo, .bool ta.be, .slice ta.la ta.ln ta.lcap, .int .i64 a.un, .int .i64 a.le] := y1
  clear y1
  as_aux_lemma =>
    go_wp2_with first | (refine wpList_load_row rfl 32 _ rfl (w.heap.size) (by rfl) _ _ _ _ z1 Tryz.underlying32 rfl (by kernel_rfl) ?_) | (refine wpList_store_row rfl 32 (.tmp 2) _ rfl (w.heap.size + 1) _ (by rfl) (by rfl) _ _ y2 (by kernel_rfl) (by rfl) (by simp [Value.oneCell']) ?_)
    (try simp only [Exit.inBlock, Exit.then]); refine bodyPost_ret (results_cell_row rfl _ _ (w.heap.size + 1) _ _ _ _ rfl (setRow_heap _ _ _ _ _ _ y2) Tryz.underlying32 rfl (by kernel_rfl)) rfl ?_
    exact ⟨⟨a.id, a.si, a.sr, a.cl, a.pt, a.gd, ta, a.un, a.le⟩, rfl, below_setRow yb (by omega) _, ⟨oA.1, oA.2.1, (oA.2.2.setRow (by have := oA.2.2.1; omega) _).downS (by omega)⟩, ⟨rfl, rfl, rfl, rfl, rfl, rfl, eA, rfl, rfl⟩⟩
end Go.Proofs.YtodfdfncdoliiadGreat
namespace Go.Proofs.YtodfdfncdoliiadGreat
open Go.ChangeShapes Go.WideShapes Go.ChangeAt Go.RowKit
set_option maxRecDepth 100000
set_option linter.unusedVariables false
set_option linter.unusedSimpArgs false

theorem AlikeA.trans {s t a : Ac} (h : AlikeA s t) (k : AlikeA t a) : AlikeA s a := ⟨h.kd.trans k.kd, h.nn.trans k.nn, h.pi.trans k.pi, h.si.trans k.si, h.zo.trans k.zo, h.be.trans k.be, h.ln.trans k.ln, h.es.trans k.es⟩
theorem AlikeF.trans {s t a : Ef} (h : AlikeF s t) (k : AlikeF t a) : AlikeF s a := ⟨h.id.trans k.id, h.si.trans k.si, h.sr.trans k.sr, h.cl.trans k.cl, h.pt.trans k.pt, h.gd.trans k.gd, h.ac.trans k.ac, h.un.trans k.un, h.le.trans k.le⟩
theorem AlikeF.rfl' (a : Ef) : AlikeF a a := ⟨rfl, rfl, rfl, rfl, rfl, rfl, ⟨rfl, rfl, rfl, rfl, rfl, rfl, rfl, rfl⟩, rfl, rfl⟩
/-- a row of the call's own, of k effects like f's, each with a list of its own; more may be appended -/
def BuildT (w : World) (B : Nat) (v : Value) (k : Nat) (g f : Nat → Ef) : Prop :=
  w.ownsRow B 32 22 v k (valsE efC k g) ∧ v ≠ .slice none 0 0 ∧ (∀ i, i < k → OwnF w B (g i) ∧ v.ownBlock ≠ some (g i).ac.lb ∧ AlikeF (g i) (f i)) ∧ ∀ i j, i < j → j < k → (g i).ac.lb ≠ (g j).ac.lb
theorem BuildT.grew {w w' : World} {B : Nat} {v : Value} {k : Nat} {g f : Nat → Ef} (h : BuildT w B v k g f) (hb : Below w.heap.size w w') : BuildT w' B v k g f :=
  ⟨owns_kept9 h.1 hb, h.2.1, fun i hi => ⟨OwnF.grew (h.2.2.1 i hi).1 hb, (h.2.2.1 i hi).2⟩, h.2.2.2⟩
theorem BuildT.down {w : World} {B B' : Nat} {v : Value} {k : Nat} {g f : Nat → Ef} (h : BuildT w B v k g f) (hB : B' ≤ B) : BuildT w B' v k g f := by
  refine ⟨⟨h.1.1, ?_⟩, h.2.1, fun i hi => ⟨OwnF.down (h.2.2.1 i hi).1 hB, (h.2.2.1 i hi).2⟩, h.2.2.2⟩
  rcases h.1.2 with q | ⟨b, cap, cur, q1, q2, q3⟩
  · exact .inl q
  · exact .inr ⟨b, cap, cur, q1, Nat.le_trans hB q2, q3⟩
theorem BuildT.alike {w : World} {B : Nat} {v : Value} {k : Nat} {g f f' : Nat → Ef} (h : BuildT w B v k g f) (e : ∀ i, i < k → AlikeF (f i) (f' i)) : BuildT w B v k g f' :=
  ⟨h.1, h.2.1, fun i hi => ⟨(h.2.2.1 i hi).1, (h.2.2.1 i hi).2.1, AlikeF.trans (h.2.2.1 i hi).2.2 (e i hi)⟩, h.2.2.2⟩
theorem BuildT.tb {w : World} {B : Nat} {v : Value} {k : Nat} {g f : Nat → Ef} (h : BuildT w B v k g f) : ∃ b cap, v = .slice (some ⟨b, 0, none⟩) k cap ∧ OwnTb w B ⟨some ⟨b, 0, none⟩, k, cap, b, g⟩ := by
  obtain ⟨h1, h2, h3, h4⟩ := h
  have hc : ∀ q c, v = .slice (some q) k c → c ≤ maxLen := fun q c e => by
    subst e
    rcases h1.2 with ⟨p1, _⟩ | ⟨_, _, _, p1, _, _, _, p2, _⟩
    · cases p1
    · cases p1; exact p2
  obtain ⟨b, cap, rfl, hk, ho⟩ := own_ofE efC_len h1 h2
  exact ⟨b, cap, rfl, hk, hc _ _ rfl, ho, fun i hi => ⟨(h3 i hi).1, fun e => (h3 i hi).2.1 (by rw [e]; rfl)⟩, h4⟩
theorem BuildT.size {w : World} {B : Nat} {v : Value} {k : Nat} {g f : Nat → Ef} (h : BuildT w B v k g f) : B < w.heap.size ∨ v = .slice none 0 0 := by
  obtain ⟨b, cap, _, ho⟩ := h.tb
  have h1 := ho.2.2.1.1
  have h2 := ho.2.2.1.2.1
  dsimp only at h1 h2
  exact .inl (by omega)
/-- others are appended: those of a row ys, each with a list that came after w -/
theorem BuildT.cat {w w2 w4 : World} {B : Nat} {v v4 : Value} {k m : Nat} {g f y fy : Nat → Ef} (h : BuildT w B v k g f) (hb : Below w.heap.size w w2) (hBw : B ≤ w.heap.size)
    (hy : ∀ i, i < m → OwnF w2 w.heap.size (y i) ∧ AlikeF (y i) (fy i)) (hd : ∀ i j, i < j → j < m → (y i).ac.lb ≠ (y j).ac.lb)
    (ho : w4.ownsRow B 32 22 v4 (k + m) (valsE efC k g ++ valsE efC m y)) (hg : w2.grownBy w4 v.ownBlock) (hn : v4 ≠ .slice none 0 0) (hat : v4.ownBlock = v.ownBlock ∨ v4.ownBlock = some w2.heap.size) :
    BuildT w4 B v4 (k + m) (fun i => if i < k then g i else y (i - k)) (fun i => if i < k then f i else fy (i - k)) := by
  obtain ⟨h1, h2, h3, h4⟩ := h
  have hvb : ∀ q, v.ownBlock = some q → q < w.heap.size := fun q hq => (h1.lt q hq).2
  have hsz := hb.size
  have hlo : ∀ i, i < k → OwnF w4 B (g i) := fun i hi => by
    have o := OwnF.grew (h3 i hi).1 hb
    exact ⟨o.1, o.2.1, o.2.2.same (hg.block _ o.2.2.2.1 (fun e => (h3 i hi).2.1 e.symm)) hg.size⟩
  have hln : ∀ i, i < m → OwnF w4 w.heap.size (y i) := fun i hi => by
    have o := (hy i hi).1
    have ol := o.lt
    exact ⟨o.1, o.2.1, o.2.2.same (hg.block _ o.2.2.2.1 (fun e => by have := hvb _ e.symm; omega)) hg.size⟩
  have hE : valsE efC k g ++ valsE efC m y = valsE efC (k + m) (fun i => if i < k then g i else y (i - k)) := by
    refine valsE_ext efC_len (by rw [List.length_append, valsE_len efC_len, valsE_len efC_len, Nat.add_mul]) (fun i j hi hj => ?_)
    by_cases hik : i < k
    · have hl : i * 22 + j < (valsE efC k g).length := by rw [valsE_len efC_len]; omega
      rw [List.getElem?_append_left hl, valsE_get efC_len k g i j hik hj]
      simp only [if_pos hik]
    · have hl : (valsE efC k g).length ≤ i * 22 + j := by rw [valsE_len efC_len]; omega
      rw [List.getElem?_append_right hl, valsE_len efC_len, show i * 22 + j - k * 22 = (i - k) * 22 + j by omega, valsE_get efC_len m y (i - k) j (by omega) hj]
      simp only [if_neg hik]
  rw [hE] at ho
  refine ⟨ho, hn, fun i hi => ?_, fun i j hij hj => ?_⟩
  · by_cases hik : i < k
    · simp only [if_pos hik]
      refine ⟨hlo i hik, ?_, (h3 i hik).2.2⟩
      have hl := ((h3 i hik).1.lt).2
      rcases hat with e | e
      · rw [e]; exact (h3 i hik).2.1
      · rw [e]; intro e2; simp only [Option.some.injEq] at e2; omega
    · simp only [if_neg hik]
      have hm : i - k < m := by omega
      have hl := ((hy (i - k) hm).1.lt)
      refine ⟨OwnF.down (hln (i - k) hm) hBw, ?_, (hy (i - k) hm).2⟩
      rcases hat with e | e
      · rw [e]; intro e2; have := hvb _ e2; omega
      · rw [e]; intro e2; simp only [Option.some.injEq] at e2; omega
  · by_cases hjk : j < k
    · have hik : i < k := by omega
      simp only [if_pos hik, if_pos hjk]
      exact h4 i j hij hjk
    · simp only [if_neg hjk]
      by_cases hik : i < k
      · simp only [if_pos hik]
        have h5 := ((h3 i hik).1.lt).2
        have h6 := ((hy (j - k) (by omega)).1.lt).1
        omega
      · simp only [if_neg hik]
        exact hd (i - k) (j - k) (by omega) (by omega)
theorem BuildT.congr {w : World} {B : Nat} {v : Value} {k : Nat} {g g' f f' : Nat → Ef} (h : BuildT w B v k g f) (e : ∀ i, i < k → g i = g' i) (e' : ∀ i, i < k → f i = f' i) : BuildT w B v k g' f' := by
  refine ⟨by rw [← valsE_congr efC_len e]; exact h.1, h.2.1, fun i hi => by rw [← e i hi, ← e' i hi]; exact h.2.2.1 i hi, fun i j hij hj => by rw [← e i (by omega), ← e j hj]; exact h.2.2.2 i j hij hj⟩
/-- one more is appended -/
theorem BuildT.snoc {w w2 w4 : World} {B : Nat} {v v4 : Value} {k : Nat} {g f : Nat → Ef} {y x : Ef} (h : BuildT w B v k g f) (hb : Below w.heap.size w w2) (hBw : B ≤ w.heap.size) (oy : OwnF w2 w.heap.size y) (ky : AlikeF y x)
    (ho : w4.ownsRow B 32 22 v4 (k + 1) (valsE efC k g ++ efC y)) (hg : w2.grownBy w4 v.ownBlock) (hn : v4 ≠ .slice none 0 0) (hat : v4.ownBlock = v.ownBlock ∨ v4.ownBlock = some w2.heap.size) :
    BuildT w4 B v4 (k + 1) (fun i => if i < k then g i else y) (fun i => if i < k then f i else x) :=
  BuildT.cat (m := 1) (y := fun _ => y) (fy := fun _ => x) h hb hBw (fun i hi => ⟨oy, ky⟩) (fun i j hij hj => by omega) (by simpa [valsE] using ho) hg hn hat
set_option maxHeartbeats 4000000 in
theorem l11Copy_build (t : Tb) (w : World) (hok : t.okW w) (hn : t.n ≤ 1048577) : Calls Tryz.prog 79 #[.slice t.p t.n t.cap] w fun e w' => ∃ v g, e = .returned v ∧ Below w.heap.size w w' ∧ BuildT w' w.heap.size v t.n g t.f := by
  have hnm := hok.le
  obtain ⟨i0, hi, hz0, hz1, hz2⟩ := info_parts Tryz.infoEf
  obtain ⟨p, n, cap, b, f⟩ := t
  obtain ⟨hc1, hc2, h, hf⟩ := hok
  dsimp only at hc1 hc2 h hf hn hnm ⊢
  have hown0 : (w.alloc (.cells #[] 32)).ownsRow w.heap.size 32 22 (.slice (some ⟨w.heap.size, 0, none⟩) 0 0) 0 [] := World.ownsRow_lit w #[] 0 (Nat.le_refl _) (by decide) rfl
  have hb1 := below_new2'' w (.cells #[] 32)
  have B0 : BuildT (w.alloc (.cells #[] 32)) w.heap.size (.slice (some ⟨w.heap.size, 0, none⟩) 0 0) 0 f f := ⟨hown0, by simp, fun i hi => absurd hi (Nat.not_lt_zero i), fun i j _ hj => absurd hj (Nat.not_lt_zero j)⟩
  clear hown0
  go_enter Tryz.func79, Tryz.ntmps79
  go_wp2
  generalize w.alloc (.cells #[] 32) = W0 at hb1 B0 ⊢
  go_loopw [3, 4] (fun v i wr => ∃ (k : Nat) (g : Nat → Ef), k ≤ n ∧ i = .int .i64 k ∧ Below w.heap.size w wr ∧ BuildT wr w.heap.size v k g f) (fun _ i _ => n - (intOf i).toNat)
  case atStart => exact ⟨0, f, Nat.zero_le _, rfl, hb1, B0⟩
  case round =>
    clear hb1 B0
    obtain ⟨k, g, hk, rfl, hb, hB⟩ := hrel
    by_cases hlt : k < n
    · rcases h.grew efC_ne hb with h3 | ⟨o1, rfl, h3⟩
      · omega
      have ra := RdE.rangeD h3 hlt
      have hx := efw_grew (hf k hlt).1 hb
      have hxl := (hf k hlt).2
      have y1 : (0 : Int) ≤ (k : Int) := by omega
      have y2 : (k : Int) < (n : Int) := by omega
      obtain ⟨x, hxe⟩ : ∃ x, Hid (f k = x) := ⟨f k, (rfl : f k = f k)⟩
      rw [hxe.out] at ra hx hxl
      clear h3 h
      go_wp2_with (refine wpList_load_mid rfl 32 _ rfl b (o1 + k * 22) (by rfl) [.int .i64 x.id, .int .i64 x.si, .int .i64 x.sr, .int .i64 x.cl, .int .i64 x.pt.kd, .int .i64 x.pt.wh, .int .i64 x.pt.sr, .int .i64 x.pt.tr, .int .i64 x.pt.pi, .int .i64 x.pt.le, .int .i64 x.pt.zo, .int .i64 x.gd.kd, .int .i64 x.gd.nn, .int .i64 x.ac.kd, .int .i64 x.ac.nn, .int .i64 x.ac.pi, .int .i64 x.ac.si, .int .i64 x.ac.zo, .bool x.ac.be, .slice x.ac.la x.ac.ln x.ac.lcap, .int .i64 x.un, .int .i64 x.le] _ ra Tryz.underlying32 rfl (by kernel_rfl) ?_)
      refine (l10Copy_any x _ hx hxl).mono ?_
      rintro e w2 ⟨y, rfl, hb2, oy, ky⟩
      have hown2 := owns_kept9 hB.1 hb2
      have hb3 := below_app hb hb2 hb.size
      have hvl := hown2.lt
      go_wp2_with (at_builtin; refine wpList_append_own_at _ rfl (.tmp 12) (.tmp 18) 56 rfl w.heap.size 32 i0 (.agg #[.int .i64 0, .int .i64 0, .int .i64 0, .int .i64 0, .int .i64 0, .int .i64 0, .int .i64 0, .int .i64 0, .int .i64 0, .int .i64 0, .int .i64 0, .int .i64 0, .int .i64 0, .int .i64 0, .int .i64 0, .int .i64 0, .int .i64 0, .int .i64 0, .bool false, .slice none 0 0, .int .i64 0, .int .i64 0]) 22 192 Tryz.underlying56 hi hz0 hz1 hz2 rfl (by decide) _ _ _ rfl (hown2.alloc _) ⟨w2.heap.size, 0, none⟩ 1 1 (efC y) rfl rfl (cells_new _ _ _) (fun u hu => efC_one 1 (fun _ => y) u (by simpa [valsE] using hu)) (by unfold maxLen; omega) (by omega) (by have := hb3.size; simp; omega) ?_)
      intro v4 w4 hown4 hgr4 hnil4 hat4
      have HB := hB.snoc (hb2.alloc (by have := hb2.size; omega) (.cells #[.int .i64 y.id, .int .i64 y.si, .int .i64 y.sr, .int .i64 y.cl, .int .i64 y.pt.kd, .int .i64 y.pt.wh, .int .i64 y.pt.sr, .int .i64 y.pt.tr, .int .i64 y.pt.pi, .int .i64 y.pt.le, .int .i64 y.pt.zo, .int .i64 y.gd.kd, .int .i64 y.gd.nn, .int .i64 y.ac.kd, .int .i64 y.ac.nn, .int .i64 y.ac.pi, .int .i64 y.ac.si, .int .i64 y.ac.zo, .bool y.ac.be, .slice y.ac.la y.ac.ln y.ac.lcap, .int .i64 y.un, .int .i64 y.le] 32)) hb.size (OwnF.grew oy (below_new2'' w2 _)) ky hown4 hgr4 (fun e => by first | exact hnil4 e | exact hB.2.1 (hnil4.1 e).1) (by rw [World.size_alloc]; exact hat4)
      have hb4 : Below w.heap.size w w4 := (hb3.alloc hb3.size _).grown hgr4 (by have := hb3.size; simp; omega) (fun q hq => (hvl q hq).1)
      replace HB := HB.congr (g' := fun i => if i < k then g i else y) (f' := f) (fun i hi => rfl) (fun i hi => by
        by_cases hik : i < k
        · simp only [if_pos hik]
        · obtain rfl : i = k := by omega
          simp only [if_neg hik]; exact hxe.out.symm)
      clear hown4 hgr4 hnil4 hat4 hown2 hvl hb3 hb2 oy ky hB hb ra hx
      go_wp2
      go_roundw
      case rel => first | exact ⟨k + 1, _, by omega, by go_num, hb4, HB⟩ | ((repeat apply Exists.intro); exact ⟨⟨k + 1, _, by omega, by go_num, hb4, HB⟩, rfl⟩)
      case measure => simp [intOf]; omega
    · obtain rfl : k = n := by omega
      go_wp2
      go_ret
      first | exact ⟨_, g, rfl, hb, hB⟩ | exact ⟨g, hb, hB⟩
end Go.Proofs.YtodfdfncdoliiadGreat
namespace Go.Proofs.YtodfdfncdoliiadGreat
open Go.ChangeShapes Go.WideShapes Go.ChangeAt Go.RowKit
set_option maxRecDepth 100000
set_option linter.unusedVariables false
set_option linter.unusedSimpArgs false

theorem alike_okAc {t a : Ac} (h : AlikeA t a) : okAc t = okAc a := by unfold okAc plA ac6 ac7 ac8 ac9; rw [h.kd, h.nn, h.pi, h.si, h.zo, h.be, h.ln, h.es]
theorem alike_fiA {t a : Ac} (h : AlikeA t a) (k : Int) : fiA t k = fiA a k := by unfold fiA; rw [h.kd]
theorem alike_amA {t a : Ac} (h : AlikeA t a) (n : Int) : amA t n = amA a n := by unfold amA; rw [h.kd, h.nn]
theorem alike_paN {t a : Ac} (h : AlikeA t a) : paN t = paN a := by unfold paN; rw [h.kd, h.ln]
theorem alike_paF {t a : Ac} (h : AlikeA t a) (e : Ev) : paF t e = paF a e := by unfold paF; rw [h.es]
theorem specActOk_al {w0 w : World} {B : Nat} {t a : Ac} (h : OwnA w B t) (k : AlikeA t a) (hs : a.ok w0) (hn : a.ln ≤ 1048576) : Calls Tryz.prog 66 #[(.agg #[.int .i64 t.kd, .int .i64 t.nn, .int .i64 t.pi, .int .i64 t.si, .int .i64 t.zo, .bool t.be, .slice t.la t.ln t.lcap])] w fun e w' => e = .returned (.bool (okAc a)) ∧ Below w.heap.size w w' := by
  rw [← alike_okAc k]; exact specActOk_any t w (okT9 h k hs) (by rw [k.ln]; omega)
theorem specActFits_al {w0 w : World} {B : Nat} {t a : Ac} (c : Int) (h : OwnA w B t) (k : AlikeA t a) (hs : a.ok w0) (hn : a.ln ≤ 1048576) : Calls Tryz.prog 67 #[(.agg #[.int .i64 t.kd, .int .i64 t.nn, .int .i64 t.pi, .int .i64 t.si, .int .i64 t.zo, .bool t.be, .slice t.la t.ln t.lcap]), .int .i64 c] w fun e w' => e = .returned (.bool (fiA a c)) ∧ Below w.heap.size w w' := by
  rw [← alike_fiA k]; exact specActFits_any t c w
end Go.Proofs.YtodfdfncdoliiadGreat
namespace Go.Proofs.YtodfdfncdoliiadGreat
open Go.ChangeShapes Go.WideShapes Go.ChangeAt Go.RowKit
set_option maxRecDepth 100000
set_option linter.unusedVariables false
set_option linter.unusedSimpArgs false

theorem alike_okEf {t a : Ef} (h : AlikeF t a) : okEf t = okEf a := by unfold okEf hdE cdE; rw [h.id, h.si, h.sr, h.cl, h.pt, h.gd, h.un, h.le, alike_okAc h.ac, alike_fiA h.ac, h.ac.kd]
theorem alike_lvE {t a : Ef} (h : AlikeF t a) (c : Int) : lvE t c = lvE a c := by unfold lvE; rw [h.un, h.le]
theorem alike_nrE {t a : Ef} (h : AlikeF t a) (v : Ev) : nrE t v = nrE a v := by unfold nrE; rw [h.cl, h.sr]
theorem alike_smEf {t a s b : Ef} (h : AlikeF t a) (k : AlikeF s b) : smEf t s = smEf a b := by unfold smEf smH smK; rw [h.id, h.si, h.sr, h.cl, h.pt, h.gd, h.un, h.le, h.ac.kd, h.ac.nn, h.ac.pi, h.ac.si, h.ac.zo, h.ac.be, h.ac.ln, h.ac.es, k.id, k.si, k.sr, k.cl, k.pt, k.gd, k.un, k.le, k.ac.kd, k.ac.nn, k.ac.pi, k.ac.si, k.ac.zo, k.ac.be, k.ac.ln, k.ac.es]
theorem specEffectOk_al {w0 w : World} {B : Nat} {t a : Ef} (h : OwnF w B t) (k : AlikeF t a) (hs : a.ok w0) (hn : a.ac.ln ≤ 1048576) : Calls Tryz.prog 14 #[(.agg #[.int .i64 t.id, .int .i64 t.si, .int .i64 t.sr, .int .i64 t.cl, .int .i64 t.pt.kd, .int .i64 t.pt.wh, .int .i64 t.pt.sr, .int .i64 t.pt.tr, .int .i64 t.pt.pi, .int .i64 t.pt.le, .int .i64 t.pt.zo, .int .i64 t.gd.kd, .int .i64 t.gd.nn, .int .i64 t.ac.kd, .int .i64 t.ac.nn, .int .i64 t.ac.pi, .int .i64 t.ac.si, .int .i64 t.ac.zo, .bool t.ac.be, .slice t.ac.la t.ac.ln t.ac.lcap, .int .i64 t.un, .int .i64 t.le])] w fun e w' => e = .returned (.bool (okEf a)) ∧ Below w.heap.size w w' := by
  rw [← alike_okEf k]; exact specEffectOk_any t w (okT10 h k hs).w (by rw [k.ac.ln]; omega)
theorem specLives_al {w0 w : World} {B : Nat} {t a : Ef} (c : Int) (h : OwnF w B t) (k : AlikeF t a) (hs : a.ok w0) (hn : a.ac.ln ≤ 1048576) : Calls Tryz.prog 19 #[(.agg #[.int .i64 t.id, .int .i64 t.si, .int .i64 t.sr, .int .i64 t.cl, .int .i64 t.pt.kd, .int .i64 t.pt.wh, .int .i64 t.pt.sr, .int .i64 t.pt.tr, .int .i64 t.pt.pi, .int .i64 t.pt.le, .int .i64 t.pt.zo, .int .i64 t.gd.kd, .int .i64 t.gd.nn, .int .i64 t.ac.kd, .int .i64 t.ac.nn, .int .i64 t.ac.pi, .int .i64 t.ac.si, .int .i64 t.ac.zo, .bool t.ac.be, .slice t.ac.la t.ac.ln t.ac.lcap, .int .i64 t.un, .int .i64 t.le]), .int .i64 c] w fun e w' => e = .returned (.bool (lvE a c)) ∧ Below w.heap.size w w' := by
  rw [← alike_lvE k]; exact specLives_any t c w
theorem specNear_al {w0 w : World} {B : Nat} {t a : Ef} (v : Ev) (h : OwnF w B t) (k : AlikeF t a) (hs : a.ok w0) (hn : a.ac.ln ≤ 1048576) : Calls Tryz.prog 21 #[(.agg #[.int .i64 t.id, .int .i64 t.si, .int .i64 t.sr, .int .i64 t.cl, .int .i64 t.pt.kd, .int .i64 t.pt.wh, .int .i64 t.pt.sr, .int .i64 t.pt.tr, .int .i64 t.pt.pi, .int .i64 t.pt.le, .int .i64 t.pt.zo, .int .i64 t.gd.kd, .int .i64 t.gd.nn, .int .i64 t.ac.kd, .int .i64 t.ac.nn, .int .i64 t.ac.pi, .int .i64 t.ac.si, .int .i64 t.ac.zo, .bool t.ac.be, .slice t.ac.la t.ac.ln t.ac.lcap, .int .i64 t.un, .int .i64 t.le]), (.agg #[.int .i64 v.kd, .int .i64 v.sr, .int .i64 v.pi, .int .i64 v.si, .int .i64 v.nn, .int .i64 v.zo, .bool v.be])] w fun e w' => e = .returned (.bool (nrE a v)) ∧ Below w.heap.size w w' := by
  rw [← alike_nrE k]; exact specNear_any t v w
theorem specSameEffect_al {w0 w : World} {B1 B2 : Nat} {t s a b : Ef} (h1 : OwnF w B1 t) (k1 : AlikeF t a) (h2 : OwnF w B2 s) (k2 : AlikeF s b) (ha : a.ok w0) (hb : b.ok w0) (hn : a.ac.ln ≤ 1048576) : Calls Tryz.prog 17 #[(.agg #[.int .i64 t.id, .int .i64 t.si, .int .i64 t.sr, .int .i64 t.cl, .int .i64 t.pt.kd, .int .i64 t.pt.wh, .int .i64 t.pt.sr, .int .i64 t.pt.tr, .int .i64 t.pt.pi, .int .i64 t.pt.le, .int .i64 t.pt.zo, .int .i64 t.gd.kd, .int .i64 t.gd.nn, .int .i64 t.ac.kd, .int .i64 t.ac.nn, .int .i64 t.ac.pi, .int .i64 t.ac.si, .int .i64 t.ac.zo, .bool t.ac.be, .slice t.ac.la t.ac.ln t.ac.lcap, .int .i64 t.un, .int .i64 t.le]), (.agg #[.int .i64 s.id, .int .i64 s.si, .int .i64 s.sr, .int .i64 s.cl, .int .i64 s.pt.kd, .int .i64 s.pt.wh, .int .i64 s.pt.sr, .int .i64 s.pt.tr, .int .i64 s.pt.pi, .int .i64 s.pt.le, .int .i64 s.pt.zo, .int .i64 s.gd.kd, .int .i64 s.gd.nn, .int .i64 s.ac.kd, .int .i64 s.ac.nn, .int .i64 s.ac.pi, .int .i64 s.ac.si, .int .i64 s.ac.zo, .bool s.ac.be, .slice s.ac.la s.ac.ln s.ac.lcap, .int .i64 s.un, .int .i64 s.le])] w fun e w' => e = .returned (.bool (smEf a b)) ∧ Below w.heap.size w w' := by
  rw [← alike_smEf k1 k2]; exact specSameEffect_any t s w (okT10 h1 k1 ha).w (okT10 h2 k2 hb).w (by rw [k1.ac.ln]; omega)
end Go.Proofs.YtodfdfncdoliiadGreat
