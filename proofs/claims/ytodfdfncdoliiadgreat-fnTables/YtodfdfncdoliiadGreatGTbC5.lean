/-
  Chapter 11, the program: Drop, Update. Written by tools/tai.gen.py. Chapter 4: the program's between, Moved, asPrinted, SamePiece, HasTrait, withCounters, PowerOf, ToughOf, flagNum. Chapter 6: the program's things behind their interface: thingOf, event, thingOk, rightThing, EventOk. Written by tools/ev.gen.py. Chapter 10, the program: standing, and what it is asked. Written by tools/efi.gen.py. Chapter 7: the specification's Narrower (nrP). Written by tools/pa.gen.py. Own work.
-/
import Derived.Test.YtodfdfncdoliiadGreatGRegCut3
import Derived.Test.YtodfdfncdoliiadGreatGTbS4
import Derived.Deep.DeepCutAuto
import Derived.Deep.CutBlock
import Derived.Deep.RegionHeld
import Derived.Deep.RegionHeldLaw
import Derived.Deep.MidRow
import Derived.Laws.OwnMore
import Derived.Test.YtodfdfncdoliiadGreatGSeg5
import Derived.Test.YtodfdfncdoliiadGreatGEvA3
import Derived.Test.YtodfdfncdoliiadGreatGSpA5
import Derived.Test.YtodfdfncdoliiadGreatGPaB5
namespace Go.Proofs.YtodfdfncdoliiadGreat
open Go.ChangeShapes Go.WideShapes Go.ChangeAt Go.RowKit
set_option maxRecDepth 100000
set_option linter.unusedVariables false
set_option linter.unusedSimpArgs false

theorem sel_ok {f : Nat → Ef} {n : Nat} {w w' : World} (hf : ∀ i, i < n → (f i).okW w ∧ (f i).ac.ln ≤ 1048577) (hb : Below w.heap.size w w') : ∀ i, i < n → (f i).okW w' ∧ (f i).ac.ln ≤ 1048577 := fun i hi => ⟨efw_grew (hf i hi).1 hb, (hf i hi).2⟩
theorem OwnE.wrote {α : Type} {C : α → List Value} {m : Nat} {w w' : World} {B b c : Nat} {a : Option Addr} {n : Nat} {f : Nat → α} (h : OwnE C m w B b a n f) (W : Wrote w w' c) (hne : b ≠ c) : OwnE C m w' B b a n f := h.same (W.other hne) (Nat.le_of_eq W.size.symm)
theorem OwnE.rebaseT {α : Type} {C : α → List Value} {m : Nat} {w : World} {B B' b : Nat} {a : Option Addr} {n : Nat} {f : Nat → α} (h : OwnE C m w B b a n f) (hB : B' ≤ B) : OwnE C m w B' b a n f := ⟨Nat.le_trans hB h.1, h.2⟩
set_option maxHeartbeats 4000000 in
theorem implDrop_any (t : Tb) (id : Int) (w : World) (hok : t.okW w) (hn : t.n ≤ 1048577) :
    Calls Tryz.prog 42 #[.slice t.p t.n t.cap, .int .i64 id] w fun e w' => ∃ q : Tb, e = .returned (.tuple #[.slice q.p q.n q.cap, .bool (decide (0 ≤ eaN t.f id t.n))]) ∧ Below w.heap.size w w' ∧ AnsT w' w.heap.size q (drN t.f id t.n) (drG t.f id t.n) := by
  have hf := hok.2.2.2
  go_enter Tryz.func42, Tryz.ntmps42
  go_wp2_with fail
  refine (tableOf_any t w hok hn).mono ?_
  rintro e u1 ⟨mb, qb, rfl, hb1, M1, l1, nqm, o1⟩
  have hB := hb1
  have z0 := boxR_new u1 113 #[.map none, .slice none 0 0]
  have zb := below_setRow (below_new2'' u1 (.cells #[.map none, .slice none 0 0] 113)) (Nat.le_refl _) (#[.map (some mb), .slice (some ⟨qb, 0, none⟩) t.n t.n] : Array Value)
  have z1 : BoxR ((u1.alloc (.cells #[.map none, .slice none 0 0] 113)).setRow u1.heap.size #[.map (some mb), .slice (some ⟨qb, 0, none⟩) t.n t.n]) u1.heap.size 113 #[.map (some mb), .slice (some ⟨qb, 0, none⟩) t.n t.n] := setRow_heap _ _ _ _ _ _ z0
  have ntm := M1.lt
  have ntw := hB.size
  go_upto_region 2 with (refine wpList_store_row rfl 113 (.tmp 6) _ rfl u1.heap.size _ (by rfl) (by rfl) _ _ z0 (by kernel_rfl) (by rfl) (by simp [Value.oneCell']) ?_)
  generalize hU : (u1.alloc (.cells #[.map none, .slice none 0 0] 113)).setRow u1.heap.size #[.map (some mb), .slice (some ⟨qb, 0, none⟩) t.n t.n] = U at zb z1 ⊢
  replace M1 := M1.grew zb
  replace o1 := o1.grew zb
  replace hB := below_app hB zb hB.size
  replace ntm : u1.heap.size ≠ mb := by omega
  generalize u1.heap.size = tb at z1 ntm ntw ⊢
  clear z0 zb hU hb1
  go_wp2_with (refine wpList_load_row rfl 113 _ rfl tb (by rfl) _ _ _ _ z1 Tryz.underlying113 rfl (by kernel_rfl) ?_)
  refine (has_any (tabM t.f t.n) mb _ _ _ id _ M1).mono ?_
  rw [has_eaN t.f id t.n]
  rintro e u2 ⟨rfl, hb2⟩
  replace M1 := M1.grew hb2
  replace o1 := o1.grew hb2
  replace z1 := z1.grew hb2
  replace hB := below_app hB hb2 hB.size
  clear hb2
  go_upto_region 3 with fail
  have k0 : u2.cell? ⟨tb, 0, none⟩ = some (.map (some mb)) := by have := z1.cell 0; simpa using this
  refine wp_cutR (fun _ : Unit => [(13, .pointer (some ⟨tb, 0, none⟩)), (14, .map (some mb)), (15, .int .i64 id), (16, .agg #[.int .i64 id, .int .i64 0])]) (fun _ u => Below w.heap.size w u ∧ BoxR u tb 113 #[.map (some mb), .slice (some ⟨qb, 0, none⟩) t.n t.n] ∧ MapB encMk u mb (valM (delE (tabM t.f t.n) (id, 0))) ∧ OwnE mkC 2 u w.heap.size qb (some ⟨qb, 0, none⟩) t.n (mkAt t.f)) ?_ ?_
  · refine wp_region_held_drew (S := fun u : World => u.cell? ⟨tb, 0, none⟩ = some (.map (some mb))) (by kernel_rfl) k0 (fun hHeld => ?_)
    have hq := (Below.refl u2.heap.size u2).drew
    clear k0
    replace M1 := M1.grew hq
    replace o1 := o1.grew hq
    replace z1 := z1.grew hq
    replace hB := below_app hB hq hB.size
    clear hq
    generalize hY : u2.drew = Y at M1 o1 z1 hB hHeld ⊢
    clear hY
    refine wpAnyH_take (i := 0) (oi := ⟨some 13, _, _, _, _, _⟩) (v := .pointer (some ⟨tb, 0, none⟩)) rfl (by kernel_rfl) (by kernel_rfl) (by kernel_rfl) (fun _ _ _ h => h) (Or.inl ⟨by kernel_rfl, fun u hSu => by clear hSu; go_simp⟩) hHeld ?_
    try simp only [Act.put, List.setIfInBounds_toArray, List.set_cons_zero, List.set_cons_succ]
    refine wpAnyH_take (i := 1) (oi := ⟨some 14, _, _, _, _, _⟩) (v := .map (some mb)) rfl (by kernel_rfl) (by kernel_rfl) (by kernel_rfl) (fun _ _ _ h => h) (Or.inl ⟨by kernel_rfl, fun u hSu => by have hcu := hSu; clear hSu; go_simp⟩) hHeld ?_
    try simp only [Act.put, List.setIfInBounds_toArray, List.set_cons_zero, List.set_cons_succ]
    refine wpAnyH_take (i := 2) (oi := ⟨some 15, _, _, _, _, _⟩) (v := .int .i64 id) rfl (by kernel_rfl) (by kernel_rfl) (by kernel_rfl) (fun _ _ _ h => h) (Or.inl ⟨by kernel_rfl, fun u hSu => by clear hSu; go_simp⟩) hHeld ?_
    try simp only [Act.put, List.setIfInBounds_toArray, List.set_cons_zero, List.set_cons_succ]
    refine wpAnyH_ready (rs := [3]) (by kernel_rfl) (by simp) ?_
    refine AllReadyH.cons (o := ⟨some 16, _, _, _, _, _⟩) rfl (fun K' hK => ?_) AllReadyH.nil
    go_simp
    go_at_call 85
    refine (firstOf_any id _).mono ?_
    rintro e Y2 ⟨rfl, hb2⟩
    have hS2 := hHeld
    replace hS2 := World.cellB hS2 hb2
    replace M1 := M1.grew hb2
    replace o1 := o1.grew hb2
    replace z1 := z1.grew hb2
    replace hB := below_app hB hb2 hB.size
    clear hb2 hHeld
    refine hK.out _ _ hS2 (fun hHeld => ?_)
    clear hK hS2
    try simp only [Act.put, List.setIfInBounds_toArray, List.set_cons_zero, List.set_cons_succ]
    refine wpAnyH_ready (rs := [4]) (by kernel_rfl) (by simp) ?_
    refine AllReadyH.cons (o := ⟨none, _, _, _, _, _⟩) rfl (fun K' hK => ?_) AllReadyH.nil
    rw [if_pos (by kernel_rfl)]
    refine wp_delM (.tmp 14) (.tmp 16) 110 117 rfl keyM Tryz.underlying110 rfl M1 (id, 0) rfl ?_
    intro Y3 M3 wr3
    rw [delE_val] at M3
    replace z1 := z1.wrote wr3
    replace o1 := o1.wrote wr3 nqm
    replace hB := hB.trans (wr3.below l1)
    refine hK.out _ _ (wr3.cell hHeld) (fun hHeld => ?_)
    clear hK
    try simp only [Act.put, List.setIfInBounds_toArray, List.set_cons_zero, List.set_cons_succ]
    refine wpAnyH_done (by kernel_rfl) ?_ _
    refine ⟨(), ?_, hB, z1, M3, o1⟩
    simp only [puts, List.foldl_cons, List.foldl_nil, Act.put, List.setIfInBounds_toArray, List.set_cons_zero, List.set_cons_succ]
  clear M1 o1 z1 hB k0
  rintro _ u3 ⟨hB, z1, M1, o1⟩
  try simp only [puts, List.foldl_cons, List.foldl_nil, Act.put, List.setIfInBounds_toArray, List.set_cons_zero, List.set_cons_succ]
  have sel := sel_drop (t.f 0) t.f id t.n
  have hsel : ∀ i, i < t.n → ∀ x, delE (tabM t.f t.n) (id, 0) (mkAt t.f i) = some x → x.okW u3 ∧ x.ac.ln ≤ 1048577 := fun i hi x hx => by
    unfold delE at hx
    split at hx
    · cases hx
    · obtain ⟨j, hj, _, rfl⟩ := tabM_some t.f hx
      exact sel_ok hf hB j hj
  go_wp2_with (refine wpList_load_row rfl 113 _ rfl tb (by rfl) _ _ _ _ z1 Tryz.underlying113 rfl (by kernel_rfl) ?_)
  refine (list_any (delE (tabM t.f t.n) (id, 0)) (mkAt t.f) (t.f 0) mb qb (some ⟨qb, 0, none⟩) t.n t.n _ M1 o1.rd (by omega) hsel).mono ?_
  rintro e u9 ⟨v, g', rfl, hb9, B9⟩
  have hB9 := below_app hB hb9 hB.size
  have B8 := (B9.down hB.size).congr (g' := g') (f' := drG t.f id t.n) (fun i hi => rfl) (fun i hi => sel.2 i (by rw [← sel.1]; exact hi))
  rw [sel.1] at B8
  obtain ⟨q, rfl, hq⟩ := B8.ans
  clear M1 o1 z1 hsel B9 hb9
  go_wp2
  go_ret2
  exact ⟨q, rfl, hB9, hq⟩
set_option maxHeartbeats 4000000 in
theorem implUpdate_any (t : Tb) (x : Ef) (w : World) (hok : t.okW w) (hn : t.n ≤ 1048577) (hx : x.okW w) (hxl : x.ac.ln ≤ 1048577) :
    Calls Tryz.prog 30 #[.slice t.p t.n t.cap, (.agg #[.int .i64 x.id, .int .i64 x.si, .int .i64 x.sr, .int .i64 x.cl, .int .i64 x.pt.kd, .int .i64 x.pt.wh, .int .i64 x.pt.sr, .int .i64 x.pt.tr, .int .i64 x.pt.pi, .int .i64 x.pt.le, .int .i64 x.pt.zo, .int .i64 x.gd.kd, .int .i64 x.gd.nn, .int .i64 x.ac.kd, .int .i64 x.ac.nn, .int .i64 x.ac.pi, .int .i64 x.ac.si, .int .i64 x.ac.zo, .bool x.ac.be, .slice x.ac.la x.ac.ln x.ac.lcap, .int .i64 x.un, .int .i64 x.le])] w fun e w' => ∃ q : Tb, e = .returned (.slice q.p q.n q.cap) ∧ Below w.heap.size w w' ∧ AnsT w' w.heap.size q t.n (upF t.n t.f x) := by
  have hf := hok.2.2.2
  have bx := boxR_new w 32 #[.int .i64 x.id, .int .i64 x.si, .int .i64 x.sr, .int .i64 x.cl, .int .i64 x.pt.kd, .int .i64 x.pt.wh, .int .i64 x.pt.sr, .int .i64 x.pt.tr, .int .i64 x.pt.pi, .int .i64 x.pt.le, .int .i64 x.pt.zo, .int .i64 x.gd.kd, .int .i64 x.gd.nn, .int .i64 x.ac.kd, .int .i64 x.ac.nn, .int .i64 x.ac.pi, .int .i64 x.ac.si, .int .i64 x.ac.zo, .bool x.ac.be, .slice x.ac.la x.ac.ln x.ac.lcap, .int .i64 x.un, .int .i64 x.le]
  have hb0 := below_new2'' w (.cells #[.int .i64 x.id, .int .i64 x.si, .int .i64 x.sr, .int .i64 x.cl, .int .i64 x.pt.kd, .int .i64 x.pt.wh, .int .i64 x.pt.sr, .int .i64 x.pt.tr, .int .i64 x.pt.pi, .int .i64 x.pt.le, .int .i64 x.pt.zo, .int .i64 x.gd.kd, .int .i64 x.gd.nn, .int .i64 x.ac.kd, .int .i64 x.ac.nn, .int .i64 x.ac.pi, .int .i64 x.ac.si, .int .i64 x.ac.zo, .bool x.ac.be, .slice x.ac.la x.ac.ln x.ac.lcap, .int .i64 x.un, .int .i64 x.le] 32)
  go_enter Tryz.func30, Tryz.ntmps30
  go_wp2_with fail
  generalize w.alloc (.cells #[.int .i64 x.id, .int .i64 x.si, .int .i64 x.sr, .int .i64 x.cl, .int .i64 x.pt.kd, .int .i64 x.pt.wh, .int .i64 x.pt.sr, .int .i64 x.pt.tr, .int .i64 x.pt.pi, .int .i64 x.pt.le, .int .i64 x.pt.zo, .int .i64 x.gd.kd, .int .i64 x.gd.nn, .int .i64 x.ac.kd, .int .i64 x.ac.nn, .int .i64 x.ac.pi, .int .i64 x.ac.si, .int .i64 x.ac.zo, .bool x.ac.be, .slice x.ac.la x.ac.ln x.ac.lcap, .int .i64 x.un, .int .i64 x.le] 32) = W0 at hb0 bx ⊢
  have hok0 := hok.grew hb0
  have hW0 := hb0.size
  have ntw0 := bx.lt
  refine (tableOf_any t W0 hok0 hn).mono ?_
  rintro e u1 ⟨mb, qb, rfl, hb1, M1, l1, nqm, o1⟩
  replace bx := bx.grew hb1
  have hB := below_app hb0 hb1 hb0.size
  have z0 := boxR_new u1 113 #[.map none, .slice none 0 0]
  have zb := below_setRow (below_new2'' u1 (.cells #[.map none, .slice none 0 0] 113)) (Nat.le_refl _) (#[.map (some mb), .slice (some ⟨qb, 0, none⟩) t.n t.n] : Array Value)
  have z1 : BoxR ((u1.alloc (.cells #[.map none, .slice none 0 0] 113)).setRow u1.heap.size #[.map (some mb), .slice (some ⟨qb, 0, none⟩) t.n t.n]) u1.heap.size 113 #[.map (some mb), .slice (some ⟨qb, 0, none⟩) t.n t.n] := setRow_heap _ _ _ _ _ _ z0
  have ntm := M1.lt
  have ntw := hB.size
  go_upto_region 2 with (refine wpList_store_row rfl 113 (.tmp 5) _ rfl u1.heap.size _ (by rfl) (by rfl) _ _ z0 (by kernel_rfl) (by rfl) (by simp [Value.oneCell']) ?_)
  generalize hU : (u1.alloc (.cells #[.map none, .slice none 0 0] 113)).setRow u1.heap.size #[.map (some mb), .slice (some ⟨qb, 0, none⟩) t.n t.n] = U at zb z1 ⊢
  replace M1 := M1.grew zb
  replace o1 := o1.grew zb
  replace bx := bx.grew zb
  replace hB := below_app hB zb hB.size
  replace ntm : u1.heap.size ≠ mb := by omega
  generalize u1.heap.size = tb at z1 ntm ntw ⊢
  clear z0 zb hU hb1 hb0
  replace l1 : w.heap.size ≤ mb := by omega
  replace o1 := o1.rebaseT hW0
  clear hok0
  have c0 : U.cell? ⟨w.heap.size, 0, none⟩ = some (.int .i64 x.id) := by have := bx.cell 0; simpa using this
  go_wp2_with (refine wpList_load_row rfl 113 _ rfl tb (by rfl) _ _ _ _ z1 Tryz.underlying113 rfl (by kernel_rfl) ?_)
  refine (has_any (tabM t.f t.n) mb _ _ _ x.id _ M1).mono ?_
  rw [has_eaN t.f x.id t.n]
  rintro e u2 ⟨rfl, hb2⟩
  replace M1 := M1.grew hb2
  replace o1 := o1.grew hb2
  replace z1 := z1.grew hb2
  replace bx := bx.grew hb2
  replace hB := below_app hB hb2 hB.size
  clear hb2 c0
  by_cases hh : 0 ≤ eaN t.f x.id t.n
  · rw [decide_eq_true hh]
    go_upto_region 3 with fail
    have k0 : u2.cell? ⟨tb, 0, none⟩ = some (.map (some mb)) := by have := z1.cell 0; simpa using this
    refine wp_cutR (fun _ : Unit => [(12, .pointer (some ⟨tb, 0, none⟩)), (13, .map (some mb)), (14, .pointer (some ⟨w.heap.size, 0, none⟩)), (15, .int .i64 x.id), (16, .agg #[.int .i64 x.id, .int .i64 0]), (17, (.agg #[.int .i64 x.id, .int .i64 x.si, .int .i64 x.sr, .int .i64 x.cl, .int .i64 x.pt.kd, .int .i64 x.pt.wh, .int .i64 x.pt.sr, .int .i64 x.pt.tr, .int .i64 x.pt.pi, .int .i64 x.pt.le, .int .i64 x.pt.zo, .int .i64 x.gd.kd, .int .i64 x.gd.nn, .int .i64 x.ac.kd, .int .i64 x.ac.nn, .int .i64 x.ac.pi, .int .i64 x.ac.si, .int .i64 x.ac.zo, .bool x.ac.be, .slice x.ac.la x.ac.ln x.ac.lcap, .int .i64 x.un, .int .i64 x.le]))]) (fun _ u => Below w.heap.size w u ∧ BoxR u tb 113 #[.map (some mb), .slice (some ⟨qb, 0, none⟩) t.n t.n] ∧ MapB encMk u mb (valM (putE' (tabM t.f t.n) (x.id, 0) x)) ∧ OwnE mkC 2 u w.heap.size qb (some ⟨qb, 0, none⟩) t.n (mkAt t.f)) ?_ ?_
    · refine wp_region_held_drew (S := fun u : World => u.cell? ⟨tb, 0, none⟩ = some (.map (some mb)) ∧ BoxR u w.heap.size 32 #[.int .i64 x.id, .int .i64 x.si, .int .i64 x.sr, .int .i64 x.cl, .int .i64 x.pt.kd, .int .i64 x.pt.wh, .int .i64 x.pt.sr, .int .i64 x.pt.tr, .int .i64 x.pt.pi, .int .i64 x.pt.le, .int .i64 x.pt.zo, .int .i64 x.gd.kd, .int .i64 x.gd.nn, .int .i64 x.ac.kd, .int .i64 x.ac.nn, .int .i64 x.ac.pi, .int .i64 x.ac.si, .int .i64 x.ac.zo, .bool x.ac.be, .slice x.ac.la x.ac.ln x.ac.lcap, .int .i64 x.un, .int .i64 x.le]) (by kernel_rfl) ⟨k0, bx⟩ (fun hHeld => ?_)
      have hq := (Below.refl u2.heap.size u2).drew
      clear k0
      replace M1 := M1.grew hq
      replace o1 := o1.grew hq
      replace z1 := z1.grew hq
      replace hB := below_app hB hq hB.size
      clear hq
      generalize hY : u2.drew = Y at M1 o1 z1 hB hHeld ⊢
      clear hY
      refine wpAnyH_take (i := 0) (oi := ⟨some 12, _, _, _, _, _⟩) (v := .pointer (some ⟨tb, 0, none⟩)) rfl (by kernel_rfl) (by kernel_rfl) (by kernel_rfl) (fun _ _ _ h => h) (Or.inl ⟨by kernel_rfl, fun u hSu => by clear hSu; go_simp⟩) hHeld ?_
      try simp only [Act.put, List.setIfInBounds_toArray, List.set_cons_zero, List.set_cons_succ]
      refine wpAnyH_take (i := 1) (oi := ⟨some 13, _, _, _, _, _⟩) (v := .map (some mb)) rfl (by kernel_rfl) (by kernel_rfl) (by kernel_rfl) (fun _ _ _ h => h) (Or.inl ⟨by kernel_rfl, fun u hSu => by have hcu := hSu.1; clear hSu; go_simp⟩) hHeld ?_
      try simp only [Act.put, List.setIfInBounds_toArray, List.set_cons_zero, List.set_cons_succ]
      refine wpAnyH_take (i := 2) (oi := ⟨some 14, _, _, _, _, _⟩) (v := .pointer (some ⟨w.heap.size, 0, none⟩)) rfl (by kernel_rfl) (by kernel_rfl) (by kernel_rfl) (fun _ _ _ h => h) (Or.inl ⟨by kernel_rfl, fun u hSu => by clear hSu; go_simp⟩) hHeld ?_
      try simp only [Act.put, List.setIfInBounds_toArray, List.set_cons_zero, List.set_cons_succ]
      refine wpAnyH_take (i := 3) (oi := ⟨some 15, _, _, _, _, _⟩) (v := .int .i64 x.id) rfl (by kernel_rfl) (by kernel_rfl) (by kernel_rfl) (fun _ _ _ h => h) (Or.inl ⟨by kernel_rfl, fun u hSu => by have hcu := hSu.2.cell 0; simp at hcu; clear hSu; go_simp⟩) hHeld ?_
      try simp only [Act.put, List.setIfInBounds_toArray, List.set_cons_zero, List.set_cons_succ]
      refine wpAnyH_take (i := 5) (oi := ⟨some 17, _, _, _, _, _⟩) (v := (.agg #[.int .i64 x.id, .int .i64 x.si, .int .i64 x.sr, .int .i64 x.cl, .int .i64 x.pt.kd, .int .i64 x.pt.wh, .int .i64 x.pt.sr, .int .i64 x.pt.tr, .int .i64 x.pt.pi, .int .i64 x.pt.le, .int .i64 x.pt.zo, .int .i64 x.gd.kd, .int .i64 x.gd.nn, .int .i64 x.ac.kd, .int .i64 x.ac.nn, .int .i64 x.ac.pi, .int .i64 x.ac.si, .int .i64 x.ac.zo, .bool x.ac.be, .slice x.ac.la x.ac.ln x.ac.lcap, .int .i64 x.un, .int .i64 x.le])) rfl (by kernel_rfl) (by kernel_rfl) (by kernel_rfl) (fun _ _ _ h => h) (yieldsIf_load_mid (by kernel_rfl) 32 (.tmp 3) rfl (w.heap.size) 0 (by rfl) (#[.int .i64 x.id, .int .i64 x.si, .int .i64 x.sr, .int .i64 x.cl, .int .i64 x.pt.kd, .int .i64 x.pt.wh, .int .i64 x.pt.sr, .int .i64 x.pt.tr, .int .i64 x.pt.pi, .int .i64 x.pt.le, .int .i64 x.pt.zo, .int .i64 x.gd.kd, .int .i64 x.gd.nn, .int .i64 x.ac.kd, .int .i64 x.ac.nn, .int .i64 x.ac.pi, .int .i64 x.ac.si, .int .i64 x.ac.zo, .bool x.ac.be, .slice x.ac.la x.ac.ln x.ac.lcap, .int .i64 x.un, .int .i64 x.le] : Array Value).toList _ (fun u hu => BoxR.rangeTt hu.2) Tryz.underlying32 rfl (by kernel_rfl)) hHeld ?_
      try simp only [Act.put, List.setIfInBounds_toArray, List.set_cons_zero, List.set_cons_succ]
      refine wpAnyH_ready (rs := [4]) (by kernel_rfl) (by simp) ?_
      refine AllReadyH.cons (o := ⟨some 16, _, _, _, _, _⟩) rfl (fun K' hK => ?_) AllReadyH.nil
      go_simp
      go_at_call 85
      refine (firstOf_any x.id _).mono ?_
      rintro e Y2 ⟨rfl, hb2⟩
      have hS2 := hHeld
      replace hS2 := And.intro (World.cellB hS2.1 hb2) (hS2.2.grew hb2)
      replace M1 := M1.grew hb2
      replace o1 := o1.grew hb2
      replace z1 := z1.grew hb2
      replace hB := below_app hB hb2 hB.size
      clear hb2 hHeld
      refine hK.out _ _ hS2 (fun hHeld => ?_)
      clear hK hS2
      try simp only [Act.put, List.setIfInBounds_toArray, List.set_cons_zero, List.set_cons_succ]
      refine wpAnyH_ready (rs := [6]) (by kernel_rfl) (by simp) ?_
      refine AllReadyH.cons (o := ⟨none, _, _, _, _, _⟩) rfl (fun K' hK => ?_) AllReadyH.nil
      rw [if_pos (by kernel_rfl)]
      refine wp_putM (.tmp 13) (.tmp 16) (.tmp 17) 110 rfl keyM Tryz.underlying110 rfl M1 (x.id, 0) rfl (efV x) rfl ?_
      intro Y3 M3 wr3
      rw [putE_val] at M3
      replace z1 := z1.wrote wr3
      replace o1 := o1.wrote wr3 nqm
      replace hB := hB.trans (wr3.below l1)
      refine hK.out _ _ ⟨wr3.cell hHeld.1, hHeld.2.wrote wr3⟩ (fun hHeld => ?_)
      clear hK
      try simp only [Act.put, List.setIfInBounds_toArray, List.set_cons_zero, List.set_cons_succ]
      refine wpAnyH_done (by kernel_rfl) ?_ _
      refine ⟨(), ?_, hB, z1, M3, o1⟩
      simp only [puts, List.foldl_cons, List.foldl_nil, Act.put, List.setIfInBounds_toArray, List.set_cons_zero, List.set_cons_succ]
    clear M1 o1 z1 hB k0 bx
    rintro _ u3 ⟨hB, z1, M1, o1⟩
    try simp only [puts, List.foldl_cons, List.foldl_nil, Act.put, List.setIfInBounds_toArray, List.set_cons_zero, List.set_cons_succ]
    have sel := sel_put (t.f 0) t.f x t.n hh
    have hx3 : x.okW u3 := efw_grew hx hB
    have hsel : ∀ i, i < t.n → ∀ y, putE' (tabM t.f t.n) (x.id, 0) x (mkAt t.f i) = some y → y.okW u3 ∧ y.ac.ln ≤ 1048577 := fun i hi y hy => by
      unfold putE' at hy
      split at hy
      · obtain rfl := Option.some.inj hy
        exact ⟨hx3, hxl⟩
      · obtain ⟨j, hj, _, rfl⟩ := tabM_some t.f hy
        exact sel_ok hf hB j hj
    go_wp2_with (refine wpList_load_row rfl 113 _ rfl tb (by rfl) _ _ _ _ z1 Tryz.underlying113 rfl (by kernel_rfl) ?_)
    refine (list_any (putE' (tabM t.f t.n) (x.id, 0) x) (mkAt t.f) (t.f 0) mb qb (some ⟨qb, 0, none⟩) t.n t.n _ M1 o1.rd (by omega) hsel).mono ?_
    rintro e u9 ⟨v, g', rfl, hb9, B9⟩
    have hB9 := below_app hB hb9 hB.size
    have B8 := (B9.down hB.size).congr (g' := g') (f' := upF t.n t.f x) (fun i hi => rfl) (fun i hi => sel.2 i (by rw [← sel.1]; exact hi))
    rw [sel.1] at B8
    obtain ⟨q, rfl, hq⟩ := B8.ans
    clear M1 o1 z1 hsel B9 hb9
    go_wp2
    go_ret
    exact ⟨q, rfl, hB9, hq⟩
  · rw [decide_eq_false hh]
    have sel : (selE (tabM t.f t.n) (mkAt t.f) t.n).length = t.n ∧ ∀ i, i < t.n → selF (t.f 0) (selE (tabM t.f t.n) (mkAt t.f) t.n) i = upF t.n t.f x i := ⟨(sel_same (t.f 0) t.f t.n).1, fun i hi => by rw [(sel_same (t.f 0) t.f t.n).2 i hi]; unfold upF; rw [if_neg (by omega)]⟩
    have hsel : ∀ i, i < t.n → ∀ y, tabM t.f t.n (mkAt t.f i) = some y → y.okW u2 ∧ y.ac.ln ≤ 1048577 := fun i hi y hy => by
      obtain ⟨j, hj, _, rfl⟩ := tabM_some t.f hy
      exact sel_ok hf hB j hj
    clear bx
    go_wp2_with (refine wpList_load_row rfl 113 _ rfl tb (by rfl) _ _ _ _ z1 Tryz.underlying113 rfl (by kernel_rfl) ?_)
    refine (list_any (tabM t.f t.n) (mkAt t.f) (t.f 0) mb qb (some ⟨qb, 0, none⟩) t.n t.n _ M1 o1.rd (by omega) hsel).mono ?_
    rintro e u9 ⟨v, g', rfl, hb9, B9⟩
    have hB9 := below_app hB hb9 hB.size
    have B8 := (B9.down hB.size).congr (g' := g') (f' := upF t.n t.f x) (fun i hi => rfl) (fun i hi => sel.2 i (by rw [← sel.1]; exact hi))
    rw [sel.1] at B8
    obtain ⟨q, rfl, hq⟩ := B8.ans
    clear M1 o1 z1 hsel B9 hb9
    go_wp2
    go_ret
    exact ⟨q, rfl, hB9, hq⟩
end Go.Proofs.YtodfdfncdoliiadGreat
namespace Go.Proofs.YtodfdfncdoliiadGreat
open Go.ChangeShapes Go.WideShapes Go.ChangeAt Go.RowKit
set_option maxRecDepth 100000

theorem between_any (x a b : Int) (w : World) : Calls Tryz.prog 75 #[.int .i64 x, .int .i64 a, .int .i64 b] w fun e w' => e = .returned (.bool (ib x a b)) ∧ w' = w := by
  go_enter Tryz.func75, Tryz.ntmps75
  go_wp2
  all_goals go_ret
  all_goals refine ⟨ret_bool' ?_, rfl⟩
  all_goals (unfold ib; simp_all <;> omega)
end Go.Proofs.YtodfdfncdoliiadGreat
namespace Go.Proofs.YtodfdfncdoliiadGreat
open Go.ChangeShapes Go.WideShapes Go.ChangeAt Go.RowKit
set_option maxRecDepth 100000
set_option linter.unusedVariables false
set_option linter.unusedSimpArgs false

theorem run_as_yes {P : Program} {t xT : TypeId} {fs : Array Field} (hu : P.underlying t = some (.struct fs)) (v : Value) (w : World) : (Instr.typeAssert (.iface t v) xT t true).run P w = .ok (.tuple #[v, .bool true]) w := by
  simp [Instr.typeAssert, run_underlying hu]
theorem run_as_no {P : Program} {t u xT : TypeId} {fs : Array Field} {z : Value} (hu : P.underlying u = some (.struct fs)) (hz : (P.info? u).map (·.zero) = some (some z)) (hne : t ≠ u) (v : Value) (w : World) : (Instr.typeAssert (.iface t v) xT u true).run P w = .ok (.tuple #[z, .bool false]) w := by
  obtain ⟨j, hj, hz'⟩ := Option.map_eq_some_iff.1 hz
  simp [Instr.typeAssert, run_underlying hu, hne, zeroValue, typeInfo, hj, hz']
theorem isIdE_any (x : Int) (w : World) : Calls Tryz.prog 57 #[.int .i64 x] w fun r w' => r = .returned (.bool (ib x 1 99)) ∧ w' = w := by
  go_enter Tryz.func57, Tryz.ntmps57
  go_wp2_with (go_at_call 75; refine (between_any x 1 99 _).mono ?_; rintro r w' ⟨rfl, rfl⟩)
  go_ret
  exact ⟨rfl, rfl⟩
theorem isSide_any (x : Int) (w : World) : Calls Tryz.prog 105 #[.int .i64 x] w fun r w' => r = .returned (.bool (ib x 0 2)) ∧ w' = w := by
  go_enter Tryz.func105, Tryz.ntmps105
  go_wp2_with (go_at_call 75; refine (between_any x 0 2 _).mono ?_; rintro r w' ⟨rfl, rfl⟩)
  go_ret
  exact ⟨rfl, rfl⟩
theorem isAmount_any (x : Int) (w : World) : Calls Tryz.prog 119 #[.int .i64 x] w fun r w' => r = .returned (.bool (ib x 0 2147483647)) ∧ w' = w := by
  go_enter Tryz.func119, Tryz.ntmps119
  go_wp2_with (go_at_call 75; refine (between_any x 0 2147483647 _).mono ?_; rintro r w' ⟨rfl, rfl⟩)
  go_ret
  exact ⟨rfl, rfl⟩
/-- whether a piece may go where it goes -/
def enE (z n : Int) (b : Bool) : Bool := if z = 2 then ib n 0 99 else ib z 1 4 && decide (n = 0) && !b
set_option maxHeartbeats 2000000 in
theorem entryOk_any (p z n : Int) (b : Bool) (w : World) : Calls Tryz.prog 163 #[.agg #[.int .i64 p, .int .i64 z, .int .i64 n, .bool b]] w fun r w' => r = .returned (.bool (enE z n b)) ∧ Below w.heap.size w w' := by
  go_enter Tryz.func163, Tryz.ntmps163
  go_wp2_with (go_at_call 75; refine (between_any _ _ _ _).mono ?_; rintro r w' ⟨rfl, rfl⟩)
  all_goals go_ret
  all_goals refine ⟨ret_bool' ?_, (Below.refl _ w).alloc (Nat.le_refl _) _⟩
  all_goals (unfold enE; simp_all)
end Go.Proofs.YtodfdfncdoliiadGreat
namespace Go.Proofs.YtodfdfncdoliiadGreat
open Go.ChangeShapes Go.WideShapes Go.ChangeAt Go.RowKit
set_option maxRecDepth 100000
set_option linter.unusedVariables false
set_option linter.unusedSimpArgs false

set_option maxHeartbeats 2000000 in
theorem standingOf_any (a : Ef) (w : World) : Calls Tryz.prog 53 #[(.agg #[.int .i64 a.id, .int .i64 a.si, .int .i64 a.sr, .int .i64 a.cl, .int .i64 a.pt.kd, .int .i64 a.pt.wh, .int .i64 a.pt.sr, .int .i64 a.pt.tr, .int .i64 a.pt.pi, .int .i64 a.pt.le, .int .i64 a.pt.zo, .int .i64 a.gd.kd, .int .i64 a.gd.nn, .int .i64 a.ac.kd, .int .i64 a.ac.nn, .int .i64 a.ac.pi, .int .i64 a.ac.si, .int .i64 a.ac.zo, .bool a.ac.be, .slice a.ac.la a.ac.ln a.ac.lcap, .int .i64 a.un, .int .i64 a.le])] w fun e w' => e = .returned (.agg #[.int .i64 a.cl, .int .i64 a.sr, .int .i64 a.si, .int .i64 a.pt.kd, .int .i64 a.pt.wh, .int .i64 a.pt.sr, .int .i64 a.pt.tr, .int .i64 a.pt.pi, .int .i64 a.pt.le, .int .i64 a.pt.zo, .int .i64 a.gd.kd, .int .i64 a.gd.nn, .int .i64 a.un, .int .i64 a.le]) ∧ Below w.heap.size w w' := by
  have HB := ((Below.refl _ w).alloc (Nat.le_refl _) (.cells #[.int .i64 a.id, .int .i64 a.si, .int .i64 a.sr, .int .i64 a.cl, .int .i64 a.pt.kd, .int .i64 a.pt.wh, .int .i64 a.pt.sr, .int .i64 a.pt.tr, .int .i64 a.pt.pi, .int .i64 a.pt.le, .int .i64 a.pt.zo, .int .i64 a.gd.kd, .int .i64 a.gd.nn, .int .i64 a.ac.kd, .int .i64 a.ac.nn, .int .i64 a.ac.pi, .int .i64 a.ac.si, .int .i64 a.ac.zo, .bool a.ac.be, .slice a.ac.la a.ac.ln a.ac.lcap, .int .i64 a.un, .int .i64 a.le] 32)).alloc (by simp) (.cells #[.int .i64 0, .int .i64 0, .int .i64 0, .int .i64 0, .int .i64 0, .int .i64 0, .int .i64 0, .int .i64 0, .int .i64 0, .int .i64 0, .int .i64 0, .int .i64 0, .int .i64 0, .int .i64 0] 87)
  have x1 := (boxR_new w 32 #[.int .i64 a.id, .int .i64 a.si, .int .i64 a.sr, .int .i64 a.cl, .int .i64 a.pt.kd, .int .i64 a.pt.wh, .int .i64 a.pt.sr, .int .i64 a.pt.tr, .int .i64 a.pt.pi, .int .i64 a.pt.le, .int .i64 a.pt.zo, .int .i64 a.gd.kd, .int .i64 a.gd.nn, .int .i64 a.ac.kd, .int .i64 a.ac.nn, .int .i64 a.ac.pi, .int .i64 a.ac.si, .int .i64 a.ac.zo, .bool a.ac.be, .slice a.ac.la a.ac.ln a.ac.lcap, .int .i64 a.un, .int .i64 a.le]).alloc (.cells #[.int .i64 0, .int .i64 0, .int .i64 0, .int .i64 0, .int .i64 0, .int .i64 0, .int .i64 0, .int .i64 0, .int .i64 0, .int .i64 0, .int .i64 0, .int .i64 0, .int .i64 0, .int .i64 0] 87)
  have x2 : BoxR ((w.alloc (.cells #[.int .i64 a.id, .int .i64 a.si, .int .i64 a.sr, .int .i64 a.cl, .int .i64 a.pt.kd, .int .i64 a.pt.wh, .int .i64 a.pt.sr, .int .i64 a.pt.tr, .int .i64 a.pt.pi, .int .i64 a.pt.le, .int .i64 a.pt.zo, .int .i64 a.gd.kd, .int .i64 a.gd.nn, .int .i64 a.ac.kd, .int .i64 a.ac.nn, .int .i64 a.ac.pi, .int .i64 a.ac.si, .int .i64 a.ac.zo, .bool a.ac.be, .slice a.ac.la a.ac.ln a.ac.lcap, .int .i64 a.un, .int .i64 a.le] 32)).alloc (.cells #[.int .i64 0, .int .i64 0, .int .i64 0, .int .i64 0, .int .i64 0, .int .i64 0, .int .i64 0, .int .i64 0, .int .i64 0, .int .i64 0, .int .i64 0, .int .i64 0, .int .i64 0, .int .i64 0] 87)) (w.heap.size + 1) 87 #[.int .i64 0, .int .i64 0, .int .i64 0, .int .i64 0, .int .i64 0, .int .i64 0, .int .i64 0, .int .i64 0, .int .i64 0, .int .i64 0, .int .i64 0, .int .i64 0, .int .i64 0, .int .i64 0] := heap_alloc2_new _ _ _
  generalize hW : (w.alloc (.cells #[.int .i64 a.id, .int .i64 a.si, .int .i64 a.sr, .int .i64 a.cl, .int .i64 a.pt.kd, .int .i64 a.pt.wh, .int .i64 a.pt.sr, .int .i64 a.pt.tr, .int .i64 a.pt.pi, .int .i64 a.pt.le, .int .i64 a.pt.zo, .int .i64 a.gd.kd, .int .i64 a.gd.nn, .int .i64 a.ac.kd, .int .i64 a.ac.nn, .int .i64 a.ac.pi, .int .i64 a.ac.si, .int .i64 a.ac.zo, .bool a.ac.be, .slice a.ac.la a.ac.ln a.ac.lcap, .int .i64 a.un, .int .i64 a.le] 32)).alloc (.cells #[.int .i64 0, .int .i64 0, .int .i64 0, .int .i64 0, .int .i64 0, .int .i64 0, .int .i64 0, .int .i64 0, .int .i64 0, .int .i64 0, .int .i64 0, .int .i64 0, .int .i64 0, .int .i64 0] 87) = W at HB x1 x2
  obtain ⟨c0, c1, c2, c3, c4, c5, c6, c7, c8, c9, c10, c11, c12, c13, c14, c15, c16, c17, c18, c19, c20, c21⟩ := x1.cells22
  go_enter Tryz.func53, Tryz.ntmps53
  go_wp2_with (refine wpList_store_row rfl 87 (.tmp 2) _ rfl (w.heap.size + 1) _ (by rfl) (by rfl) _ _ x2 (by kernel_rfl) (by rfl) (by simp [Value.oneCell']) ?_)
  (try simp only [Exit.inBlock, Exit.then]); refine bodyPost_ret (results_cell_row rfl _ _ (w.heap.size + 1) _ _ _ _ rfl (setRow_heap _ _ _ _ _ _ x2) Tryz.underlying87 rfl (by kernel_rfl)) rfl ?_
  exact ⟨rfl, below_setRow HB (by omega) _⟩
theorem BoxR.sub {w : World} {g t : Nat} {cs : Array Value} (h : BoxR w g t cs) (o : Nat) (l : List Value) (hl : (cs.toList.drop o).take l.length = l) : w.rangeAt g o l := fun j v hv => by
  rw [← hl] at hv
  have hj : j < l.length := by
    by_cases hj : j < l.length
    · exact hj
    · rw [List.getElem?_eq_none (by rw [List.length_take]; omega)] at hv
      cases hv
  rw [List.getElem?_take_of_lt hj, List.getElem?_drop] at hv
  have hc := cell_of_row w g (o + j) cs t (0, 0) h
  rw [hc]
  simpa using hv
theorem run_field_or (a : Ef) (w : World) : (Instr.field 87 (.agg #[.int .i64 a.cl, .int .i64 a.sr, .int .i64 a.si, .int .i64 a.pt.kd, .int .i64 a.pt.wh, .int .i64 a.pt.sr, .int .i64 a.pt.tr, .int .i64 a.pt.pi, .int .i64 a.pt.le, .int .i64 a.pt.zo, .int .i64 a.gd.kd, .int .i64 a.gd.nn, .int .i64 a.un, .int .i64 a.le]) 0).run Tryz.prog w = .ok (.agg #[.int .i64 a.cl, .int .i64 a.sr]) w := by kernel_rfl
theorem run_field_sp (a : Ef) (w : World) : (Instr.field 87 (.agg #[.int .i64 a.cl, .int .i64 a.sr, .int .i64 a.si, .int .i64 a.pt.kd, .int .i64 a.pt.wh, .int .i64 a.pt.sr, .int .i64 a.pt.tr, .int .i64 a.pt.pi, .int .i64 a.pt.le, .int .i64 a.pt.zo, .int .i64 a.gd.kd, .int .i64 a.gd.nn, .int .i64 a.un, .int .i64 a.le]) 2).run Tryz.prog w = .ok (.agg #[.int .i64 a.un, .int .i64 a.le]) w := by kernel_rfl
end Go.Proofs.YtodfdfncdoliiadGreat
namespace Go.Proofs.YtodfdfncdoliiadGreat
open Go.ChangeShapes Go.WideShapes Go.ChangeAt Go.RowKit
set_option maxRecDepth 100000
set_option linter.unusedVariables false
set_option linter.unusedSimpArgs false

/-- what is asked for behind the two tests: the kinds, the traits, how much at least -/
def nrA (p q : Pt) : Bool := decide (p.kd = q.kd) && decide (bits .and .i64 p.tr q.tr = q.tr) && decide (q.le ≤ p.le)
def orS (x y : Int) : Bool := decide (x = 0) || decide (x = y)
def nrB (p q : Pt) : Bool := orS q.wh p.wh && orS q.sr p.sr && orS q.pi p.pi && orS q.zo p.zo
/-- whether p asks for all that q asks for -/
def nrP (p q : Pt) : Bool := okPt p && okPt q && nrA p q && nrB p q
end Go.Proofs.YtodfdfncdoliiadGreat
