/-
  Chapter 11, the program: Install. Written by tools/tai.gen.py. Chapter 11, the program: at lists of effects that are alike: Install. Written by tools/tab.gen.py. Chapter 10: the specification's Spent at effects that are alike; a law's markEffect, heldEffect. Written by tools/sp.gen.py. Own work.
-/
import Derived.Test.YtodfdfncdoliiauGreatGTbL5
import Derived.Test.YtodfdfncdoliiauGreatTbE
import Derived.Test.YtodfdfncdoliiauGreatGSpF3
import Derived.Test.YtodfdfncdoliiauGreatTbM
import Derived.Test.YtodfdfncdoliiauGreatTbN
import Derived.Deep.DeepCutAuto
import Derived.Deep.CutBlock
import Derived.Deep.RegionHeld
import Derived.Deep.RegionHeldLaw
import Derived.Deep.MidRow
import Derived.Laws.OwnMore
import Derived.Test.YtodfdfncdoliiauGreatTaJ
import Derived.Test.YtodfdfncdoliiauGreatSpB
import Derived.Test.YtodfdfncdoliiauGreatGTaF3
namespace Go.Proofs.YtodfdfncdoliiauGreat
open Go.ChangeShapes Go.WideShapes Go.ChangeAt Go.RowKit
set_option maxRecDepth 100000
set_option linter.unusedVariables false
set_option linter.unusedSimpArgs false

/-- a struct read by an operation with a guard that holds -/
theorem wpList_load_rowG {P : Program} {ops : Array Oper} {rest : List Oper} {o : Oper} {a : Act} {w : World} {Q : Exit → Act → World → Prop} (hw : Region.wanted o (yielded ops a.tmps) = true) (ty : TypeId) (x : Operand) (ho : o.op = .load ty x)
    (g : Nat) (hx : a.eval x = .pointer (some ⟨g, 0, none⟩)) (t : TypeId) (cs : Array Value) (fr : Nat × Nat) (d : TypeDesc) (hg : w.heap[g]? = some (.cells cs t fr))
    (hu : P.underlying ty = some d) (hd : (match d with | .struct _ | .array _ _ => true | _ => false) = true) (hi : (P.info? ty).map (·.size) = some cs.size)
    (h : wpList P ops Q rest (a.put o.dst (.agg cs)) w) : wpList P ops Q (o :: rest) a w :=
  wpList_step fun _ hK => by rw [if_pos hw]; exact wp_load_row ty x ho g hx t cs fr d hg hu hd hi (hK _ _ h)
set_option maxHeartbeats 8000000 in
theorem implInstall_any (t : Tb) (x : Ef) (w : World) (hok : t.okW w) (hn : t.n ≤ 1048576) (hx : x.okW w) (hxl : x.ac.ln ≤ 1048577) :
    Calls Tryz.prog 9 #[.slice t.p t.n t.cap, (.agg #[.int .i64 x.id, .int .i64 x.si, .int .i64 x.sr, .int .i64 x.cl, .int .i64 x.pt.kd, .int .i64 x.pt.wh, .int .i64 x.pt.sr, .int .i64 x.pt.tr, .int .i64 x.pt.pi, .int .i64 x.pt.le, .int .i64 x.pt.zo, .int .i64 x.gd.kd, .int .i64 x.gd.nn, .int .i64 x.ac.kd, .int .i64 x.ac.nn, .int .i64 x.ac.pi, .int .i64 x.ac.si, .int .i64 x.ac.zo, .bool x.ac.be, .slice x.ac.la x.ac.ln x.ac.lcap, .int .i64 x.un, .int .i64 x.le])] w fun e w' => ∃ q : Tb, e = .returned (.tuple #[.slice q.p q.n q.cap, .bool (inOk t.n t.f x)]) ∧ Below w.heap.size w w' ∧ AnsT w' w.heap.size q (inN t.n t.f x) (inF t.n t.f x) := by
  have hf := hok.2.2.2
  replace hn : t.n ≤ 1048577 := by omega
  have bx := boxR_new w 44 #[.int .i64 x.id, .int .i64 x.si, .int .i64 x.sr, .int .i64 x.cl, .int .i64 x.pt.kd, .int .i64 x.pt.wh, .int .i64 x.pt.sr, .int .i64 x.pt.tr, .int .i64 x.pt.pi, .int .i64 x.pt.le, .int .i64 x.pt.zo, .int .i64 x.gd.kd, .int .i64 x.gd.nn, .int .i64 x.ac.kd, .int .i64 x.ac.nn, .int .i64 x.ac.pi, .int .i64 x.ac.si, .int .i64 x.ac.zo, .bool x.ac.be, .slice x.ac.la x.ac.ln x.ac.lcap, .int .i64 x.un, .int .i64 x.le]
  have hb0 := below_new2'' w (.cells #[.int .i64 x.id, .int .i64 x.si, .int .i64 x.sr, .int .i64 x.cl, .int .i64 x.pt.kd, .int .i64 x.pt.wh, .int .i64 x.pt.sr, .int .i64 x.pt.tr, .int .i64 x.pt.pi, .int .i64 x.pt.le, .int .i64 x.pt.zo, .int .i64 x.gd.kd, .int .i64 x.gd.nn, .int .i64 x.ac.kd, .int .i64 x.ac.nn, .int .i64 x.ac.pi, .int .i64 x.ac.si, .int .i64 x.ac.zo, .bool x.ac.be, .slice x.ac.la x.ac.ln x.ac.lcap, .int .i64 x.un, .int .i64 x.le] 44)
  go_enter Tryz.func9, Tryz.ntmps9
  go_wp2_with fail
  generalize w.alloc (.cells #[.int .i64 x.id, .int .i64 x.si, .int .i64 x.sr, .int .i64 x.cl, .int .i64 x.pt.kd, .int .i64 x.pt.wh, .int .i64 x.pt.sr, .int .i64 x.pt.tr, .int .i64 x.pt.pi, .int .i64 x.pt.le, .int .i64 x.pt.zo, .int .i64 x.gd.kd, .int .i64 x.gd.nn, .int .i64 x.ac.kd, .int .i64 x.ac.nn, .int .i64 x.ac.pi, .int .i64 x.ac.si, .int .i64 x.ac.zo, .bool x.ac.be, .slice x.ac.la x.ac.ln x.ac.lcap, .int .i64 x.un, .int .i64 x.le] 44) = W0 at hb0 bx ⊢
  have hok0 := hok.grew hb0
  have hW0 := hb0.size
  have ntw0 := bx.lt
  refine (tableOf_any t W0 hok0 hn).mono ?_
  rintro e u1 ⟨mb, qb, rfl, hb1, M1, l1, nqm, o1⟩
  replace bx := bx.grew hb1
  have hB := below_app hb0 hb1 hb0.size
  have z0 := boxR_new u1 61 #[.map none, .slice none 0 0]
  have zb := below_setRow (below_new2'' u1 (.cells #[.map none, .slice none 0 0] 61)) (Nat.le_refl _) (#[.map (some mb), .slice (some ⟨qb, 0, none⟩) t.n t.n] : Array Value)
  have z1 : BoxR ((u1.alloc (.cells #[.map none, .slice none 0 0] 61)).setRow u1.heap.size #[.map (some mb), .slice (some ⟨qb, 0, none⟩) t.n t.n]) u1.heap.size 61 #[.map (some mb), .slice (some ⟨qb, 0, none⟩) t.n t.n] := setRow_heap _ _ _ _ _ _ z0
  have ntm := M1.lt
  have ntw := hB.size
  go_upto_region 2 with (refine wpList_store_row rfl 61 (.tmp 6) _ rfl u1.heap.size _ (by rfl) (by rfl) _ _ z0 (by kernel_rfl) (by rfl) (by simp [Value.oneCell']) ?_)
  generalize hU : (u1.alloc (.cells #[.map none, .slice none 0 0] 61)).setRow u1.heap.size #[.map (some mb), .slice (some ⟨qb, 0, none⟩) t.n t.n] = U at zb z1 ⊢
  replace M1 := M1.grew zb
  replace o1 := o1.grew zb
  replace bx := bx.grew zb
  replace hB := below_app hB zb hB.size
  replace ntm : u1.heap.size ≠ mb := by omega
  generalize u1.heap.size = tb at z1 ntm ntw ⊢
  clear z0 zb hU hb1 hb0
  replace l1 : w.heap.size ≤ mb := by omega
  replace o1 := o1.rebaseT hW0
  clear hok0 hW0 ntw0
  go_wp2_with fail
  refine (implTableOk_any t _ (hok.grew hB)).mono ?_
  rintro e u2 ⟨rfl, hb2⟩
  replace M1 := M1.grew hb2
  replace o1 := o1.grew hb2
  replace z1 := z1.grew hb2
  replace bx := bx.grew hb2
  replace hB := below_app hB hb2 hB.size
  clear hb2
  cases hT : okTb t.n t.f
  case false =>
    have HI : Hid (inOk t.n t.f x = false) := inOk_no (fun h => by rw [h.1] at hT; cases hT)
    have HN : Hid (inN t.n t.f x = t.n) := (by unfold inN; rw [HI.out]; rfl : inN t.n t.f x = t.n)
    have HF : Hid (inF t.n t.f x = t.f) := (by unfold inF; rw [HI.out]; rfl : inF t.n t.f x = t.f)
    have sel := sel_same (t.f 0) t.f t.n
    have hsel : ∀ i, i < t.n → ∀ y, tabM t.f t.n (mkAt t.f i) = some y → y.okW u2 ∧ y.ac.ln ≤ 1048577 := fun i hi y hy => by
      obtain ⟨j, hj, _, rfl⟩ := tabM_some t.f hy
      exact sel_ok hf hB j hj
    clear bx
    go_wp2_with (refine wpList_load_row rfl 61 _ rfl tb (by rfl) _ _ _ _ z1 Tryz.underlying61 rfl (by kernel_rfl) ?_)
    refine (list_any (tabM t.f t.n) (mkAt t.f) (t.f 0) mb qb (some ⟨qb, 0, none⟩) t.n t.n _ M1 o1.rd (by omega) hsel).mono ?_
    rintro e u9 ⟨v, g', rfl, hb9, B9⟩
    have hB9 := below_app hB hb9 hB.size
    have B8 := (B9.down hB.size).congr (g' := g') (f' := t.f) (fun i hi => rfl) (fun i hi => sel.2 i (by rw [← sel.1]; exact hi))
    rw [sel.1] at B8
    obtain ⟨q, rfl, hq⟩ := B8.ans
    clear M1 o1 z1 hsel B9 hb9
    go_wp2
    go_ret2
    rw [HI.out, HN.out, HF.out]
    exact ⟨q, rfl, hB9, hq⟩
  case true =>
    by_cases h5 : t.n < 5
    case neg =>
      have y5 : ¬ (t.n : Int) < 5 := by omega
      have HI : Hid (inOk t.n t.f x = false) := inOk_no (fun h => by exact h5 h.2.1)
      have HN : Hid (inN t.n t.f x = t.n) := (by unfold inN; rw [HI.out]; rfl : inN t.n t.f x = t.n)
      have HF : Hid (inF t.n t.f x = t.f) := (by unfold inF; rw [HI.out]; rfl : inF t.n t.f x = t.f)
      have sel := sel_same (t.f 0) t.f t.n
      have hsel : ∀ i, i < t.n → ∀ y, tabM t.f t.n (mkAt t.f i) = some y → y.okW u2 ∧ y.ac.ln ≤ 1048577 := fun i hi y hy => by
        obtain ⟨j, hj, _, rfl⟩ := tabM_some t.f hy
        exact sel_ok hf hB j hj
      clear bx
      go_wp2_with (refine wpList_load_row rfl 61 _ rfl tb (by rfl) _ _ _ _ z1 Tryz.underlying61 rfl (by kernel_rfl) ?_)
      refine (list_any (tabM t.f t.n) (mkAt t.f) (t.f 0) mb qb (some ⟨qb, 0, none⟩) t.n t.n _ M1 o1.rd (by omega) hsel).mono ?_
      rintro e u9 ⟨v, g', rfl, hb9, B9⟩
      have hB9 := below_app hB hb9 hB.size
      have B8 := (B9.down hB.size).congr (g' := g') (f' := t.f) (fun i hi => rfl) (fun i hi => sel.2 i (by rw [← sel.1]; exact hi))
      rw [sel.1] at B8
      obtain ⟨q, rfl, hq⟩ := B8.ans
      clear M1 o1 z1 hsel B9 hb9
      go_wp2
      go_ret2
      rw [HI.out, HN.out, HF.out]
      exact ⟨q, rfl, hB9, hq⟩
    case pos =>
      have y5 : (t.n : Int) < 5 := by omega
      go_wp2_with (refine wpList_load_rowG (by kernel_rfl) 44 _ rfl w.heap.size (by rfl) _ _ _ _ bx Tryz.underlying44 rfl (by kernel_rfl) ?_)
      refine (implEffectOk_any x _ (efw_grew hx hB) hxl).mono ?_
      rintro e u3 ⟨rfl, hb2⟩
      replace M1 := M1.grew hb2
      replace o1 := o1.grew hb2
      replace z1 := z1.grew hb2
      replace bx := bx.grew hb2
      replace hB := below_app hB hb2 hB.size
      clear hb2
      cases hE : okEf x
      case false =>
        have HI : Hid (inOk t.n t.f x = false) := inOk_no (fun h => by rw [h.2.2.1] at hE; cases hE)
        have HN : Hid (inN t.n t.f x = t.n) := (by unfold inN; rw [HI.out]; rfl : inN t.n t.f x = t.n)
        have HF : Hid (inF t.n t.f x = t.f) := (by unfold inF; rw [HI.out]; rfl : inF t.n t.f x = t.f)
        have sel := sel_same (t.f 0) t.f t.n
        have hsel : ∀ i, i < t.n → ∀ y, tabM t.f t.n (mkAt t.f i) = some y → y.okW u3 ∧ y.ac.ln ≤ 1048577 := fun i hi y hy => by
          obtain ⟨j, hj, _, rfl⟩ := tabM_some t.f hy
          exact sel_ok hf hB j hj
        clear bx
        go_wp2_with (refine wpList_load_row rfl 61 _ rfl tb (by rfl) _ _ _ _ z1 Tryz.underlying61 rfl (by kernel_rfl) ?_)
        refine (list_any (tabM t.f t.n) (mkAt t.f) (t.f 0) mb qb (some ⟨qb, 0, none⟩) t.n t.n _ M1 o1.rd (by omega) hsel).mono ?_
        rintro e u9 ⟨v, g', rfl, hb9, B9⟩
        have hB9 := below_app hB hb9 hB.size
        have B8 := (B9.down hB.size).congr (g' := g') (f' := t.f) (fun i hi => rfl) (fun i hi => sel.2 i (by rw [← sel.1]; exact hi))
        rw [sel.1] at B8
        obtain ⟨q, rfl, hq⟩ := B8.ans
        clear M1 o1 z1 hsel B9 hb9
        go_wp2
        go_ret2
        rw [HI.out, HN.out, HF.out]
        exact ⟨q, rfl, hB9, hq⟩
      case true =>
        have c0 : u3.cell? ⟨w.heap.size, 0, none⟩ = some (.int .i64 x.id) := by have := bx.cell 0; simpa using this
        go_wp2_with (refine wpList_load_rowG (by kernel_rfl) 61 _ rfl tb (by rfl) _ _ _ _ z1 Tryz.underlying61 rfl (by kernel_rfl) ?_)
        refine (has_any (tabM t.f t.n) mb _ _ _ x.id _ M1).mono ?_
        rw [has_eaN t.f x.id t.n]
        rintro e u4 ⟨rfl, hb2⟩
        replace M1 := M1.grew hb2
        replace o1 := o1.grew hb2
        replace z1 := z1.grew hb2
        replace bx := bx.grew hb2
        replace hB := below_app hB hb2 hB.size
        clear hb2 c0
        by_cases hh : 0 ≤ eaN t.f x.id t.n
        case pos =>
          rw [decide_eq_true hh]
          have HI : Hid (inOk t.n t.f x = false) := inOk_no (fun h => by exact h.2.2.2 hh)
          have HN : Hid (inN t.n t.f x = t.n) := (by unfold inN; rw [HI.out]; rfl : inN t.n t.f x = t.n)
          have HF : Hid (inF t.n t.f x = t.f) := (by unfold inF; rw [HI.out]; rfl : inF t.n t.f x = t.f)
          have sel := sel_same (t.f 0) t.f t.n
          have hsel : ∀ i, i < t.n → ∀ y, tabM t.f t.n (mkAt t.f i) = some y → y.okW u4 ∧ y.ac.ln ≤ 1048577 := fun i hi y hy => by
            obtain ⟨j, hj, _, rfl⟩ := tabM_some t.f hy
            exact sel_ok hf hB j hj
          clear bx
          go_wp2_with (refine wpList_load_row rfl 61 _ rfl tb (by rfl) _ _ _ _ z1 Tryz.underlying61 rfl (by kernel_rfl) ?_)
          refine (list_any (tabM t.f t.n) (mkAt t.f) (t.f 0) mb qb (some ⟨qb, 0, none⟩) t.n t.n _ M1 o1.rd (by omega) hsel).mono ?_
          rintro e u9 ⟨v, g', rfl, hb9, B9⟩
          have hB9 := below_app hB hb9 hB.size
          have B8 := (B9.down hB.size).congr (g' := g') (f' := t.f) (fun i hi => rfl) (fun i hi => sel.2 i (by rw [← sel.1]; exact hi))
          rw [sel.1] at B8
          obtain ⟨q, rfl, hq⟩ := B8.ans
          clear M1 o1 z1 hsel B9 hb9
          go_wp2
          go_ret2
          rw [HI.out, HN.out, HF.out]
          exact ⟨q, rfl, hB9, hq⟩
        case neg =>
          rw [decide_eq_false hh]
          have hI := inOk_of hT h5 hE hh
          have hno : ∀ j, j < t.n → (t.f j).id ≠ x.id := by
            rcases eaN_cases t.f x.id t.n with ⟨_, hm⟩ | ⟨k, _, he, _, _⟩
            · exact hm
            · rw [he] at hh; omega
          have hasc : ∀ j, j < t.n → ∀ i, i < j → (mkAt t.f i).1 < (mkAt t.f j).1 := fun j hj i hi => asc_of hT j hj i hi
          replace hI : Hid (inOk t.n t.f x = true) := hI
          clear hT hE hh
          have c0 : u4.cell? ⟨w.heap.size, 0, none⟩ = some (.int .i64 x.id) := by have := bx.cell 0; simpa using this
          go_wp2_with fail
          refine (firstOf_any x.id _).mono ?_
          rintro e u5 ⟨rfl, hb2⟩
          replace M1 := M1.grew hb2
          replace o1 := o1.grew hb2
          replace z1 := z1.grew hb2
          replace bx := bx.grew hb2
          replace hB := below_app hB hb2 hB.size
          clear hb2 c0
          have f0 := boxR_new u5 66 #[.int .i64 0, .int .i64 0]
          have zb := below_setRow (below_new2'' u5 (.cells #[.int .i64 0, .int .i64 0] 66)) (Nat.le_refl _) (#[.int .i64 x.id, .int .i64 0] : Array Value)
          have f1 : BoxR ((u5.alloc (.cells #[.int .i64 0, .int .i64 0] 66)).setRow u5.heap.size #[.int .i64 x.id, .int .i64 0]) u5.heap.size 66 #[.int .i64 x.id, .int .i64 0] := setRow_heap _ _ _ _ _ _ f0
          go_upto_region 5 with (refine wpList_store_row rfl 66 (.tmp 8) _ rfl u5.heap.size _ (by rfl) (by rfl) _ _ f0 (by kernel_rfl) (by rfl) (by simp [Value.oneCell']) ?_)
          generalize hU : (u5.alloc (.cells #[.int .i64 0, .int .i64 0] 66)).setRow u5.heap.size #[.int .i64 x.id, .int .i64 0] = V1 at zb f1 ⊢
          replace M1 := M1.grew zb
          replace o1 := o1.grew zb
          replace z1 := z1.grew zb
          replace bx := bx.grew zb
          replace hB := below_app hB zb hB.size
          generalize u5.heap.size = fb at f1 ⊢
          clear f0 zb hU
          have k0 : V1.cell? ⟨tb, 0, none⟩ = some (.map (some mb)) := by have := z1.cell 0; simpa using this
          go_upto_region 6 with first | (refine wpList_load_row rfl 66 _ rfl fb (by rfl) _ _ _ _ f1 Tryz.underlying66 rfl (by kernel_rfl) ?_) | (refine wpList_load_row rfl 44 _ rfl w.heap.size (by rfl) _ _ _ _ bx Tryz.underlying44 rfl (by kernel_rfl) ?_) | (refine wpList_putM _ rfl (.tmp 36) (.tmp 37) (.tmp 38) 58 rfl keyM Tryz.underlying58 rfl M1 (x.id, 0) rfl (efV x) rfl ?_; intro V2 M2 wr2)
          rw [putE_val] at M2
          replace z1 := z1.wrote wr2
          replace f1 := f1.wrote wr2
          replace o1 := o1.wrote wr2 nqm
          replace hB := hB.trans (wr2.below l1)
          clear wr2 k0 M1 bx
          have k1 : V2.cell? ⟨tb, 1, none⟩ = some (.slice (some ⟨qb, 0, none⟩) t.n t.n) := by have := z1.cell 1; simpa using this
          go_wp2_with (refine wpList_load_row rfl 66 _ rfl fb (by rfl) _ _ _ _ f1 Tryz.underlying66 rfl (by kernel_rfl) ?_)
          refine (search_any qb (some ⟨qb, 0, none⟩) t.n t.n (mkAt t.f) (x.id, 0) _ o1.rd (by omega) hasc).mono ?_
          rintro e u6 ⟨K, ⟨fd, rfl⟩, hK, hb2⟩
          obtain ⟨hK1, hK2, hK3⟩ := hK
          replace M2 := M2.grew hb2
          replace o1 := o1.grew hb2
          replace z1 := z1.grew hb2
          replace f1 := f1.grew hb2
          replace hB := below_app hB hb2 hB.size
          clear hb2 k1 hasc
          have hKe : Hid (insK t.f x.id t.n = K) := insK_of hK1 hK2 hK3
          clear hK2 hK3
          have k1 : u6.cell? ⟨tb, 1, none⟩ = some (.slice (some ⟨qb, 0, none⟩) t.n t.n) := by have := z1.cell 1; simpa using this
          go_wp2_with (refine wpList_load_row rfl 66 _ rfl fb (by rfl) _ _ _ _ f1 Tryz.underlying66 rfl (by kernel_rfl) ?_)
          have hb2 := below_new2'' u6 (.cells #[.int .i64 x.id, .int .i64 0] 66)
          have v1 : BoxR (u6.alloc (.cells #[.int .i64 x.id, .int .i64 0] 66)) u6.heap.size 66 #[.int .i64 x.id, .int .i64 0] := boxR_new _ _ _
          replace M2 := M2.grew hb2
          replace o1 := o1.grew hb2
          replace z1 := z1.grew hb2
          replace hB := below_app hB hb2 hB.size
          have hvc : ∀ j v, (mkC (x.id, 0))[j]? = some v → (u6.alloc (.cells #[.int .i64 x.id, .int .i64 0] 66)).cell? ((⟨u6.heap.size, 0, none⟩ : Addr).add j) = some v := fun j v hj => by
            have := v1.cell j
            rw [Addr.add_lit, Nat.zero_add, this]
            simpa [mkC] using hj
          have hvl := v1.lt
          refine (insert_any qb t.n K u6.heap.size (mkAt t.f) (x.id, 0) _ o1.rd o1.2.1 hK1 (by omega) hvc hvl).mono ?_
          rintro e u7 ⟨q7, c7, rfl, hb3, h7, hq7⟩
          have ht7 := z1.lt
          have nq7 : q7 ≠ tb := by omega
          clear v1 hvc hvl hb2 k1 o1 f1
          replace M2 := M2.grew hb3
          replace z1 := z1.grew hb3
          replace hB := below_app hB hb3 hB.size
          clear hb3 hq7 ht7
          have k1 : u7.cell? ⟨tb, 1, none⟩ = some (.slice (some ⟨qb, 0, none⟩) t.n t.n) := by have := z1.cell 1; simpa using this
          have f1 := z1.froz 1
          have z2 := z1.put 1 (.slice (some ⟨q7, 0, none⟩) (t.n + 1) c7)
          simp only [List.setIfInBounds_toArray, List.set_cons_zero, List.set_cons_succ] at z2
          have M3 := M2.setCell (a := ⟨tb, 1, none⟩) (fun e => ntm e.symm) (.slice (some ⟨q7, 0, none⟩) (t.n + 1) c7)
          have h8 := h7.same (w' := u7.setCell ⟨tb, 1, none⟩ (.slice (some ⟨q7, 0, none⟩) (t.n + 1) c7)) (Below.heap_setCell u7 ⟨tb, 1, none⟩ (.slice (some ⟨q7, 0, none⟩) (t.n + 1) c7) q7 nq7)
          have hB2 := hB.setCell (p := ⟨tb, 1, none⟩) (show w.heap.size ≤ tb by omega) (.slice (some ⟨q7, 0, none⟩) (t.n + 1) c7)
          go_upto_region 8 with fail
          generalize hU : u7.setCell ⟨tb, 1, none⟩ (.slice (some ⟨q7, 0, none⟩) (t.n + 1) c7) = V at z2 M3 h8 hB2 ⊢
          clear z1 M2 h7 hB k1 f1 hU
          have sel := sel_ins (t.f 0) t.f x t.n K hK1 hno
          have hx3 : x.okW V := efw_grew hx hB2
          have hsel : ∀ i, i < t.n + 1 → ∀ y, putE' (tabM t.f t.n) (x.id, 0) x (insG K (mkAt t.f) (x.id, 0) i) = some y → y.okW V ∧ y.ac.ln ≤ 1048577 := fun i hi y hy => by
            unfold putE' at hy
            split at hy
            · obtain rfl := Option.some.inj hy
              exact ⟨hx3, hxl⟩
            · obtain ⟨j, hj, _, rfl⟩ := tabM_some t.f hy
              exact sel_ok hf hB2 j hj
          have HN : Hid (inN t.n t.f x = t.n + 1) := (by unfold inN; rw [hI.out]; rfl : inN t.n t.f x = t.n + 1)
          have HF : Hid (inF t.n t.f x = insF K t.f x) := (by unfold inF; rw [hI.out, hKe.out]; rfl : inF t.n t.f x = insF K t.f x)
          clear hKe
          go_wp2_with (refine wpList_load_row rfl 61 _ rfl tb (by rfl) _ _ _ _ z2 Tryz.underlying61 rfl (by kernel_rfl) ?_)
          refine (list_any (putE' (tabM t.f t.n) (x.id, 0) x) (insG K (mkAt t.f) (x.id, 0)) (t.f 0) mb q7 (some ⟨q7, 0, none⟩) (t.n + 1) c7 _ M3 h8 (by omega) hsel).mono ?_
          rintro e u9 ⟨v, g', rfl, hb9, B9⟩
          have hB9 := below_app hB2 hb9 hB2.size
          have B8 := (B9.down hB2.size).congr (g' := g') (f' := insF K t.f x) (fun i hi => rfl) (fun i hi => sel.2 i (by rw [← sel.1]; exact hi))
          rw [sel.1] at B8
          obtain ⟨q, rfl, hq⟩ := B8.ans
          clear M3 h8 z2 hsel B9 hb9
          go_wp2
          go_ret2
          rw [hI.out, HN.out, HF.out]
          exact ⟨q, rfl, hB9, hq⟩
end Go.Proofs.YtodfdfncdoliiauGreat
namespace Go.Proofs.YtodfdfncdoliiauGreat
open Go.ChangeShapes Go.WideShapes Go.ChangeAt Go.RowKit
set_option maxRecDepth 100000
set_option linter.unusedVariables false
set_option linter.unusedSimpArgs false

theorem implInstall_al {w0 w : World} {B : Nat} {t a : Tb} (h : OwnTb w B t) (k : AlikeT t a) (hs : a.ok w0) (hn : a.n ≤ 1048576) (hl : ∀ i, i < a.n → (a.f i).ac.ln ≤ 1048576) {Bx : Nat} {y x : Ef} (hy : OwnF w Bx y) (ky : AlikeF y x) (hsx : x.ok w0) (hlx : x.ac.ln ≤ 1048576) : Calls Tryz.prog 9 #[.slice t.p t.n t.cap, (.agg #[.int .i64 y.id, .int .i64 y.si, .int .i64 y.sr, .int .i64 y.cl, .int .i64 y.pt.kd, .int .i64 y.pt.wh, .int .i64 y.pt.sr, .int .i64 y.pt.tr, .int .i64 y.pt.pi, .int .i64 y.pt.le, .int .i64 y.pt.zo, .int .i64 y.gd.kd, .int .i64 y.gd.nn, .int .i64 y.ac.kd, .int .i64 y.ac.nn, .int .i64 y.ac.pi, .int .i64 y.ac.si, .int .i64 y.ac.zo, .bool y.ac.be, .slice y.ac.la y.ac.ln y.ac.lcap, .int .i64 y.un, .int .i64 y.le])] w fun e w' => ∃ q : Tb, e = .returned (.tuple #[.slice q.p q.n q.cap, .bool (inOk a.n a.f x)]) ∧ Below w.heap.size w w' ∧ AnsT w' w.heap.size q (inN a.n a.f x) (inF a.n a.f x) := by
  refine (implInstall_any t y w (okW_al h k hs hl) (by rw [k.n]; omega) (okT10 hy ky hsx).w (by rw [ky.ac.ln]; omega)).mono ?_
  rw [k.n, inOk_alike k.f ky, inN_alike k.f ky]
  rintro e w' ⟨q, h1, h2, h3⟩
  exact ⟨q, h1, h2, h3.alike (inF_alike k.f ky)⟩
end Go.Proofs.YtodfdfncdoliiauGreat
namespace Go.Proofs.YtodfdfncdoliiauGreat
open Go.ChangeShapes Go.WideShapes Go.ChangeAt Go.RowKit
set_option maxRecDepth 100000
set_option linter.unusedVariables false
set_option linter.unusedSimpArgs false

theorem alike_spE {q t a : Ef} {n : Int} (h : AlikeF q (spE t n)) (k : AlikeF t a) : AlikeF q (spE a n) := by
  have hl : lfE t n = lfE a n := by unfold lfE; rw [k.ac.kd, k.le]
  exact ⟨h.id.trans k.id, h.si.trans k.si, h.sr.trans k.sr, h.cl.trans k.cl, h.pt.trans k.pt, h.gd.trans k.gd, ⟨h.ac.kd.trans k.ac.kd, h.ac.nn.trans k.ac.nn, h.ac.pi.trans k.ac.pi, h.ac.si.trans k.ac.si, h.ac.zo.trans k.ac.zo, h.ac.be.trans k.ac.be, h.ac.ln.trans k.ac.ln, h.ac.es.trans k.ac.es⟩, h.un.trans k.un, h.le.trans hl⟩
set_option maxHeartbeats 1000000 in
theorem markEffect_any (t : Ef) (k0 : Int) (w : World) {B : Nat} (hn : t.ac.ln ≤ 1048577) (hk0 : 0 ≤ k0) (hk1 : k0 ≤ 140737488351232) (h : OwnF w B t) :
    Calls Tryz.prog 13 #[(.agg #[.int .i64 t.id, .int .i64 t.si, .int .i64 t.sr, .int .i64 t.cl, .int .i64 t.pt.kd, .int .i64 t.pt.wh, .int .i64 t.pt.sr, .int .i64 t.pt.tr, .int .i64 t.pt.pi, .int .i64 t.pt.le, .int .i64 t.pt.zo, .int .i64 t.gd.kd, .int .i64 t.gd.nn, .int .i64 t.ac.kd, .int .i64 t.ac.nn, .int .i64 t.ac.pi, .int .i64 t.ac.si, .int .i64 t.ac.zo, .bool t.ac.be, .slice t.ac.la t.ac.ln t.ac.lcap, .int .i64 t.un, .int .i64 t.le]), .int .i64 k0] w fun e w' => e = .returned (.int .i64 (k0 + 7 * t.ac.ln)) ∧ Only t.ac.lb w w' ∧ OwnE evC 7 w' B t.ac.lb t.ac.la t.ac.ln (fun i => mkE (k0 + 7 * i)) := by
  have HO : Only t.ac.lb w (w.alloc (.cells #[.int .i64 t.id, .int .i64 t.si, .int .i64 t.sr, .int .i64 t.cl, .int .i64 t.pt.kd, .int .i64 t.pt.wh, .int .i64 t.pt.sr, .int .i64 t.pt.tr, .int .i64 t.pt.pi, .int .i64 t.pt.le, .int .i64 t.pt.zo, .int .i64 t.gd.kd, .int .i64 t.gd.nn, .int .i64 t.ac.kd, .int .i64 t.ac.nn, .int .i64 t.ac.pi, .int .i64 t.ac.si, .int .i64 t.ac.zo, .bool t.ac.be, .slice t.ac.la t.ac.ln t.ac.lcap, .int .i64 t.un, .int .i64 t.le] 44)) := (Only.refl _ w).alloc _
  have ho := OwnF.grew h ((Below.refl w.heap.size w).alloc (Nat.le_refl _) (.cells #[.int .i64 t.id, .int .i64 t.si, .int .i64 t.sr, .int .i64 t.cl, .int .i64 t.pt.kd, .int .i64 t.pt.wh, .int .i64 t.pt.sr, .int .i64 t.pt.tr, .int .i64 t.pt.pi, .int .i64 t.pt.le, .int .i64 t.pt.zo, .int .i64 t.gd.kd, .int .i64 t.gd.nn, .int .i64 t.ac.kd, .int .i64 t.ac.nn, .int .i64 t.ac.pi, .int .i64 t.ac.si, .int .i64 t.ac.zo, .bool t.ac.be, .slice t.ac.la t.ac.ln t.ac.lcap, .int .i64 t.un, .int .i64 t.le] 44))
  have bx := boxR_new w 44 #[.int .i64 t.id, .int .i64 t.si, .int .i64 t.sr, .int .i64 t.cl, .int .i64 t.pt.kd, .int .i64 t.pt.wh, .int .i64 t.pt.sr, .int .i64 t.pt.tr, .int .i64 t.pt.pi, .int .i64 t.pt.le, .int .i64 t.pt.zo, .int .i64 t.gd.kd, .int .i64 t.gd.nn, .int .i64 t.ac.kd, .int .i64 t.ac.nn, .int .i64 t.ac.pi, .int .i64 t.ac.si, .int .i64 t.ac.zo, .bool t.ac.be, .slice t.ac.la t.ac.ln t.ac.lcap, .int .i64 t.un, .int .i64 t.le]
  generalize hW : w.alloc (.cells #[.int .i64 t.id, .int .i64 t.si, .int .i64 t.sr, .int .i64 t.cl, .int .i64 t.pt.kd, .int .i64 t.pt.wh, .int .i64 t.pt.sr, .int .i64 t.pt.tr, .int .i64 t.pt.pi, .int .i64 t.pt.le, .int .i64 t.pt.zo, .int .i64 t.gd.kd, .int .i64 t.gd.nn, .int .i64 t.ac.kd, .int .i64 t.ac.nn, .int .i64 t.ac.pi, .int .i64 t.ac.si, .int .i64 t.ac.zo, .bool t.ac.be, .slice t.ac.la t.ac.ln t.ac.lcap, .int .i64 t.un, .int .i64 t.le] 44) = W at HO ho bx
  obtain ⟨k13, k14, k15, k16, k17, k18, k19⟩ := bx.acts
  go_enter Tryz.func13, Tryz.ntmps13
  go_wp2_with fail
  clear hW bx k13 k14 k15 k16 k17 k18 k19
  refine (markAct_any t.ac _ _ hn hk0 hk1 ho).mono ?_
  rintro e w1 ⟨rfl, ho1, ho2⟩
  go_wp2
  go_ret
  exact ⟨rfl, HO.trans ho1, ho2⟩
end Go.Proofs.YtodfdfncdoliiauGreat
