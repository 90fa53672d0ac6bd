/-
  Chapter 5: the draws DrawPieceAt, DrawOnField, DrawStateNew, DrawSetPiece. Written by tools/drawt6.gen.py. Chapter 8: the draws l8Draw, l8Any, DrawBentOf, DrawStronger, DrawHolds. Written by tools/drawgu.gen.py. Own work.
-/
import Derived.Test.YtodfdfncdoliiadGreatGStPut2
import Derived.Test.YtodfdfncdoliiadGreatGPaA4
import Derived.Deep.DeepCutAuto
import Derived.Deep.CutBlock
import Derived.Deep.RegionHeld
namespace Go.Proofs.YtodfdfncdoliiadGreat
open Go.ChangeShapes Go.WideShapes Go.ChangeAt Go.RowKit
set_option maxRecDepth 100000
set_option linter.unusedVariables false
set_option linter.unusedSimpArgs false
theorem RowsT.setOld {w : World} {B g j : Nat} {s : Stt} (h : RowsT w B s) (hg : g < B) (v : Value) : RowsT (w.setCell ⟨g, j, none⟩ v) B s :=
  h.same (fun q h1 _ _ => Below.heap_setCell w _ v q (by show q ≠ g; omega))
theorem results_rowD {P : Program} {fn : Func} {p : Tmp} {u : Tmp} {ty : TypeId} (h : fn.results = #[.cell p ty, .tmp u]) (tmps : Array Value) (w : World) (g : Nat) (t : TypeId) (cs : Array Value) (fr : Nat × Nat) (d : TypeDesc)
    (hp : tmps.getD p undef = .pointer (some ⟨g, 0, none⟩)) (hg : w.heap[g]? = some (.cells cs t fr))
    (hu : P.underlying ty = some d) (hd : (match d with | .struct _ | .array _ _ => true | _ => false) = true) (hi : (P.info? ty).map (·.size) = some cs.size) :
    (results fn tmps).run P w = .ok (.tuple #[.agg cs, tmps.getD u undef]) w := by
  have hp' : tmps[p]?.getD undef = .pointer (some ⟨g, 0, none⟩) := by simpa using hp
  simp [results, h, hp', asAddr, run_loadVar_row w g t ty cs fr d hg hu hd hi]
theorem results_rowE {P : Program} {fn : Func} {p q : Tmp} {ty ty2 : TypeId} (h : fn.results = #[.cell p ty, .cell q ty2]) (tmps : Array Value) (w : World) (g g2 : Nat) (t t2 : TypeId) (cs cs2 : Array Value) (fr fr2 : Nat × Nat) (d d2 : TypeDesc)
    (hp : tmps.getD p undef = .pointer (some ⟨g, 0, none⟩)) (hg : w.heap[g]? = some (.cells cs t fr))
    (hu : P.underlying ty = some d) (hd : (match d with | .struct _ | .array _ _ => true | _ => false) = true) (hi : (P.info? ty).map (·.size) = some cs.size)
    (hp2 : tmps.getD q undef = .pointer (some ⟨g2, 0, none⟩)) (hg2 : w.heap[g2]? = some (.cells cs2 t2 fr2))
    (hu2 : P.underlying ty2 = some d2) (hd2 : (match d2 with | .struct _ | .array _ _ => true | _ => false) = true) (hi2 : (P.info? ty2).map (·.size) = some cs2.size) :
    (results fn tmps).run P w = .ok (.tuple #[.agg cs, .agg cs2]) w := by
  have hp' : tmps[p]?.getD undef = .pointer (some ⟨g, 0, none⟩) := by simpa using hp
  have hp2' : tmps[q]?.getD undef = .pointer (some ⟨g2, 0, none⟩) := by simpa using hp2
  simp [results, h, hp', hp2', asAddr, run_loadVar_row w g t ty cs fr d hg hu hd hi, run_loadVar_row w g2 t2 ty2 cs2 fr2 d2 hg2 hu2 hd2 hi2]
end Go.Proofs.YtodfdfncdoliiadGreat
namespace Go.Proofs.YtodfdfncdoliiadGreat
open Go.ChangeShapes Go.WideShapes Go.ChangeAt Go.RowKit
set_option maxRecDepth 100000
set_option linter.unusedVariables false
set_option linter.unusedSimpArgs false

theorem BoxGd.onlyP {w w' : World} {b t p : Nat} {q : Gd} (h : BoxGd w b t q) (ho : Only p w w') (hp : b ≠ p) : BoxGd w' b t q := (ho.block b h.lt hp).trans h
theorem BoxGd.froz {w : World} {b t : Nat} {q : Gd} (h : BoxGd w b t q) (j : Nat) : w.frozen? ⟨b, j, none⟩ = false := frozen_of_row w b j _ t h
theorem BoxGd.put {w : World} {b t : Nat} {q q' : Gd} (h : BoxGd w b t q) (j : Nat) (v : Value) (e : (#[.int .i64 q.kd, .int .i64 q.nn] : Array Value).setIfInBounds j v = #[.int .i64 q'.kd, .int .i64 q'.nn]) : BoxGd (w.setCell ⟨b, j, none⟩ v) b t q' := by
  unfold BoxGd
  rw [Go.heap_setCell_same w b j _ t v h, e]
theorem BoxGd.old {w : World} {p q : Nat} {t : Nat} {x : Gd} {cs : Array Value} (h : BoxGd w p t x) (hne : p ≠ q) : BoxGd (w.setRow q cs) p t x := by
  unfold BoxGd World.setRow
  simp only [Array.getElem?_modify]
  rw [if_neg (Ne.symm hne)]
  exact h
theorem BoxGd.newRow {w : World} {q t : Nat} {x y : Gd} (h : BoxGd w q t x) : BoxGd (w.setRow q #[.int .i64 y.kd, .int .i64 y.nn]) q t y := setRow_heap _ _ _ _ _ _ h
theorem BoxGd.other {w : World} {b t : Nat} {x : Gd} (h : BoxGd w b t x) {q : Addr} (hq : b ≠ q.block) (v : Value) : BoxGd (w.setCell q v) b t x := (Below.heap_setCell w q v b hq).trans h
/-- while one is drawn: the cursor p, the answer's cell ahead of g, what is under way at g -/
structure PG (w : World) (p : Nat) (a : Option Addr) (len cap : Nat) (g : Nat) (q : Gd) (u : World) : Prop where
  only : Only p w u
  cur : Cur u p a len cap
  pr : p < w.heap.size
  rg : w.heap.size < g
  br : BoxGd u w.heap.size 27 ⟨0, 0⟩
  bg : BoxGd u g 27 q
section
variable {w : World} {p : Nat} {a : Option Addr} {len cap : Nat} {g : Nat} {q : Gd} {u u' : World}
theorem PG.draw (h : PG w p a len cap g q u) (ho : Only p u u') (hk : Cur u' p a len cap) : PG w p a len cap g q u' :=
  have h1 := h.pr
  have h2 := h.rg
  ⟨h.only.trans ho, hk, h.pr, h.rg, h.br.onlyP ho (by omega), h.bg.onlyP ho (by omega)⟩
theorem PG.put (h : PG w p a len cap g q u) (j : Nat) (v : Value) {q' : Gd} (e : (#[.int .i64 q.kd, .int .i64 q.nn] : Array Value).setIfInBounds j v = #[.int .i64 q'.kd, .int .i64 q'.nn]) : PG w p a len cap g q' (u.setCell ⟨g, j, none⟩ v) :=
  have h1 := h.pr
  have h2 := h.rg
  ⟨h.only.setCell (.inr (by show w.heap.size ≤ g; omega)) v, h.cur.only ((Only.refl g u).setCell (.inl rfl) v) (by omega), h.pr, h.rg, (Below.heap_setCell _ _ _ _ (by show w.heap.size ≠ g; omega)).trans h.br, h.bg.put j v e⟩
theorem PG.putKd (h : PG w p a len cap g q u) (x : Int) : PG w p a len cap g ⟨x, q.nn⟩ (u.setCell ⟨g, 0, none⟩ (.int .i64 x)) := h.put 0 _ rfl
theorem PG.putNn (h : PG w p a len cap g q u) (x : Int) : PG w p a len cap g ⟨q.kd, x⟩ (u.setCell ⟨g, 1, none⟩ (.int .i64 x)) := h.put 1 _ rfl
end
set_option maxHeartbeats 8000000 in
theorem l8Draw_any (p : Nat) (a : Option Addr) (len cap : Nat) (w : World) {B : Nat} (hc : Code w a len B) (hB : B ≤ p) (hcur : Cur w p a len cap) :
    Calls Tryz.prog 137 #[.pointer (some ⟨p, 0, none⟩)] w fun e w' => ∃ q : Gd, e = .returned (.agg #[.int .i64 q.kd, .int .i64 q.nn]) ∧ Only p w w' ∧ Cur w' p a len cap := by
  have hp : p < w.heap.size := hcur.1
  have ho0 : Only p w (w.alloc (.cells #[.int .i64 0, .int .i64 0] 27)) := (Only.refl p w).alloc _
  have hk0 : Cur (w.alloc (.cells #[.int .i64 0, .int .i64 0] 27)) p a len cap := hcur.only ((Only.refl w.heap.size w).alloc _) (Nat.ne_of_lt hp)
  have br : BoxGd (w.alloc (.cells #[.int .i64 0, .int .i64 0] 27)) w.heap.size 27 ⟨0, 0⟩ := boxGd_new w 27 ⟨0, 0⟩
  generalize hW : w.alloc (.cells #[.int .i64 0, .int .i64 0] 27) = W at ho0 hk0 br
  have hlw : w.heap.size < W.heap.size := br.lt
  go_enter Tryz.func137, Tryz.ntmps137
  go_wp2_with fail
  clear hW hcur
  refine (l1Once_any p a len cap _ _ (hc.only ho0 hB) hB hk0).mono ?_
  rintro e v1 ⟨b, rfl, ho, hk⟩
  replace br := br.onlyP ho (by omega)
  replace ho0 := ho0.trans ho
  clear hk0 ho
  cases b with
  | false =>
    go_wp2_with (refine wpList_store_row rfl 27 (.tmp 2) _ rfl w.heap.size #[.int .i64 0, .int .i64 0] (by rfl) (by rfl) _ _ br (by kernel_rfl) (by rfl) (by simp [Value.oneCell']) ?_)
    (try simp only [Exit.inBlock, Exit.then]); refine bodyPost_ret (results_cell_row rfl _ _ w.heap.size _ _ _ _ rfl (setRow_heap _ _ _ _ _ _ br) Tryz.underlying27 rfl (by kernel_rfl)) rfl ?_
    exact ⟨⟨0, 0⟩, rfl, ho0.setRow (by omega) _, hk.setRow (by omega) _⟩
  | true =>
    go_wp2_with fail
    refine (l1Below_any p a len cap _ _ (hc.only ho0 hB) hB hk).mono ?_
    rintro e v2 ⟨x, hx0, hx1, rfl, ho, hk2⟩
    have hx2 := hx1 (by omega)
    replace br := br.onlyP ho (by omega)
    replace ho0 := ho0.trans ho
    clear hk ho hx1
    have hlv : w.heap.size < v2.heap.size := br.lt
    have H : PG w p a len cap v2.heap.size ⟨1 + x, 0⟩ (v2.alloc (.cells #[.int .i64 (1 + x), .int .i64 0] 27)) := ⟨ho0.alloc _, hk2.only ((Only.refl v2.heap.size v2).alloc _) (Nat.ne_of_lt hk2.1), hp, hlv, br.alloc _, boxGd_new v2 27 ⟨1 + x, 0⟩⟩
    clear ho0 hk2 br hlw
    go_upto_block 0 with fail
    generalize hV : v2.alloc (.cells #[.int .i64 (1 + x), .int .i64 0] 27) = V at H ⊢
    clear hV
    obtain ⟨g, hg⟩ : ∃ g, v2.heap.size = g := ⟨_, rfl⟩
    rw [hg] at H hlv ⊢
    clear hg
    go_cut [] (fun wc => ∃ q : Gd, PG w p a len cap g q wc)
    case first =>
      have hkk : x = 0 ∨ x = 1 ∨ x = 2 ∨ x = 3 := by omega
      clear hx0 hx2
      rcases hkk with rfl | rfl | rfl | rfl
      · go_wp2_with fail
        refine (l1Int_new p a len cap [3, 10, 20, 1] 3 _ (hc.only H.only hB) hB H.cur (by decide) (by decide)).mono ?_
        rintro e y1_ ⟨z, m_, rfl, ho, hk⟩
        replace H := H.draw ho hk
        clear ho hk
        clear m_
        have kj := H.bg.cells.2
        have fj := H.bg.froz 1
        have H' := H.putNn z
        clear H
        go_wp2_with fail
        go_meet
        case rel => exact ⟨_, H'⟩
      · go_wp2_with fail
        refine (l1Int_new p a len cap [0, 1, 2] 3 _ (hc.only H.only hB) hB H.cur (by decide) (by decide)).mono ?_
        rintro e y2_ ⟨z, m_, rfl, ho, hk⟩
        replace H := H.draw ho hk
        clear ho hk
        clear m_
        have kj := H.bg.cells.2
        have fj := H.bg.froz 1
        have H' := H.putNn z
        clear H
        go_wp2_with fail
        go_meet
        case rel => exact ⟨_, H'⟩
      · go_wp2_with fail
        go_meet
        case rel => exact ⟨_, H⟩
      · go_wp2_with fail
        refine (l1Int_new p a len cap [0, 1, 2] 3 _ (hc.only H.only hB) hB H.cur (by decide) (by decide)).mono ?_
        rintro e y3_ ⟨z, m_, rfl, ho, hk⟩
        replace H := H.draw ho hk
        clear ho hk
        clear m_
        have kj := H.bg.cells.2
        have fj := H.bg.froz 1
        have H' := H.putNn z
        clear H
        go_wp2_with fail
        go_meet
        case rel => exact ⟨_, H'⟩
    case rest =>
      clear H
      obtain ⟨q, H⟩ := hcut
      obtain ⟨k0, k1⟩ : CellsGd _ _ _ := H.bg.cells
      go_wp2_with (refine wpList_store_row rfl 27 (.tmp 2) _ rfl w.heap.size _ (by rfl) (by rfl) _ _ H.br (by kernel_rfl) (by rfl) (by simp [Value.oneCell']) ?_)
      (try simp only [Exit.inBlock, Exit.then]); refine bodyPost_ret (results_cell_row rfl _ _ w.heap.size _ _ _ _ rfl (setRow_heap _ _ _ _ _ _ H.br) Tryz.underlying27 rfl (by kernel_rfl)) rfl ?_
      exact ⟨_, rfl, H.only.setRow (by omega) _, H.cur.setRow (by omega) _⟩
set_option maxHeartbeats 8000000 in
theorem l8Any_any (p : Nat) (a : Option Addr) (len cap : Nat) (w : World) {B : Nat} (hc : Code w a len B) (hB : B ≤ p) (hcur : Cur w p a len cap) :
    Calls Tryz.prog 96 #[.pointer (some ⟨p, 0, none⟩)] w fun e w' => ∃ q : Gd, e = .returned (.agg #[.int .i64 q.kd, .int .i64 q.nn]) ∧ Only p w w' ∧ Cur w' p a len cap := by
  have hp : p < w.heap.size := hcur.1
  have ho0 : Only p w (w.alloc (.cells #[.int .i64 0, .int .i64 0] 27)) := (Only.refl p w).alloc _
  have hk0 : Cur (w.alloc (.cells #[.int .i64 0, .int .i64 0] 27)) p a len cap := hcur.only ((Only.refl w.heap.size w).alloc _) (Nat.ne_of_lt hp)
  have br : BoxGd (w.alloc (.cells #[.int .i64 0, .int .i64 0] 27)) w.heap.size 27 ⟨0, 0⟩ := boxGd_new w 27 ⟨0, 0⟩
  generalize hW : w.alloc (.cells #[.int .i64 0, .int .i64 0] 27) = W at ho0 hk0 br
  have hlw : w.heap.size < W.heap.size := br.lt
  go_enter Tryz.func96, Tryz.ntmps96
  go_wp2_with fail
  clear hW hcur
  refine (l8Draw_any p a len cap _ (hc.only ho0 hB) hB hk0).mono ?_
  rintro e v0 ⟨q, rfl, ho, hk⟩
  replace br := br.onlyP ho (by omega)
  replace ho0 := ho0.trans ho
  clear hk0 ho
  have hlv : w.heap.size < v0.heap.size := br.lt
  have H : PG w p a len cap v0.heap.size q (v0.alloc (.cells #[.int .i64 q.kd, .int .i64 q.nn] 27)) := ⟨ho0.alloc _, hk.only ((Only.refl v0.heap.size v0).alloc _) (Nat.ne_of_lt hk.1), hp, hlv, br.alloc _, boxGd_new _ _ _⟩
  clear ho0 hk br hlw
  go_wp2_with fail
  obtain ⟨g, hg⟩ : ∃ g, v0.heap.size = g := ⟨_, rfl⟩
  rw [hg] at H ⊢
  refine (l1Below_any p a len cap _ _ (hc.only H.only hB) hB H.cur).mono ?_
  rintro e y1_ ⟨x, n0_, n1_, rfl, ho, hk⟩
  have n2_ := n1_ (by omega)
  replace H := H.draw ho hk
  clear ho hk
  clear n0_ n1_ n2_ hg
  go_upto_block 0 with fail
  go_cut [] (fun wc => ∃ q : Gd, PG w p a len cap g q wc)
  case first =>
    cases t0 : (x == 0)
    case true =>
      go_wp2_with fail
      refine (l1Int_new p a len cap [-1, 1, 2, 3, 4, 5] 3 _ (hc.only H.only hB) hB H.cur (by decide) (by decide)).mono ?_
      rintro e y2_ ⟨z, m_, rfl, ho, hk⟩
      replace H := H.draw ho hk
      clear ho hk
      clear m_
      have kj := H.bg.cells.1
      have fj := H.bg.froz 0
      have H' := H.putKd z
      clear H
      go_wp2_with fail
      go_meet
      case rel => exact ⟨_, H'⟩
    case false =>
      cases t1 : (x == 1)
      case true =>
        go_wp2_with fail
        refine (l1Raw_any p a len cap _ (hc.only H.only hB) hB H.cur).mono ?_
        rintro e y3_ ⟨z, i_z, rfl, ho, hk⟩
        replace H := H.draw ho hk
        clear ho hk
        have kj := H.bg.cells.2
        have fj := H.bg.froz 1
        have H' := H.putNn z
        clear H
        go_wp2_with fail
        go_meet
        case rel => exact ⟨_, H'⟩
      case false =>
        cases t2 : (x == 2)
        case true =>
          go_wp2_with fail
          refine (l1Int_new p a len cap [1, 8, 9, -1] 3 _ (hc.only H.only hB) hB H.cur (by decide) (by decide)).mono ?_
          rintro e y4_ ⟨z, m_, rfl, ho, hk⟩
          replace H := H.draw ho hk
          clear ho hk
          clear m_
          have kj := H.bg.cells.2
          have fj := H.bg.froz 1
          have H' := H.putNn z
          clear H
          go_wp2_with fail
          go_meet
          case rel => exact ⟨_, H'⟩
        case false =>
          go_wp2_with fail
          go_meet
          case rel => exact ⟨_, H⟩
  case rest =>
    clear H
    obtain ⟨q, H⟩ := hcut
    obtain ⟨k0, k1⟩ : CellsGd _ _ _ := H.bg.cells
    go_wp2_with (refine wpList_store_row rfl 27 (.tmp 2) _ rfl w.heap.size _ (by rfl) (by rfl) _ _ H.br (by kernel_rfl) (by rfl) (by simp [Value.oneCell']) ?_)
    (try simp only [Exit.inBlock, Exit.then]); refine bodyPost_ret (results_cell_row rfl _ _ w.heap.size _ _ _ _ rfl (setRow_heap _ _ _ _ _ _ H.br) Tryz.underlying27 rfl (by kernel_rfl)) rfl ?_
    exact ⟨_, rfl, H.only.setRow (by omega) _, H.cur.setRow (by omega) _⟩
end Go.Proofs.YtodfdfncdoliiadGreat
