/-
  Chapter 4: the draws DrawPieceOk, DrawHasTrait, DrawMoved, DrawSamePiece. Written by tools/drawq.gen.py. Own work.
-/
import Derived.Test.YtjpimkolkhbflabDrawT6
namespace Go.Proofs.Ytjpimkolkhbflab
open Go.ChangeShapes Go.WideShapes Go.ChangeAt Go.RowKit
set_option maxRecDepth 100000
set_option linter.unusedVariables false
set_option linter.unusedSimpArgs false
theorem there13 {w : World} {b : Nat} (h : BoxR w b 31 #[.int .i64 0, .int .i64 0, .int .i64 0, .int .i64 0, .int .i64 0, .int .i64 0, .int .i64 0, .int .i64 0, .int .i64 0, .int .i64 0, .int .i64 0, .bool false, .bool false]) : w.there b 0 13 := fun j hj => by
  refine ⟨?_, h.froz _⟩
  rw [Nat.zero_add, h.cell j]
  have : j = 0 ∨ j = 1 ∨ j = 2 ∨ j = 3 ∨ j = 4 ∨ j = 5 ∨ j = 6 ∨ j = 7 ∨ j = 8 ∨ j = 9 ∨ j = 10 ∨ j = 11 ∨ j = 12 := by omega
  rcases this with rfl | rfl | rfl | rfl | rfl | rfl | rfl | rfl | rfl | rfl | rfl | rfl | rfl <;> rfl
set_option maxHeartbeats 1000000 in
theorem drawPieceOk_any (a : Option Addr) (len cap : Nat) (w : World) (hc : Code w a len w.heap.size) :
    Calls Try.prog 22 #[.slice a len cap] w fun e w' => ∃ x : Pc, e = .returned (.agg #[.int .i64 x.id, .int .i64 x.ow, .int .i64 x.si, .int .i64 x.zo, .int .i64 x.st, .int .i64 x.po, .int .i64 x.to, .int .i64 x.tr, .int .i64 x.pl, .int .i64 x.mi, .int .i64 x.ma, .bool x.de, .bool x.be]) ∧ Below w.heap.size w w' := by
  have hb0 := (Below.refl _ w).alloc (Nat.le_refl _) (.cells #[.int .i64 0, .int .i64 0, .int .i64 0, .int .i64 0, .int .i64 0, .int .i64 0, .int .i64 0, .int .i64 0, .int .i64 0, .int .i64 0, .int .i64 0, .bool false, .bool false] 31)
  have xr := boxR_new w 31 #[.int .i64 0, .int .i64 0, .int .i64 0, .int .i64 0, .int .i64 0, .int .i64 0, .int .i64 0, .int .i64 0, .int .i64 0, .int .i64 0, .int .i64 0, .bool false, .bool false]
  generalize hW : w.alloc (.cells #[.int .i64 0, .int .i64 0, .int .i64 0, .int .i64 0, .int .i64 0, .int .i64 0, .int .i64 0, .int .i64 0, .int .i64 0, .int .i64 0, .int .i64 0, .bool false, .bool false] 31) = W at hb0 xr
  have hrz : w.heap.size < W.heap.size := xr.lt
  go_enter Try.func22, Try.ntmps22
  go_wp2_with fail
  clear hW
  refine (l1New_any a len cap _ (hc.below hb0)).mono ?_
  rintro e w1 ⟨h, rfl, hw⟩
  have hb : Below w.heap.size w w1 := by rw [hw]; exact hb0.alloc hb0.size _
  have hk : Cur w1 W.heap.size a len cap := by rw [hw]; exact Cur.made W a len cap h _
  have xr1 : BoxR w1 w.heap.size 31 #[.int .i64 0, .int .i64 0, .int .i64 0, .int .i64 0, .int .i64 0, .int .i64 0, .int .i64 0, .int .i64 0, .int .i64 0, .int .i64 0, .int .i64 0, .bool false, .bool false] := by rw [hw]; exact xr.alloc _
  have hBp : w.heap.size ≤ W.heap.size := by omega
  clear hw xr
  go_wp2_with fail
  refine (l4Any_any W.heap.size a len cap _ (hc.below hb) hBp hk).mono ?_
  rintro e w2 ⟨x, rfl, ho, hk2⟩
  have hb2 := hb.trans (ho.below hBp hb.size)
  have xr2 := xr1.onlyR ho (by omega)
  clear hb ho hk xr1
  go_wp2_with (refine wpList_store_row rfl 31 (.tmp 2) _ rfl w.heap.size _ (by rfl) (by rfl) _ _ xr2 (by kernel_rfl) (by rfl) (by simp [Value.oneCell']) ?_)
  (try simp only [Exit.inBlock, Exit.then]); refine bodyPost_ret (results_cell_row rfl _ _ w.heap.size _ _ _ _ rfl (setRow_heap _ _ _ _ _ _ xr2) Try.underlying31 rfl (by kernel_rfl)) rfl ?_
  exact ⟨x, rfl, below_setRow hb2 (Nat.le_refl _) _⟩
set_option maxHeartbeats 2000000 in
theorem drawHasTrait_any (a : Option Addr) (len cap : Nat) (w : World) (hc : Code w a len w.heap.size) :
    Calls Try.prog 23 #[.slice a len cap] w fun e w' => ∃ (x : Pc) (y : Int), e = .returned (.tuple #[(.agg #[.int .i64 x.id, .int .i64 x.ow, .int .i64 x.si, .int .i64 x.zo, .int .i64 x.st, .int .i64 x.po, .int .i64 x.to, .int .i64 x.tr, .int .i64 x.pl, .int .i64 x.mi, .int .i64 x.ma, .bool x.de, .bool x.be]), .int .i64 y]) ∧ Below w.heap.size w w' := by
  have hb0 := (Below.refl _ w).alloc (Nat.le_refl _) (.cells #[.int .i64 0, .int .i64 0, .int .i64 0, .int .i64 0, .int .i64 0, .int .i64 0, .int .i64 0, .int .i64 0, .int .i64 0, .int .i64 0, .int .i64 0, .bool false, .bool false] 31)
  have xr := boxR_new w 31 #[.int .i64 0, .int .i64 0, .int .i64 0, .int .i64 0, .int .i64 0, .int .i64 0, .int .i64 0, .int .i64 0, .int .i64 0, .int .i64 0, .int .i64 0, .bool false, .bool false]
  generalize hW : w.alloc (.cells #[.int .i64 0, .int .i64 0, .int .i64 0, .int .i64 0, .int .i64 0, .int .i64 0, .int .i64 0, .int .i64 0, .int .i64 0, .int .i64 0, .int .i64 0, .bool false, .bool false] 31) = W at hb0 xr
  have hrz : w.heap.size < W.heap.size := xr.lt
  go_enter Try.func23, Try.ntmps23
  go_wp2_with fail
  clear hW
  refine (l1New_any a len cap _ (hc.below hb0)).mono ?_
  rintro e w1 ⟨h, rfl, hw⟩
  have hb : Below w.heap.size w w1 := by rw [hw]; exact hb0.alloc hb0.size _
  have hk : Cur w1 W.heap.size a len cap := by rw [hw]; exact Cur.made W a len cap h _
  have xr1 : BoxR w1 w.heap.size 31 #[.int .i64 0, .int .i64 0, .int .i64 0, .int .i64 0, .int .i64 0, .int .i64 0, .int .i64 0, .int .i64 0, .int .i64 0, .int .i64 0, .int .i64 0, .bool false, .bool false] := by rw [hw]; exact xr.alloc _
  have hBp : w.heap.size ≤ W.heap.size := by omega
  clear hw xr
  go_wp2_with fail
  refine (l4Any_any W.heap.size a len cap _ (hc.below hb) hBp hk).mono ?_
  rintro e w2 ⟨x, rfl, ho, hk2⟩
  have hb2 := hb.trans (ho.below hBp hb.size)
  have xr2 := xr1.onlyR ho (by omega)
  clear hb ho hk xr1
  have xg := boxR_new w2 31 #[.int .i64 x.id, .int .i64 x.ow, .int .i64 x.si, .int .i64 x.zo, .int .i64 x.st, .int .i64 x.po, .int .i64 x.to, .int .i64 x.tr, .int .i64 x.pl, .int .i64 x.mi, .int .i64 x.ma, .bool x.de, .bool x.be]
  have hbV := below_new2'' w2 (.cells #[.int .i64 x.id, .int .i64 x.ow, .int .i64 x.si, .int .i64 x.zo, .int .i64 x.st, .int .i64 x.po, .int .i64 x.to, .int .i64 x.tr, .int .i64 x.pl, .int .i64 x.mi, .int .i64 x.ma, .bool x.de, .bool x.be] 31)
  have hgz : W.heap.size < w2.heap.size := hk2.1
  generalize hV : w2.alloc (.cells #[.int .i64 x.id, .int .i64 x.ow, .int .i64 x.si, .int .i64 x.zo, .int .i64 x.st, .int .i64 x.po, .int .i64 x.to, .int .i64 x.tr, .int .i64 x.pl, .int .i64 x.mi, .int .i64 x.ma, .bool x.de, .bool x.be] 31) = V at xg hbV
  obtain ⟨g, hg⟩ : ∃ g, Hid (w2.heap.size = g) := ⟨w2.heap.size, (rfl : w2.heap.size = w2.heap.size)⟩
  have hb3 := below_app hb2 hbV hb2.size
  have xr3 := xr2.grew hbV
  have hk3 : Cur V W.heap.size a len cap := hk2.same (hbV.block _ hk2.1) hbV.size
  clear hb2 hbV xr2 hk2
  go_wp2_with fail
  clear hV
  rw [hg.out]
  have hgw : W.heap.size < g := by rw [← hg.out]; exact hgz
  rw [hg.out] at xg
  clear hgz hg
  have SK : Hid (∀ u : World, BoxR u g 31 #[.int .i64 x.id, .int .i64 x.ow, .int .i64 x.si, .int .i64 x.zo, .int .i64 x.st, .int .i64 x.po, .int .i64 x.to, .int .i64 x.tr, .int .i64 x.pl, .int .i64 x.mi, .int .i64 x.ma, .bool x.de, .bool x.be] → u.cell? ⟨g, 0, none⟩ = some (.int .i64 x.id) ∧ u.cell? ⟨g, 1, none⟩ = some (.int .i64 x.ow) ∧ u.cell? ⟨g, 2, none⟩ = some (.int .i64 x.si) ∧ u.cell? ⟨g, 3, none⟩ = some (.int .i64 x.zo) ∧ u.cell? ⟨g, 4, none⟩ = some (.int .i64 x.st) ∧ u.cell? ⟨g, 5, none⟩ = some (.int .i64 x.po) ∧ u.cell? ⟨g, 6, none⟩ = some (.int .i64 x.to) ∧ u.cell? ⟨g, 7, none⟩ = some (.int .i64 x.tr) ∧ u.cell? ⟨g, 8, none⟩ = some (.int .i64 x.pl) ∧ u.cell? ⟨g, 9, none⟩ = some (.int .i64 x.mi) ∧ u.cell? ⟨g, 10, none⟩ = some (.int .i64 x.ma) ∧ u.cell? ⟨g, 11, none⟩ = some (.bool x.de) ∧ u.cell? ⟨g, 12, none⟩ = some (.bool x.be)) := fun u h => ⟨h.cell 0, h.cell 1, h.cell 2, h.cell 3, h.cell 4, h.cell 5, h.cell 6, h.cell 7, h.cell 8, h.cell 9, h.cell 10, h.cell 11, h.cell 12⟩
  have hcD : Code V.drew a len w.heap.size := hc.below hb3.drew
  refine wp_region_held_drew (S := fun u : World => u.cell? ⟨g, 0, none⟩ = some (.int .i64 x.id) ∧ u.cell? ⟨g, 1, none⟩ = some (.int .i64 x.ow) ∧ u.cell? ⟨g, 2, none⟩ = some (.int .i64 x.si) ∧ u.cell? ⟨g, 3, none⟩ = some (.int .i64 x.zo) ∧ u.cell? ⟨g, 4, none⟩ = some (.int .i64 x.st) ∧ u.cell? ⟨g, 5, none⟩ = some (.int .i64 x.po) ∧ u.cell? ⟨g, 6, none⟩ = some (.int .i64 x.to) ∧ u.cell? ⟨g, 7, none⟩ = some (.int .i64 x.tr) ∧ u.cell? ⟨g, 8, none⟩ = some (.int .i64 x.pl) ∧ u.cell? ⟨g, 9, none⟩ = some (.int .i64 x.mi) ∧ u.cell? ⟨g, 10, none⟩ = some (.int .i64 x.ma) ∧ u.cell? ⟨g, 11, none⟩ = some (.bool x.de) ∧ u.cell? ⟨g, 12, none⟩ = some (.bool x.be)) (by kernel_rfl) (SK.out V.drew xg) (fun hHeld => ?_)
  refine wpAnyH_take (i := 0) (v := (.agg #[.int .i64 x.id, .int .i64 x.ow, .int .i64 x.si, .int .i64 x.zo, .int .i64 x.st, .int .i64 x.po, .int .i64 x.to, .int .i64 x.tr, .int .i64 x.pl, .int .i64 x.mi, .int .i64 x.ma, .bool x.de, .bool x.be])) rfl (by kernel_rfl) (by kernel_rfl) (by kernel_rfl) (fun _ _ _ h => h) (Or.inl ⟨by rfl, fun u hSu => by (try dsimp only at hSu); go_simp⟩) hHeld ?_
  try simp only [Act.put, List.setIfInBounds_toArray, List.set_cons_zero, List.set_cons_succ]
  refine wpAnyH_take (i := 1) (v := .pointer (some ⟨W.heap.size, 0, none⟩)) rfl (by kernel_rfl) (by kernel_rfl) (by kernel_rfl) (fun _ _ _ h => h) (Or.inl ⟨by rfl, fun u hSu => by (try dsimp only at hSu); go_simp⟩) hHeld ?_
  try simp only [Act.put, List.setIfInBounds_toArray, List.set_cons_zero, List.set_cons_succ]
  have xgA : BoxR (V.drew.alloc (.cells #[.int .i64 1, .int .i64 2, .int .i64 4, .int .i64 8, .int .i64 16, .int .i64 32, .int .i64 3, .int .i64 64, .int .i64 0, .int .i64 (-1)] 3)) g 31 #[.int .i64 x.id, .int .i64 x.ow, .int .i64 x.si, .int .i64 x.zo, .int .i64 x.st, .int .i64 x.po, .int .i64 x.to, .int .i64 x.tr, .int .i64 x.pl, .int .i64 x.mi, .int .i64 x.ma, .bool x.de, .bool x.be] := BoxR.alloc (w := V.drew) xg _
  refine wpAnyH_ready (rs := [2]) (by kernel_rfl) (by simp) ?_
  refine AllReadyH.cons rfl (fun K' hK => ?_) AllReadyH.nil
  go_simp
  refine hK.out _ _ (SK.out _ xgA) (fun hHeld => ?_)
  clear hK
  try simp only [Act.put, List.setIfInBounds_toArray, List.set_cons_zero, List.set_cons_succ]
  refine wpAnyH_ready (rs := [3]) (by kernel_rfl) (by simp) ?_
  refine AllReadyH.cons rfl (fun K' hK => ?_) AllReadyH.nil
  go_simp
  go_at_call 78
  refine (l1Int_new W.heap.size a len cap [1, 2, 4, 8, 16, 32, 3, 64, 0, -1] 3 V.drew hcD hBp hk3 (by decide) (by decide)).mono ?_
  rintro e v1 ⟨y, _, rfl, ho1, hk1⟩
  have hbN : Below w.heap.size w v1 := hb3.drew.trans (ho1.below hBp hb3.size)
  have xgN : BoxR v1 g 31 #[.int .i64 x.id, .int .i64 x.ow, .int .i64 x.si, .int .i64 x.zo, .int .i64 x.st, .int .i64 x.po, .int .i64 x.to, .int .i64 x.tr, .int .i64 x.pl, .int .i64 x.mi, .int .i64 x.ma, .bool x.de, .bool x.be] := BoxR.onlyR (w := V.drew) xg ho1 (by omega)
  have xrN : BoxR v1 w.heap.size 31 #[.int .i64 0, .int .i64 0, .int .i64 0, .int .i64 0, .int .i64 0, .int .i64 0, .int .i64 0, .int .i64 0, .int .i64 0, .int .i64 0, .int .i64 0, .bool false, .bool false] := BoxR.onlyR (w := V.drew) xr3 ho1 (by omega)
  refine hK.out _ _ (SK.out _ xgN) (fun hHeld => ?_)
  clear hK hk1 ho1 hk3 xg xr3 hb3 hcD xgA
  try simp only [Act.put, List.setIfInBounds_toArray, List.set_cons_zero, List.set_cons_succ]
  have hta := there13 xrN
  have xr_ := ((((((((((((xrN.put 0 (.int .i64 x.id)).put 1 (.int .i64 x.ow)).put 2 (.int .i64 x.si)).put 3 (.int .i64 x.zo)).put 4 (.int .i64 x.st)).put 5 (.int .i64 x.po)).put 6 (.int .i64 x.to)).put 7 (.int .i64 x.tr)).put 8 (.int .i64 x.pl)).put 9 (.int .i64 x.mi)).put 10 (.int .i64 x.ma)).put 11 (.bool x.de)).put 12 (.bool x.be)
  have xg_ := ((((((((((((xgN.other (q := ⟨w.heap.size, 0, none⟩) (by simp; omega) (.int .i64 x.id)).other (q := ⟨w.heap.size, 1, none⟩) (by simp; omega) (.int .i64 x.ow)).other (q := ⟨w.heap.size, 2, none⟩) (by simp; omega) (.int .i64 x.si)).other (q := ⟨w.heap.size, 3, none⟩) (by simp; omega) (.int .i64 x.zo)).other (q := ⟨w.heap.size, 4, none⟩) (by simp; omega) (.int .i64 x.st)).other (q := ⟨w.heap.size, 5, none⟩) (by simp; omega) (.int .i64 x.po)).other (q := ⟨w.heap.size, 6, none⟩) (by simp; omega) (.int .i64 x.to)).other (q := ⟨w.heap.size, 7, none⟩) (by simp; omega) (.int .i64 x.tr)).other (q := ⟨w.heap.size, 8, none⟩) (by simp; omega) (.int .i64 x.pl)).other (q := ⟨w.heap.size, 9, none⟩) (by simp; omega) (.int .i64 x.mi)).other (q := ⟨w.heap.size, 10, none⟩) (by simp; omega) (.int .i64 x.ma)).other (q := ⟨w.heap.size, 11, none⟩) (by simp; omega) (.bool x.de)).other (q := ⟨w.heap.size, 12, none⟩) (by simp; omega) (.bool x.be)
  have hb_ := ((((((((((((hbN.setCell (p := ⟨w.heap.size, 0, none⟩) (by simp) (.int .i64 x.id)).setCell (p := ⟨w.heap.size, 1, none⟩) (by simp) (.int .i64 x.ow)).setCell (p := ⟨w.heap.size, 2, none⟩) (by simp) (.int .i64 x.si)).setCell (p := ⟨w.heap.size, 3, none⟩) (by simp) (.int .i64 x.zo)).setCell (p := ⟨w.heap.size, 4, none⟩) (by simp) (.int .i64 x.st)).setCell (p := ⟨w.heap.size, 5, none⟩) (by simp) (.int .i64 x.po)).setCell (p := ⟨w.heap.size, 6, none⟩) (by simp) (.int .i64 x.to)).setCell (p := ⟨w.heap.size, 7, none⟩) (by simp) (.int .i64 x.tr)).setCell (p := ⟨w.heap.size, 8, none⟩) (by simp) (.int .i64 x.pl)).setCell (p := ⟨w.heap.size, 9, none⟩) (by simp) (.int .i64 x.mi)).setCell (p := ⟨w.heap.size, 10, none⟩) (by simp) (.int .i64 x.ma)).setCell (p := ⟨w.heap.size, 11, none⟩) (by simp) (.bool x.de)).setCell (p := ⟨w.heap.size, 12, none⟩) (by simp) (.bool x.be)
  refine wpAnyH_ready (rs := [4]) (by kernel_rfl) (by simp) ?_
  refine AllReadyH.cons rfl (fun K' hK => ?_) AllReadyH.nil
  rw [if_pos (by rfl)]
  refine wp_store_mid 31 (.tmp 2) (.tmp 10) rfl (w.heap.size) 0 #[.int .i64 x.id, .int .i64 x.ow, .int .i64 x.si, .int .i64 x.zo, .int .i64 x.st, .int .i64 x.po, .int .i64 x.to, .int .i64 x.tr, .int .i64 x.pl, .int .i64 x.mi, .int .i64 x.ma, .bool x.de, .bool x.be] (by first | rfl | simp [Act.eval]) rfl hta (by kernel_rfl) (by simp [Value.oneCell']) ?_
  refine hK.out _ _ (SK.out _ xg_) (fun hHeld => ?_)
  clear hK hta
  try simp only [Act.put, List.setIfInBounds_toArray, List.set_cons_zero, List.set_cons_succ]
  generalize hX_ : ((((((((((((v1.setCell ⟨w.heap.size, 0, none⟩ (.int .i64 x.id)).setCell ⟨w.heap.size, 1, none⟩ (.int .i64 x.ow)).setCell ⟨w.heap.size, 2, none⟩ (.int .i64 x.si)).setCell ⟨w.heap.size, 3, none⟩ (.int .i64 x.zo)).setCell ⟨w.heap.size, 4, none⟩ (.int .i64 x.st)).setCell ⟨w.heap.size, 5, none⟩ (.int .i64 x.po)).setCell ⟨w.heap.size, 6, none⟩ (.int .i64 x.to)).setCell ⟨w.heap.size, 7, none⟩ (.int .i64 x.tr)).setCell ⟨w.heap.size, 8, none⟩ (.int .i64 x.pl)).setCell ⟨w.heap.size, 9, none⟩ (.int .i64 x.mi)).setCell ⟨w.heap.size, 10, none⟩ (.int .i64 x.ma)).setCell ⟨w.heap.size, 11, none⟩ (.bool x.de)).setCell ⟨w.heap.size, 12, none⟩ (.bool x.be) = X5 at xr_ xg_ hb_
  (first | rw [show v1.setCells (w.heap.size) 0 (#[.int .i64 x.id, .int .i64 x.ow, .int .i64 x.si, .int .i64 x.zo, .int .i64 x.st, .int .i64 x.po, .int .i64 x.to, .int .i64 x.tr, .int .i64 x.pl, .int .i64 x.mi, .int .i64 x.ma, .bool x.de, .bool x.be] : Array Value).toList = X5 from hX_] at hHeld ⊢ | skip)
  clear hX_
  clear xrN
  have xrN := xr_
  clear xr_
  clear xgN
  have xgN := xg_
  clear xg_
  clear hbN
  have hbN := hb_
  clear hb_
  simp only [List.setIfInBounds_toArray, List.set_cons_zero, List.set_cons_succ] at xrN
  refine wpAnyH_ready (rs := [5]) (by kernel_rfl) (by simp) ?_
  refine AllReadyH.cons rfl (fun K' hK => ?_) AllReadyH.nil
  go_simp
  refine hK.out _ _ (SK.out _ xgN) (fun hHeld => ?_)
  clear hK
  try simp only [Act.put, List.setIfInBounds_toArray, List.set_cons_zero, List.set_cons_succ]
  refine wpAnyH_done (by kernel_rfl) ?_ _
  try simp only [Act.put, List.setIfInBounds_toArray, List.set_cons_zero, List.set_cons_succ]
  clear hHeld SK
  go_wp2
  (try simp only [Exit.inBlock, Exit.then]); refine bodyPost_ret (results_rowD rfl _ _ w.heap.size _ _ _ _ rfl xrN Try.underlying31 rfl (by kernel_rfl)) rfl ?_
  exact ⟨x, y, rfl, hbN⟩
set_option maxHeartbeats 2000000 in
theorem drawMoved_any (a : Option Addr) (len cap : Nat) (w : World) (hc : Code w a len w.heap.size) :
    Calls Try.prog 24 #[.slice a len cap] w fun e w' => ∃ (x : Pc) (y z : Int), 0 ≤ y ∧ y < 5 ∧ 0 ≤ z ∧ z < 4 ∧ e = .returned (.tuple #[(.agg #[.int .i64 x.id, .int .i64 x.ow, .int .i64 x.si, .int .i64 x.zo, .int .i64 x.st, .int .i64 x.po, .int .i64 x.to, .int .i64 x.tr, .int .i64 x.pl, .int .i64 x.mi, .int .i64 x.ma, .bool x.de, .bool x.be]), .int .i64 y, .int .i64 z]) ∧ Below w.heap.size w w' := by
  have hb0 := (Below.refl _ w).alloc (Nat.le_refl _) (.cells #[.int .i64 0, .int .i64 0, .int .i64 0, .int .i64 0, .int .i64 0, .int .i64 0, .int .i64 0, .int .i64 0, .int .i64 0, .int .i64 0, .int .i64 0, .bool false, .bool false] 31)
  have xr := boxR_new w 31 #[.int .i64 0, .int .i64 0, .int .i64 0, .int .i64 0, .int .i64 0, .int .i64 0, .int .i64 0, .int .i64 0, .int .i64 0, .int .i64 0, .int .i64 0, .bool false, .bool false]
  generalize hW : w.alloc (.cells #[.int .i64 0, .int .i64 0, .int .i64 0, .int .i64 0, .int .i64 0, .int .i64 0, .int .i64 0, .int .i64 0, .int .i64 0, .int .i64 0, .int .i64 0, .bool false, .bool false] 31) = W at hb0 xr
  have hrz : w.heap.size < W.heap.size := xr.lt
  go_enter Try.func24, Try.ntmps24
  go_wp2_with fail
  clear hW
  refine (l1New_any a len cap _ (hc.below hb0)).mono ?_
  rintro e w1 ⟨h, rfl, hw⟩
  have hb : Below w.heap.size w w1 := by rw [hw]; exact hb0.alloc hb0.size _
  have hk : Cur w1 W.heap.size a len cap := by rw [hw]; exact Cur.made W a len cap h _
  have xr1 : BoxR w1 w.heap.size 31 #[.int .i64 0, .int .i64 0, .int .i64 0, .int .i64 0, .int .i64 0, .int .i64 0, .int .i64 0, .int .i64 0, .int .i64 0, .int .i64 0, .int .i64 0, .bool false, .bool false] := by rw [hw]; exact xr.alloc _
  have hBp : w.heap.size ≤ W.heap.size := by omega
  clear hw xr
  go_wp2_with fail
  refine (l4Any_any W.heap.size a len cap _ (hc.below hb) hBp hk).mono ?_
  rintro e w2 ⟨x, rfl, ho, hk2⟩
  have hb2 := hb.trans (ho.below hBp hb.size)
  have xr2 := xr1.onlyR ho (by omega)
  clear hb ho hk xr1
  have xg := boxR_new w2 31 #[.int .i64 x.id, .int .i64 x.ow, .int .i64 x.si, .int .i64 x.zo, .int .i64 x.st, .int .i64 x.po, .int .i64 x.to, .int .i64 x.tr, .int .i64 x.pl, .int .i64 x.mi, .int .i64 x.ma, .bool x.de, .bool x.be]
  have hbV := below_new2'' w2 (.cells #[.int .i64 x.id, .int .i64 x.ow, .int .i64 x.si, .int .i64 x.zo, .int .i64 x.st, .int .i64 x.po, .int .i64 x.to, .int .i64 x.tr, .int .i64 x.pl, .int .i64 x.mi, .int .i64 x.ma, .bool x.de, .bool x.be] 31)
  have hgz : W.heap.size < w2.heap.size := hk2.1
  generalize hV : w2.alloc (.cells #[.int .i64 x.id, .int .i64 x.ow, .int .i64 x.si, .int .i64 x.zo, .int .i64 x.st, .int .i64 x.po, .int .i64 x.to, .int .i64 x.tr, .int .i64 x.pl, .int .i64 x.mi, .int .i64 x.ma, .bool x.de, .bool x.be] 31) = V at xg hbV
  obtain ⟨g, hg⟩ : ∃ g, Hid (w2.heap.size = g) := ⟨w2.heap.size, (rfl : w2.heap.size = w2.heap.size)⟩
  have hb3 := below_app hb2 hbV hb2.size
  have xr3 := xr2.grew hbV
  have hk3 : Cur V W.heap.size a len cap := hk2.same (hbV.block _ hk2.1) hbV.size
  clear hb2 hbV xr2 hk2
  go_wp2_with fail
  clear hV
  rw [hg.out]
  have hgw : W.heap.size < g := by rw [← hg.out]; exact hgz
  rw [hg.out] at xg
  clear hgz hg
  have SK : Hid (∀ u : World, BoxR u g 31 #[.int .i64 x.id, .int .i64 x.ow, .int .i64 x.si, .int .i64 x.zo, .int .i64 x.st, .int .i64 x.po, .int .i64 x.to, .int .i64 x.tr, .int .i64 x.pl, .int .i64 x.mi, .int .i64 x.ma, .bool x.de, .bool x.be] → u.cell? ⟨g, 0, none⟩ = some (.int .i64 x.id) ∧ u.cell? ⟨g, 1, none⟩ = some (.int .i64 x.ow) ∧ u.cell? ⟨g, 2, none⟩ = some (.int .i64 x.si) ∧ u.cell? ⟨g, 3, none⟩ = some (.int .i64 x.zo) ∧ u.cell? ⟨g, 4, none⟩ = some (.int .i64 x.st) ∧ u.cell? ⟨g, 5, none⟩ = some (.int .i64 x.po) ∧ u.cell? ⟨g, 6, none⟩ = some (.int .i64 x.to) ∧ u.cell? ⟨g, 7, none⟩ = some (.int .i64 x.tr) ∧ u.cell? ⟨g, 8, none⟩ = some (.int .i64 x.pl) ∧ u.cell? ⟨g, 9, none⟩ = some (.int .i64 x.mi) ∧ u.cell? ⟨g, 10, none⟩ = some (.int .i64 x.ma) ∧ u.cell? ⟨g, 11, none⟩ = some (.bool x.de) ∧ u.cell? ⟨g, 12, none⟩ = some (.bool x.be)) := fun u h => ⟨h.cell 0, h.cell 1, h.cell 2, h.cell 3, h.cell 4, h.cell 5, h.cell 6, h.cell 7, h.cell 8, h.cell 9, h.cell 10, h.cell 11, h.cell 12⟩
  have hcD : Code V.drew a len w.heap.size := hc.below hb3.drew
  refine wp_region_held_drew (S := fun u : World => u.cell? ⟨g, 0, none⟩ = some (.int .i64 x.id) ∧ u.cell? ⟨g, 1, none⟩ = some (.int .i64 x.ow) ∧ u.cell? ⟨g, 2, none⟩ = some (.int .i64 x.si) ∧ u.cell? ⟨g, 3, none⟩ = some (.int .i64 x.zo) ∧ u.cell? ⟨g, 4, none⟩ = some (.int .i64 x.st) ∧ u.cell? ⟨g, 5, none⟩ = some (.int .i64 x.po) ∧ u.cell? ⟨g, 6, none⟩ = some (.int .i64 x.to) ∧ u.cell? ⟨g, 7, none⟩ = some (.int .i64 x.tr) ∧ u.cell? ⟨g, 8, none⟩ = some (.int .i64 x.pl) ∧ u.cell? ⟨g, 9, none⟩ = some (.int .i64 x.mi) ∧ u.cell? ⟨g, 10, none⟩ = some (.int .i64 x.ma) ∧ u.cell? ⟨g, 11, none⟩ = some (.bool x.de) ∧ u.cell? ⟨g, 12, none⟩ = some (.bool x.be)) (by kernel_rfl) (SK.out V.drew xg) (fun hHeld => ?_)
  refine wpAnyH_take (i := 0) (v := (.agg #[.int .i64 x.id, .int .i64 x.ow, .int .i64 x.si, .int .i64 x.zo, .int .i64 x.st, .int .i64 x.po, .int .i64 x.to, .int .i64 x.tr, .int .i64 x.pl, .int .i64 x.mi, .int .i64 x.ma, .bool x.de, .bool x.be])) rfl (by kernel_rfl) (by kernel_rfl) (by kernel_rfl) (fun _ _ _ h => h) (Or.inl ⟨by rfl, fun u hSu => by (try dsimp only at hSu); go_simp⟩) hHeld ?_
  try simp only [Act.put, List.setIfInBounds_toArray, List.set_cons_zero, List.set_cons_succ]
  refine wpAnyH_take (i := 1) (v := .pointer (some ⟨W.heap.size, 0, none⟩)) rfl (by kernel_rfl) (by kernel_rfl) (by kernel_rfl) (fun _ _ _ h => h) (Or.inl ⟨by rfl, fun u hSu => by (try dsimp only at hSu); go_simp⟩) hHeld ?_
  try simp only [Act.put, List.setIfInBounds_toArray, List.set_cons_zero, List.set_cons_succ]
  refine wpAnyH_take (i := 3) (v := .pointer (some ⟨W.heap.size, 0, none⟩)) rfl (by kernel_rfl) (by kernel_rfl) (by kernel_rfl) (fun _ _ _ h => h) (Or.inl ⟨by rfl, fun u hSu => by (try dsimp only at hSu); go_simp⟩) hHeld ?_
  try simp only [Act.put, List.setIfInBounds_toArray, List.set_cons_zero, List.set_cons_succ]
  refine wpAnyH_ready (rs := [2]) (by kernel_rfl) (by simp) ?_
  refine AllReadyH.cons rfl (fun K' hK => ?_) AllReadyH.nil
  go_simp
  go_at_call 79
  refine (l1Below_any W.heap.size a len cap _ V.drew hcD hBp hk3).mono ?_
  rintro e v0 ⟨y, hy0, hy1, rfl, ho1, hk1⟩
  have hy2 := hy1 (by omega)
  have hbM : Below w.heap.size w v0 := hb3.drew.trans (ho1.below hBp hb3.size)
  have xgM : BoxR v0 g 31 #[.int .i64 x.id, .int .i64 x.ow, .int .i64 x.si, .int .i64 x.zo, .int .i64 x.st, .int .i64 x.po, .int .i64 x.to, .int .i64 x.tr, .int .i64 x.pl, .int .i64 x.mi, .int .i64 x.ma, .bool x.de, .bool x.be] := BoxR.onlyR (w := V.drew) xg ho1 (by omega)
  have xrM : BoxR v0 w.heap.size 31 #[.int .i64 0, .int .i64 0, .int .i64 0, .int .i64 0, .int .i64 0, .int .i64 0, .int .i64 0, .int .i64 0, .int .i64 0, .int .i64 0, .int .i64 0, .bool false, .bool false] := BoxR.onlyR (w := V.drew) xr3 ho1 (by omega)
  refine hK.out _ _ (SK.out _ xgM) (fun hHeld => ?_)
  clear hK ho1 hk3 xg xr3 hb3 hcD hy1
  try simp only [Act.put, List.setIfInBounds_toArray, List.set_cons_zero, List.set_cons_succ]
  refine wpAnyH_ready (rs := [4]) (by kernel_rfl) (by simp) ?_
  refine AllReadyH.cons rfl (fun K' hK => ?_) AllReadyH.nil
  go_simp
  go_at_call 79
  refine (l1Below_any W.heap.size a len cap _ v0 (hc.below hbM) hBp hk1).mono ?_
  rintro e v1 ⟨z, hz0, hz1, rfl, ho2, hk2⟩
  have hz2 := hz1 (by omega)
  have hbN : Below w.heap.size w v1 := hbM.trans (ho2.below hBp hbM.size)
  have xgN : BoxR v1 g 31 #[.int .i64 x.id, .int .i64 x.ow, .int .i64 x.si, .int .i64 x.zo, .int .i64 x.st, .int .i64 x.po, .int .i64 x.to, .int .i64 x.tr, .int .i64 x.pl, .int .i64 x.mi, .int .i64 x.ma, .bool x.de, .bool x.be] := xgM.onlyR ho2 (by omega)
  have xrN : BoxR v1 w.heap.size 31 #[.int .i64 0, .int .i64 0, .int .i64 0, .int .i64 0, .int .i64 0, .int .i64 0, .int .i64 0, .int .i64 0, .int .i64 0, .int .i64 0, .int .i64 0, .bool false, .bool false] := xrM.onlyR ho2 (by omega)
  refine hK.out _ _ (SK.out _ xgN) (fun hHeld => ?_)
  clear hK hk1 ho2 hk2 xgM xrM hbM hz1
  try simp only [Act.put, List.setIfInBounds_toArray, List.set_cons_zero, List.set_cons_succ]
  have hta := there13 xrN
  have xr_ := ((((((((((((xrN.put 0 (.int .i64 x.id)).put 1 (.int .i64 x.ow)).put 2 (.int .i64 x.si)).put 3 (.int .i64 x.zo)).put 4 (.int .i64 x.st)).put 5 (.int .i64 x.po)).put 6 (.int .i64 x.to)).put 7 (.int .i64 x.tr)).put 8 (.int .i64 x.pl)).put 9 (.int .i64 x.mi)).put 10 (.int .i64 x.ma)).put 11 (.bool x.de)).put 12 (.bool x.be)
  have xg_ := ((((((((((((xgN.other (q := ⟨w.heap.size, 0, none⟩) (by simp; omega) (.int .i64 x.id)).other (q := ⟨w.heap.size, 1, none⟩) (by simp; omega) (.int .i64 x.ow)).other (q := ⟨w.heap.size, 2, none⟩) (by simp; omega) (.int .i64 x.si)).other (q := ⟨w.heap.size, 3, none⟩) (by simp; omega) (.int .i64 x.zo)).other (q := ⟨w.heap.size, 4, none⟩) (by simp; omega) (.int .i64 x.st)).other (q := ⟨w.heap.size, 5, none⟩) (by simp; omega) (.int .i64 x.po)).other (q := ⟨w.heap.size, 6, none⟩) (by simp; omega) (.int .i64 x.to)).other (q := ⟨w.heap.size, 7, none⟩) (by simp; omega) (.int .i64 x.tr)).other (q := ⟨w.heap.size, 8, none⟩) (by simp; omega) (.int .i64 x.pl)).other (q := ⟨w.heap.size, 9, none⟩) (by simp; omega) (.int .i64 x.mi)).other (q := ⟨w.heap.size, 10, none⟩) (by simp; omega) (.int .i64 x.ma)).other (q := ⟨w.heap.size, 11, none⟩) (by simp; omega) (.bool x.de)).other (q := ⟨w.heap.size, 12, none⟩) (by simp; omega) (.bool x.be)
  have hb_ := ((((((((((((hbN.setCell (p := ⟨w.heap.size, 0, none⟩) (by simp) (.int .i64 x.id)).setCell (p := ⟨w.heap.size, 1, none⟩) (by simp) (.int .i64 x.ow)).setCell (p := ⟨w.heap.size, 2, none⟩) (by simp) (.int .i64 x.si)).setCell (p := ⟨w.heap.size, 3, none⟩) (by simp) (.int .i64 x.zo)).setCell (p := ⟨w.heap.size, 4, none⟩) (by simp) (.int .i64 x.st)).setCell (p := ⟨w.heap.size, 5, none⟩) (by simp) (.int .i64 x.po)).setCell (p := ⟨w.heap.size, 6, none⟩) (by simp) (.int .i64 x.to)).setCell (p := ⟨w.heap.size, 7, none⟩) (by simp) (.int .i64 x.tr)).setCell (p := ⟨w.heap.size, 8, none⟩) (by simp) (.int .i64 x.pl)).setCell (p := ⟨w.heap.size, 9, none⟩) (by simp) (.int .i64 x.mi)).setCell (p := ⟨w.heap.size, 10, none⟩) (by simp) (.int .i64 x.ma)).setCell (p := ⟨w.heap.size, 11, none⟩) (by simp) (.bool x.de)).setCell (p := ⟨w.heap.size, 12, none⟩) (by simp) (.bool x.be)
  refine wpAnyH_ready (rs := [5]) (by kernel_rfl) (by simp) ?_
  refine AllReadyH.cons rfl (fun K' hK => ?_) AllReadyH.nil
  rw [if_pos (by rfl)]
  refine wp_store_mid 31 (.tmp 2) (.tmp 11) rfl (w.heap.size) 0 #[.int .i64 x.id, .int .i64 x.ow, .int .i64 x.si, .int .i64 x.zo, .int .i64 x.st, .int .i64 x.po, .int .i64 x.to, .int .i64 x.tr, .int .i64 x.pl, .int .i64 x.mi, .int .i64 x.ma, .bool x.de, .bool x.be] (by first | rfl | simp [Act.eval]) rfl hta (by kernel_rfl) (by simp [Value.oneCell']) ?_
  refine hK.out _ _ (SK.out _ xg_) (fun hHeld => ?_)
  clear hK hta
  try simp only [Act.put, List.setIfInBounds_toArray, List.set_cons_zero, List.set_cons_succ]
  generalize hX_ : ((((((((((((v1.setCell ⟨w.heap.size, 0, none⟩ (.int .i64 x.id)).setCell ⟨w.heap.size, 1, none⟩ (.int .i64 x.ow)).setCell ⟨w.heap.size, 2, none⟩ (.int .i64 x.si)).setCell ⟨w.heap.size, 3, none⟩ (.int .i64 x.zo)).setCell ⟨w.heap.size, 4, none⟩ (.int .i64 x.st)).setCell ⟨w.heap.size, 5, none⟩ (.int .i64 x.po)).setCell ⟨w.heap.size, 6, none⟩ (.int .i64 x.to)).setCell ⟨w.heap.size, 7, none⟩ (.int .i64 x.tr)).setCell ⟨w.heap.size, 8, none⟩ (.int .i64 x.pl)).setCell ⟨w.heap.size, 9, none⟩ (.int .i64 x.mi)).setCell ⟨w.heap.size, 10, none⟩ (.int .i64 x.ma)).setCell ⟨w.heap.size, 11, none⟩ (.bool x.de)).setCell ⟨w.heap.size, 12, none⟩ (.bool x.be) = X5 at xr_ xg_ hb_
  (first | rw [show v1.setCells (w.heap.size) 0 (#[.int .i64 x.id, .int .i64 x.ow, .int .i64 x.si, .int .i64 x.zo, .int .i64 x.st, .int .i64 x.po, .int .i64 x.to, .int .i64 x.tr, .int .i64 x.pl, .int .i64 x.mi, .int .i64 x.ma, .bool x.de, .bool x.be] : Array Value).toList = X5 from hX_] at hHeld ⊢ | skip)
  clear hX_
  clear xrN
  have xrN := xr_
  clear xr_
  clear xgN
  have xgN := xg_
  clear xg_
  clear hbN
  have hbN := hb_
  clear hb_
  simp only [List.setIfInBounds_toArray, List.set_cons_zero, List.set_cons_succ] at xrN
  refine wpAnyH_ready (rs := [6]) (by kernel_rfl) (by simp) ?_
  refine AllReadyH.cons rfl (fun K' hK => ?_) AllReadyH.nil
  go_simp
  refine hK.out _ _ (SK.out _ xgN) (fun hHeld => ?_)
  clear hK
  try simp only [Act.put, List.setIfInBounds_toArray, List.set_cons_zero, List.set_cons_succ]
  refine wpAnyH_ready (rs := [7]) (by kernel_rfl) (by simp) ?_
  refine AllReadyH.cons rfl (fun K' hK => ?_) AllReadyH.nil
  go_simp
  refine hK.out _ _ (SK.out _ xgN) (fun hHeld => ?_)
  clear hK
  try simp only [Act.put, List.setIfInBounds_toArray, List.set_cons_zero, List.set_cons_succ]
  refine wpAnyH_done (by kernel_rfl) ?_ _
  try simp only [Act.put, List.setIfInBounds_toArray, List.set_cons_zero, List.set_cons_succ]
  clear hHeld SK
  go_wp2
  (try simp only [Exit.inBlock, Exit.then]); refine bodyPost_ret (results_row2 rfl _ _ w.heap.size _ _ _ _ rfl xrN Try.underlying31 rfl (by kernel_rfl)) rfl ?_
  exact ⟨x, y, z, hy0, hy2, hz0, hz2, rfl, hbN⟩
set_option maxHeartbeats 2000000 in
theorem drawSamePiece_any (a : Option Addr) (len cap : Nat) (w : World) (hc : Code w a len w.heap.size) :
    Calls Try.prog 26 #[.slice a len cap] w fun e w' => ∃ (x y : Pc), e = .returned (.tuple #[(.agg #[.int .i64 x.id, .int .i64 x.ow, .int .i64 x.si, .int .i64 x.zo, .int .i64 x.st, .int .i64 x.po, .int .i64 x.to, .int .i64 x.tr, .int .i64 x.pl, .int .i64 x.mi, .int .i64 x.ma, .bool x.de, .bool x.be]), (.agg #[.int .i64 y.id, .int .i64 y.ow, .int .i64 y.si, .int .i64 y.zo, .int .i64 y.st, .int .i64 y.po, .int .i64 y.to, .int .i64 y.tr, .int .i64 y.pl, .int .i64 y.mi, .int .i64 y.ma, .bool y.de, .bool y.be])]) ∧ Below w.heap.size w w' := by
  have hb0 := ((Below.refl _ w).alloc (Nat.le_refl _) (.cells #[.int .i64 0, .int .i64 0, .int .i64 0, .int .i64 0, .int .i64 0, .int .i64 0, .int .i64 0, .int .i64 0, .int .i64 0, .int .i64 0, .int .i64 0, .bool false, .bool false] 31)).alloc (by simp) (.cells #[.int .i64 0, .int .i64 0, .int .i64 0, .int .i64 0, .int .i64 0, .int .i64 0, .int .i64 0, .int .i64 0, .int .i64 0, .int .i64 0, .int .i64 0, .bool false, .bool false] 31)
  have xr := (boxR_new w 31 #[.int .i64 0, .int .i64 0, .int .i64 0, .int .i64 0, .int .i64 0, .int .i64 0, .int .i64 0, .int .i64 0, .int .i64 0, .int .i64 0, .int .i64 0, .bool false, .bool false]).alloc (.cells #[.int .i64 0, .int .i64 0, .int .i64 0, .int .i64 0, .int .i64 0, .int .i64 0, .int .i64 0, .int .i64 0, .int .i64 0, .int .i64 0, .int .i64 0, .bool false, .bool false] 31)
  have xq : BoxR ((w.alloc (.cells #[.int .i64 0, .int .i64 0, .int .i64 0, .int .i64 0, .int .i64 0, .int .i64 0, .int .i64 0, .int .i64 0, .int .i64 0, .int .i64 0, .int .i64 0, .bool false, .bool false] 31)).alloc (.cells #[.int .i64 0, .int .i64 0, .int .i64 0, .int .i64 0, .int .i64 0, .int .i64 0, .int .i64 0, .int .i64 0, .int .i64 0, .int .i64 0, .int .i64 0, .bool false, .bool false] 31)) (w.heap.size + 1) 31 #[.int .i64 0, .int .i64 0, .int .i64 0, .int .i64 0, .int .i64 0, .int .i64 0, .int .i64 0, .int .i64 0, .int .i64 0, .int .i64 0, .int .i64 0, .bool false, .bool false] := heap_alloc2_new _ _ _
  generalize hW : (w.alloc (.cells #[.int .i64 0, .int .i64 0, .int .i64 0, .int .i64 0, .int .i64 0, .int .i64 0, .int .i64 0, .int .i64 0, .int .i64 0, .int .i64 0, .int .i64 0, .bool false, .bool false] 31)).alloc (.cells #[.int .i64 0, .int .i64 0, .int .i64 0, .int .i64 0, .int .i64 0, .int .i64 0, .int .i64 0, .int .i64 0, .int .i64 0, .int .i64 0, .int .i64 0, .bool false, .bool false] 31) = W at hb0 xr xq
  have hrz : w.heap.size + 1 < W.heap.size := xq.lt
  go_enter Try.func26, Try.ntmps26
  go_wp2_with fail
  clear hW
  refine (l1New_any a len cap _ (hc.below hb0)).mono ?_
  rintro e w1 ⟨h, rfl, hw⟩
  have hb : Below w.heap.size w w1 := by rw [hw]; exact hb0.alloc hb0.size _
  have hk : Cur w1 W.heap.size a len cap := by rw [hw]; exact Cur.made W a len cap h _
  have xr1 : BoxR w1 w.heap.size 31 #[.int .i64 0, .int .i64 0, .int .i64 0, .int .i64 0, .int .i64 0, .int .i64 0, .int .i64 0, .int .i64 0, .int .i64 0, .int .i64 0, .int .i64 0, .bool false, .bool false] := by rw [hw]; exact xr.alloc _
  have xq1 : BoxR w1 (w.heap.size + 1) 31 #[.int .i64 0, .int .i64 0, .int .i64 0, .int .i64 0, .int .i64 0, .int .i64 0, .int .i64 0, .int .i64 0, .int .i64 0, .int .i64 0, .int .i64 0, .bool false, .bool false] := by rw [hw]; exact xq.alloc _
  have hBp : w.heap.size ≤ W.heap.size := by omega
  clear hw xr
  go_wp2_with fail
  refine (l4Draw_any W.heap.size a len cap 1 _ (hc.below hb) hBp hk).mono ?_
  rintro e w2 ⟨x, _, rfl, ho, hk2⟩
  have hb2 := hb.trans (ho.below hBp hb.size)
  have xr2 := xr1.onlyR ho (by omega)
  have xq2 := xq1.onlyR ho (by omega)
  clear hb ho hk xr1
  have xg := boxR_new w2 31 #[.int .i64 x.id, .int .i64 x.ow, .int .i64 x.si, .int .i64 x.zo, .int .i64 x.st, .int .i64 x.po, .int .i64 x.to, .int .i64 x.tr, .int .i64 x.pl, .int .i64 x.mi, .int .i64 x.ma, .bool x.de, .bool x.be]
  have hbV := below_new2'' w2 (.cells #[.int .i64 x.id, .int .i64 x.ow, .int .i64 x.si, .int .i64 x.zo, .int .i64 x.st, .int .i64 x.po, .int .i64 x.to, .int .i64 x.tr, .int .i64 x.pl, .int .i64 x.mi, .int .i64 x.ma, .bool x.de, .bool x.be] 31)
  have hgz : W.heap.size < w2.heap.size := hk2.1
  generalize hV : w2.alloc (.cells #[.int .i64 x.id, .int .i64 x.ow, .int .i64 x.si, .int .i64 x.zo, .int .i64 x.st, .int .i64 x.po, .int .i64 x.to, .int .i64 x.tr, .int .i64 x.pl, .int .i64 x.mi, .int .i64 x.ma, .bool x.de, .bool x.be] 31) = V at xg hbV
  obtain ⟨g, hg⟩ : ∃ g, Hid (w2.heap.size = g) := ⟨w2.heap.size, (rfl : w2.heap.size = w2.heap.size)⟩
  have hb3 := below_app hb2 hbV hb2.size
  have xr3 := xr2.grew hbV
  have xq3 := xq2.grew hbV
  have hk3 : Cur V W.heap.size a len cap := hk2.same (hbV.block _ hk2.1) hbV.size
  clear hb2 hbV xr2 hk2
  go_wp2_with fail
  clear hV
  refine (l1Once_any W.heap.size a len cap _ _ (hc.below hb3) hBp hk3).mono ?_
  rintro e V1 ⟨bb, rfl, ho, hk4⟩
  rw [hg.out]
  have hgw : W.heap.size < g := by rw [← hg.out]; exact hgz
  rw [hg.out] at xg
  clear hgz hg
  have hb4 := hb3.trans (ho.below hBp hb3.size)
  replace xr3 := xr3.onlyR ho (by omega)
  replace xq3 := xq3.onlyR ho (by omega)
  replace xg := xg.onlyR ho (by omega)
  clear hb3 hk3 ho
  have SK : Hid (∀ u : World, BoxR u g 31 #[.int .i64 x.id, .int .i64 x.ow, .int .i64 x.si, .int .i64 x.zo, .int .i64 x.st, .int .i64 x.po, .int .i64 x.to, .int .i64 x.tr, .int .i64 x.pl, .int .i64 x.mi, .int .i64 x.ma, .bool x.de, .bool x.be] → u.cell? ⟨g, 0, none⟩ = some (.int .i64 x.id) ∧ u.cell? ⟨g, 1, none⟩ = some (.int .i64 x.ow) ∧ u.cell? ⟨g, 2, none⟩ = some (.int .i64 x.si) ∧ u.cell? ⟨g, 3, none⟩ = some (.int .i64 x.zo) ∧ u.cell? ⟨g, 4, none⟩ = some (.int .i64 x.st) ∧ u.cell? ⟨g, 5, none⟩ = some (.int .i64 x.po) ∧ u.cell? ⟨g, 6, none⟩ = some (.int .i64 x.to) ∧ u.cell? ⟨g, 7, none⟩ = some (.int .i64 x.tr) ∧ u.cell? ⟨g, 8, none⟩ = some (.int .i64 x.pl) ∧ u.cell? ⟨g, 9, none⟩ = some (.int .i64 x.mi) ∧ u.cell? ⟨g, 10, none⟩ = some (.int .i64 x.ma) ∧ u.cell? ⟨g, 11, none⟩ = some (.bool x.de) ∧ u.cell? ⟨g, 12, none⟩ = some (.bool x.be)) := fun u h => ⟨h.cell 0, h.cell 1, h.cell 2, h.cell 3, h.cell 4, h.cell 5, h.cell 6, h.cell 7, h.cell 8, h.cell 9, h.cell 10, h.cell 11, h.cell 12⟩
  have hcD : Code V1.drew a len w.heap.size := hc.below hb4.drew
  cases bb
  case false =>
    go_wp2_with fail
    refine wp_region_held_drew (S := fun u : World => u.cell? ⟨g, 0, none⟩ = some (.int .i64 x.id) ∧ u.cell? ⟨g, 1, none⟩ = some (.int .i64 x.ow) ∧ u.cell? ⟨g, 2, none⟩ = some (.int .i64 x.si) ∧ u.cell? ⟨g, 3, none⟩ = some (.int .i64 x.zo) ∧ u.cell? ⟨g, 4, none⟩ = some (.int .i64 x.st) ∧ u.cell? ⟨g, 5, none⟩ = some (.int .i64 x.po) ∧ u.cell? ⟨g, 6, none⟩ = some (.int .i64 x.to) ∧ u.cell? ⟨g, 7, none⟩ = some (.int .i64 x.tr) ∧ u.cell? ⟨g, 8, none⟩ = some (.int .i64 x.pl) ∧ u.cell? ⟨g, 9, none⟩ = some (.int .i64 x.mi) ∧ u.cell? ⟨g, 10, none⟩ = some (.int .i64 x.ma) ∧ u.cell? ⟨g, 11, none⟩ = some (.bool x.de) ∧ u.cell? ⟨g, 12, none⟩ = some (.bool x.be)) (by kernel_rfl) (SK.out V1.drew xg) (fun hHeld => ?_)
    refine wpAnyH_take (i := 0) (v := (.agg #[.int .i64 x.id, .int .i64 x.ow, .int .i64 x.si, .int .i64 x.zo, .int .i64 x.st, .int .i64 x.po, .int .i64 x.to, .int .i64 x.tr, .int .i64 x.pl, .int .i64 x.mi, .int .i64 x.ma, .bool x.de, .bool x.be])) rfl (by kernel_rfl) (by kernel_rfl) (by kernel_rfl) (fun _ _ _ h => h) (Or.inl ⟨by rfl, fun u hSu => by (try dsimp only at hSu); go_simp⟩) hHeld ?_
    try simp only [Act.put, List.setIfInBounds_toArray, List.set_cons_zero, List.set_cons_succ]
    refine wpAnyH_take (i := 1) (v := .pointer (some ⟨W.heap.size, 0, none⟩)) rfl (by kernel_rfl) (by kernel_rfl) (by kernel_rfl) (fun _ _ _ h => h) (Or.inl ⟨by rfl, fun u hSu => by (try dsimp only at hSu); go_simp⟩) hHeld ?_
    try simp only [Act.put, List.setIfInBounds_toArray, List.set_cons_zero, List.set_cons_succ]
    refine wpAnyH_ready (rs := [2]) (by kernel_rfl) (by simp) ?_
    refine AllReadyH.cons rfl (fun K' hK => ?_) AllReadyH.nil
    go_simp
    go_at_call 80
    refine (l4Draw_any W.heap.size a len cap 1 V1.drew hcD hBp hk4).mono ?_
    rintro e v1 ⟨y, _, rfl, ho1, hk1⟩
    have hbN : Below w.heap.size w v1 := hb4.drew.trans (ho1.below hBp hb4.size)
    have xgN : BoxR v1 g 31 #[.int .i64 x.id, .int .i64 x.ow, .int .i64 x.si, .int .i64 x.zo, .int .i64 x.st, .int .i64 x.po, .int .i64 x.to, .int .i64 x.tr, .int .i64 x.pl, .int .i64 x.mi, .int .i64 x.ma, .bool x.de, .bool x.be] := BoxR.onlyR (w := V1.drew) xg ho1 (by omega)
    have xrN : BoxR v1 w.heap.size 31 #[.int .i64 0, .int .i64 0, .int .i64 0, .int .i64 0, .int .i64 0, .int .i64 0, .int .i64 0, .int .i64 0, .int .i64 0, .int .i64 0, .int .i64 0, .bool false, .bool false] := BoxR.onlyR (w := V1.drew) xr3 ho1 (by omega)
    have xqN : BoxR v1 (w.heap.size + 1) 31 #[.int .i64 0, .int .i64 0, .int .i64 0, .int .i64 0, .int .i64 0, .int .i64 0, .int .i64 0, .int .i64 0, .int .i64 0, .int .i64 0, .int .i64 0, .bool false, .bool false] := BoxR.onlyR (w := V1.drew) xq3 ho1 (by omega)
    refine hK.out _ _ (SK.out _ xgN) (fun hHeld => ?_)
    clear hK hk1 ho1 hk4 xg xr3 xq3 hb4 hcD
    try simp only [Act.put, List.setIfInBounds_toArray, List.set_cons_zero, List.set_cons_succ]
    have hta := there13 xrN
    have xr_ := ((((((((((((xrN.put 0 (.int .i64 x.id)).put 1 (.int .i64 x.ow)).put 2 (.int .i64 x.si)).put 3 (.int .i64 x.zo)).put 4 (.int .i64 x.st)).put 5 (.int .i64 x.po)).put 6 (.int .i64 x.to)).put 7 (.int .i64 x.tr)).put 8 (.int .i64 x.pl)).put 9 (.int .i64 x.mi)).put 10 (.int .i64 x.ma)).put 11 (.bool x.de)).put 12 (.bool x.be)
    have xq_ := ((((((((((((xqN.other (q := ⟨w.heap.size, 0, none⟩) (by simp) (.int .i64 x.id)).other (q := ⟨w.heap.size, 1, none⟩) (by simp) (.int .i64 x.ow)).other (q := ⟨w.heap.size, 2, none⟩) (by simp) (.int .i64 x.si)).other (q := ⟨w.heap.size, 3, none⟩) (by simp) (.int .i64 x.zo)).other (q := ⟨w.heap.size, 4, none⟩) (by simp) (.int .i64 x.st)).other (q := ⟨w.heap.size, 5, none⟩) (by simp) (.int .i64 x.po)).other (q := ⟨w.heap.size, 6, none⟩) (by simp) (.int .i64 x.to)).other (q := ⟨w.heap.size, 7, none⟩) (by simp) (.int .i64 x.tr)).other (q := ⟨w.heap.size, 8, none⟩) (by simp) (.int .i64 x.pl)).other (q := ⟨w.heap.size, 9, none⟩) (by simp) (.int .i64 x.mi)).other (q := ⟨w.heap.size, 10, none⟩) (by simp) (.int .i64 x.ma)).other (q := ⟨w.heap.size, 11, none⟩) (by simp) (.bool x.de)).other (q := ⟨w.heap.size, 12, none⟩) (by simp) (.bool x.be)
    have xg_ := ((((((((((((xgN.other (q := ⟨w.heap.size, 0, none⟩) (by simp; omega) (.int .i64 x.id)).other (q := ⟨w.heap.size, 1, none⟩) (by simp; omega) (.int .i64 x.ow)).other (q := ⟨w.heap.size, 2, none⟩) (by simp; omega) (.int .i64 x.si)).other (q := ⟨w.heap.size, 3, none⟩) (by simp; omega) (.int .i64 x.zo)).other (q := ⟨w.heap.size, 4, none⟩) (by simp; omega) (.int .i64 x.st)).other (q := ⟨w.heap.size, 5, none⟩) (by simp; omega) (.int .i64 x.po)).other (q := ⟨w.heap.size, 6, none⟩) (by simp; omega) (.int .i64 x.to)).other (q := ⟨w.heap.size, 7, none⟩) (by simp; omega) (.int .i64 x.tr)).other (q := ⟨w.heap.size, 8, none⟩) (by simp; omega) (.int .i64 x.pl)).other (q := ⟨w.heap.size, 9, none⟩) (by simp; omega) (.int .i64 x.mi)).other (q := ⟨w.heap.size, 10, none⟩) (by simp; omega) (.int .i64 x.ma)).other (q := ⟨w.heap.size, 11, none⟩) (by simp; omega) (.bool x.de)).other (q := ⟨w.heap.size, 12, none⟩) (by simp; omega) (.bool x.be)
    have hb_ := ((((((((((((hbN.setCell (p := ⟨w.heap.size, 0, none⟩) (by simp) (.int .i64 x.id)).setCell (p := ⟨w.heap.size, 1, none⟩) (by simp) (.int .i64 x.ow)).setCell (p := ⟨w.heap.size, 2, none⟩) (by simp) (.int .i64 x.si)).setCell (p := ⟨w.heap.size, 3, none⟩) (by simp) (.int .i64 x.zo)).setCell (p := ⟨w.heap.size, 4, none⟩) (by simp) (.int .i64 x.st)).setCell (p := ⟨w.heap.size, 5, none⟩) (by simp) (.int .i64 x.po)).setCell (p := ⟨w.heap.size, 6, none⟩) (by simp) (.int .i64 x.to)).setCell (p := ⟨w.heap.size, 7, none⟩) (by simp) (.int .i64 x.tr)).setCell (p := ⟨w.heap.size, 8, none⟩) (by simp) (.int .i64 x.pl)).setCell (p := ⟨w.heap.size, 9, none⟩) (by simp) (.int .i64 x.mi)).setCell (p := ⟨w.heap.size, 10, none⟩) (by simp) (.int .i64 x.ma)).setCell (p := ⟨w.heap.size, 11, none⟩) (by simp) (.bool x.de)).setCell (p := ⟨w.heap.size, 12, none⟩) (by simp) (.bool x.be)
    refine wpAnyH_ready (rs := [3]) (by kernel_rfl) (by simp) ?_
    refine AllReadyH.cons rfl (fun K' hK => ?_) AllReadyH.nil
    rw [if_pos (by rfl)]
    refine wp_store_mid 31 (.tmp 2) (.tmp 14) rfl (w.heap.size) 0 #[.int .i64 x.id, .int .i64 x.ow, .int .i64 x.si, .int .i64 x.zo, .int .i64 x.st, .int .i64 x.po, .int .i64 x.to, .int .i64 x.tr, .int .i64 x.pl, .int .i64 x.mi, .int .i64 x.ma, .bool x.de, .bool x.be] (by first | rfl | simp [Act.eval]) rfl hta (by kernel_rfl) (by simp [Value.oneCell']) ?_
    refine hK.out _ _ (SK.out _ xg_) (fun hHeld => ?_)
    clear hK hta
    try simp only [Act.put, List.setIfInBounds_toArray, List.set_cons_zero, List.set_cons_succ]
    generalize hX_ : ((((((((((((v1.setCell ⟨w.heap.size, 0, none⟩ (.int .i64 x.id)).setCell ⟨w.heap.size, 1, none⟩ (.int .i64 x.ow)).setCell ⟨w.heap.size, 2, none⟩ (.int .i64 x.si)).setCell ⟨w.heap.size, 3, none⟩ (.int .i64 x.zo)).setCell ⟨w.heap.size, 4, none⟩ (.int .i64 x.st)).setCell ⟨w.heap.size, 5, none⟩ (.int .i64 x.po)).setCell ⟨w.heap.size, 6, none⟩ (.int .i64 x.to)).setCell ⟨w.heap.size, 7, none⟩ (.int .i64 x.tr)).setCell ⟨w.heap.size, 8, none⟩ (.int .i64 x.pl)).setCell ⟨w.heap.size, 9, none⟩ (.int .i64 x.mi)).setCell ⟨w.heap.size, 10, none⟩ (.int .i64 x.ma)).setCell ⟨w.heap.size, 11, none⟩ (.bool x.de)).setCell ⟨w.heap.size, 12, none⟩ (.bool x.be) = X5 at xr_ xq_ xg_ hb_
    (first | rw [show v1.setCells (w.heap.size) 0 (#[.int .i64 x.id, .int .i64 x.ow, .int .i64 x.si, .int .i64 x.zo, .int .i64 x.st, .int .i64 x.po, .int .i64 x.to, .int .i64 x.tr, .int .i64 x.pl, .int .i64 x.mi, .int .i64 x.ma, .bool x.de, .bool x.be] : Array Value).toList = X5 from hX_] at hHeld ⊢ | skip)
    clear hX_
    clear xrN
    have xrN := xr_
    clear xr_
    clear xqN
    have xqN := xq_
    clear xq_
    clear xgN
    have xgN := xg_
    clear xg_
    clear hbN
    have hbN := hb_
    clear hb_
    simp only [List.setIfInBounds_toArray, List.set_cons_zero, List.set_cons_succ] at xrN
    have hta := there13 xqN
    have xr_ := ((((((((((((xrN.other (q := ⟨w.heap.size + 1, 0, none⟩) (by simp) (.int .i64 y.id)).other (q := ⟨w.heap.size + 1, 1, none⟩) (by simp) (.int .i64 y.ow)).other (q := ⟨w.heap.size + 1, 2, none⟩) (by simp) (.int .i64 y.si)).other (q := ⟨w.heap.size + 1, 3, none⟩) (by simp) (.int .i64 y.zo)).other (q := ⟨w.heap.size + 1, 4, none⟩) (by simp) (.int .i64 y.st)).other (q := ⟨w.heap.size + 1, 5, none⟩) (by simp) (.int .i64 y.po)).other (q := ⟨w.heap.size + 1, 6, none⟩) (by simp) (.int .i64 y.to)).other (q := ⟨w.heap.size + 1, 7, none⟩) (by simp) (.int .i64 y.tr)).other (q := ⟨w.heap.size + 1, 8, none⟩) (by simp) (.int .i64 y.pl)).other (q := ⟨w.heap.size + 1, 9, none⟩) (by simp) (.int .i64 y.mi)).other (q := ⟨w.heap.size + 1, 10, none⟩) (by simp) (.int .i64 y.ma)).other (q := ⟨w.heap.size + 1, 11, none⟩) (by simp) (.bool y.de)).other (q := ⟨w.heap.size + 1, 12, none⟩) (by simp) (.bool y.be)
    have xq_ := ((((((((((((xqN.put 0 (.int .i64 y.id)).put 1 (.int .i64 y.ow)).put 2 (.int .i64 y.si)).put 3 (.int .i64 y.zo)).put 4 (.int .i64 y.st)).put 5 (.int .i64 y.po)).put 6 (.int .i64 y.to)).put 7 (.int .i64 y.tr)).put 8 (.int .i64 y.pl)).put 9 (.int .i64 y.mi)).put 10 (.int .i64 y.ma)).put 11 (.bool y.de)).put 12 (.bool y.be)
    have xg_ := ((((((((((((xgN.other (q := ⟨w.heap.size + 1, 0, none⟩) (by simp; omega) (.int .i64 y.id)).other (q := ⟨w.heap.size + 1, 1, none⟩) (by simp; omega) (.int .i64 y.ow)).other (q := ⟨w.heap.size + 1, 2, none⟩) (by simp; omega) (.int .i64 y.si)).other (q := ⟨w.heap.size + 1, 3, none⟩) (by simp; omega) (.int .i64 y.zo)).other (q := ⟨w.heap.size + 1, 4, none⟩) (by simp; omega) (.int .i64 y.st)).other (q := ⟨w.heap.size + 1, 5, none⟩) (by simp; omega) (.int .i64 y.po)).other (q := ⟨w.heap.size + 1, 6, none⟩) (by simp; omega) (.int .i64 y.to)).other (q := ⟨w.heap.size + 1, 7, none⟩) (by simp; omega) (.int .i64 y.tr)).other (q := ⟨w.heap.size + 1, 8, none⟩) (by simp; omega) (.int .i64 y.pl)).other (q := ⟨w.heap.size + 1, 9, none⟩) (by simp; omega) (.int .i64 y.mi)).other (q := ⟨w.heap.size + 1, 10, none⟩) (by simp; omega) (.int .i64 y.ma)).other (q := ⟨w.heap.size + 1, 11, none⟩) (by simp; omega) (.bool y.de)).other (q := ⟨w.heap.size + 1, 12, none⟩) (by simp; omega) (.bool y.be)
    have hb_ := ((((((((((((hbN.setCell (p := ⟨w.heap.size + 1, 0, none⟩) (by simp) (.int .i64 y.id)).setCell (p := ⟨w.heap.size + 1, 1, none⟩) (by simp) (.int .i64 y.ow)).setCell (p := ⟨w.heap.size + 1, 2, none⟩) (by simp) (.int .i64 y.si)).setCell (p := ⟨w.heap.size + 1, 3, none⟩) (by simp) (.int .i64 y.zo)).setCell (p := ⟨w.heap.size + 1, 4, none⟩) (by simp) (.int .i64 y.st)).setCell (p := ⟨w.heap.size + 1, 5, none⟩) (by simp) (.int .i64 y.po)).setCell (p := ⟨w.heap.size + 1, 6, none⟩) (by simp) (.int .i64 y.to)).setCell (p := ⟨w.heap.size + 1, 7, none⟩) (by simp) (.int .i64 y.tr)).setCell (p := ⟨w.heap.size + 1, 8, none⟩) (by simp) (.int .i64 y.pl)).setCell (p := ⟨w.heap.size + 1, 9, none⟩) (by simp) (.int .i64 y.mi)).setCell (p := ⟨w.heap.size + 1, 10, none⟩) (by simp) (.int .i64 y.ma)).setCell (p := ⟨w.heap.size + 1, 11, none⟩) (by simp) (.bool y.de)).setCell (p := ⟨w.heap.size + 1, 12, none⟩) (by simp) (.bool y.be)
    refine wpAnyH_ready (rs := [4]) (by kernel_rfl) (by simp) ?_
    refine AllReadyH.cons rfl (fun K' hK => ?_) AllReadyH.nil
    rw [if_pos (by rfl)]
    refine wp_store_mid 31 (.tmp 3) (.tmp 16) rfl (w.heap.size + 1) 0 #[.int .i64 y.id, .int .i64 y.ow, .int .i64 y.si, .int .i64 y.zo, .int .i64 y.st, .int .i64 y.po, .int .i64 y.to, .int .i64 y.tr, .int .i64 y.pl, .int .i64 y.mi, .int .i64 y.ma, .bool y.de, .bool y.be] (by first | rfl | simp [Act.eval]) rfl hta (by kernel_rfl) (by simp [Value.oneCell']) ?_
    refine hK.out _ _ (SK.out _ xg_) (fun hHeld => ?_)
    clear hK hta
    try simp only [Act.put, List.setIfInBounds_toArray, List.set_cons_zero, List.set_cons_succ]
    generalize hX_ : ((((((((((((X5.setCell ⟨w.heap.size + 1, 0, none⟩ (.int .i64 y.id)).setCell ⟨w.heap.size + 1, 1, none⟩ (.int .i64 y.ow)).setCell ⟨w.heap.size + 1, 2, none⟩ (.int .i64 y.si)).setCell ⟨w.heap.size + 1, 3, none⟩ (.int .i64 y.zo)).setCell ⟨w.heap.size + 1, 4, none⟩ (.int .i64 y.st)).setCell ⟨w.heap.size + 1, 5, none⟩ (.int .i64 y.po)).setCell ⟨w.heap.size + 1, 6, none⟩ (.int .i64 y.to)).setCell ⟨w.heap.size + 1, 7, none⟩ (.int .i64 y.tr)).setCell ⟨w.heap.size + 1, 8, none⟩ (.int .i64 y.pl)).setCell ⟨w.heap.size + 1, 9, none⟩ (.int .i64 y.mi)).setCell ⟨w.heap.size + 1, 10, none⟩ (.int .i64 y.ma)).setCell ⟨w.heap.size + 1, 11, none⟩ (.bool y.de)).setCell ⟨w.heap.size + 1, 12, none⟩ (.bool y.be) = X6 at xr_ xq_ xg_ hb_
    (first | rw [show X5.setCells (w.heap.size + 1) 0 (#[.int .i64 y.id, .int .i64 y.ow, .int .i64 y.si, .int .i64 y.zo, .int .i64 y.st, .int .i64 y.po, .int .i64 y.to, .int .i64 y.tr, .int .i64 y.pl, .int .i64 y.mi, .int .i64 y.ma, .bool y.de, .bool y.be] : Array Value).toList = X6 from hX_] at hHeld ⊢ | skip)
    clear hX_
    clear xrN
    have xrN := xr_
    clear xr_
    clear xqN
    have xqN := xq_
    clear xq_
    clear xgN
    have xgN := xg_
    clear xg_
    clear hbN
    have hbN := hb_
    clear hb_
    simp only [List.setIfInBounds_toArray, List.set_cons_zero, List.set_cons_succ] at xqN
    refine wpAnyH_done (by kernel_rfl) ?_ _
    try simp only [Act.put, List.setIfInBounds_toArray, List.set_cons_zero, List.set_cons_succ]
    clear hHeld SK
    go_wp2
    (try simp only [Exit.inBlock, Exit.then]); refine bodyPost_ret (results_rowE rfl _ _ w.heap.size (w.heap.size + 1) _ _ _ _ _ _ _ _ rfl xrN Try.underlying31 rfl (by kernel_rfl) rfl xqN Try.underlying31 rfl (by kernel_rfl)) rfl ?_
    exact ⟨x, y, rfl, hbN⟩
  case true =>
    go_wp2_with fail
    refine wp_region_held_drew (S := fun u : World => u.cell? ⟨g, 0, none⟩ = some (.int .i64 x.id) ∧ u.cell? ⟨g, 1, none⟩ = some (.int .i64 x.ow) ∧ u.cell? ⟨g, 2, none⟩ = some (.int .i64 x.si) ∧ u.cell? ⟨g, 3, none⟩ = some (.int .i64 x.zo) ∧ u.cell? ⟨g, 4, none⟩ = some (.int .i64 x.st) ∧ u.cell? ⟨g, 5, none⟩ = some (.int .i64 x.po) ∧ u.cell? ⟨g, 6, none⟩ = some (.int .i64 x.to) ∧ u.cell? ⟨g, 7, none⟩ = some (.int .i64 x.tr) ∧ u.cell? ⟨g, 8, none⟩ = some (.int .i64 x.pl) ∧ u.cell? ⟨g, 9, none⟩ = some (.int .i64 x.mi) ∧ u.cell? ⟨g, 10, none⟩ = some (.int .i64 x.ma) ∧ u.cell? ⟨g, 11, none⟩ = some (.bool x.de) ∧ u.cell? ⟨g, 12, none⟩ = some (.bool x.be)) (by kernel_rfl) (SK.out V1.drew xg) (fun hHeld => ?_)
    refine wpAnyH_take (i := 0) (oi := ⟨some 12, .load 31 (.tmp 5), 31, _, _, none⟩) (v := (.agg #[.int .i64 x.id, .int .i64 x.ow, .int .i64 x.si, .int .i64 x.zo, .int .i64 x.st, .int .i64 x.po, .int .i64 x.to, .int .i64 x.tr, .int .i64 x.pl, .int .i64 x.mi, .int .i64 x.ma, .bool x.de, .bool x.be])) rfl (by kernel_rfl) (by kernel_rfl) (by kernel_rfl) (fun _ _ _ h => h) (Or.inl ⟨by rfl, fun u hSu => by (try dsimp only at hSu); go_simp⟩) hHeld ?_
    try simp only [Act.put, List.setIfInBounds_toArray, List.set_cons_zero, List.set_cons_succ]
    refine wpAnyH_take (i := 1) (oi := ⟨some 13, .load 31 (.tmp 5), 31, _, _, none⟩) (v := (.agg #[.int .i64 x.id, .int .i64 x.ow, .int .i64 x.si, .int .i64 x.zo, .int .i64 x.st, .int .i64 x.po, .int .i64 x.to, .int .i64 x.tr, .int .i64 x.pl, .int .i64 x.mi, .int .i64 x.ma, .bool x.de, .bool x.be])) rfl (by kernel_rfl) (by kernel_rfl) (by kernel_rfl) (fun _ _ _ h => h) (Or.inl ⟨by rfl, fun u hSu => by (try dsimp only at hSu); go_simp⟩) hHeld ?_
    try simp only [Act.put, List.setIfInBounds_toArray, List.set_cons_zero, List.set_cons_succ]
    have hbN : Below w.heap.size w V1.drew := hb4.drew
    have xgN : BoxR V1.drew g 31 #[.int .i64 x.id, .int .i64 x.ow, .int .i64 x.si, .int .i64 x.zo, .int .i64 x.st, .int .i64 x.po, .int .i64 x.to, .int .i64 x.tr, .int .i64 x.pl, .int .i64 x.mi, .int .i64 x.ma, .bool x.de, .bool x.be] := xg
    have xrN : BoxR V1.drew w.heap.size 31 #[.int .i64 0, .int .i64 0, .int .i64 0, .int .i64 0, .int .i64 0, .int .i64 0, .int .i64 0, .int .i64 0, .int .i64 0, .int .i64 0, .int .i64 0, .bool false, .bool false] := xr3
    have xqN : BoxR V1.drew (w.heap.size + 1) 31 #[.int .i64 0, .int .i64 0, .int .i64 0, .int .i64 0, .int .i64 0, .int .i64 0, .int .i64 0, .int .i64 0, .int .i64 0, .int .i64 0, .int .i64 0, .bool false, .bool false] := xq3
    clear xg xr3 xq3 hb4 hcD hk4
    have hta := there13 xrN
    have xr_ := ((((((((((((xrN.put 0 (.int .i64 x.id)).put 1 (.int .i64 x.ow)).put 2 (.int .i64 x.si)).put 3 (.int .i64 x.zo)).put 4 (.int .i64 x.st)).put 5 (.int .i64 x.po)).put 6 (.int .i64 x.to)).put 7 (.int .i64 x.tr)).put 8 (.int .i64 x.pl)).put 9 (.int .i64 x.mi)).put 10 (.int .i64 x.ma)).put 11 (.bool x.de)).put 12 (.bool x.be)
    have xq_ := ((((((((((((xqN.other (q := ⟨w.heap.size, 0, none⟩) (by simp) (.int .i64 x.id)).other (q := ⟨w.heap.size, 1, none⟩) (by simp) (.int .i64 x.ow)).other (q := ⟨w.heap.size, 2, none⟩) (by simp) (.int .i64 x.si)).other (q := ⟨w.heap.size, 3, none⟩) (by simp) (.int .i64 x.zo)).other (q := ⟨w.heap.size, 4, none⟩) (by simp) (.int .i64 x.st)).other (q := ⟨w.heap.size, 5, none⟩) (by simp) (.int .i64 x.po)).other (q := ⟨w.heap.size, 6, none⟩) (by simp) (.int .i64 x.to)).other (q := ⟨w.heap.size, 7, none⟩) (by simp) (.int .i64 x.tr)).other (q := ⟨w.heap.size, 8, none⟩) (by simp) (.int .i64 x.pl)).other (q := ⟨w.heap.size, 9, none⟩) (by simp) (.int .i64 x.mi)).other (q := ⟨w.heap.size, 10, none⟩) (by simp) (.int .i64 x.ma)).other (q := ⟨w.heap.size, 11, none⟩) (by simp) (.bool x.de)).other (q := ⟨w.heap.size, 12, none⟩) (by simp) (.bool x.be)
    have xg_ := ((((((((((((xgN.other (q := ⟨w.heap.size, 0, none⟩) (by simp; omega) (.int .i64 x.id)).other (q := ⟨w.heap.size, 1, none⟩) (by simp; omega) (.int .i64 x.ow)).other (q := ⟨w.heap.size, 2, none⟩) (by simp; omega) (.int .i64 x.si)).other (q := ⟨w.heap.size, 3, none⟩) (by simp; omega) (.int .i64 x.zo)).other (q := ⟨w.heap.size, 4, none⟩) (by simp; omega) (.int .i64 x.st)).other (q := ⟨w.heap.size, 5, none⟩) (by simp; omega) (.int .i64 x.po)).other (q := ⟨w.heap.size, 6, none⟩) (by simp; omega) (.int .i64 x.to)).other (q := ⟨w.heap.size, 7, none⟩) (by simp; omega) (.int .i64 x.tr)).other (q := ⟨w.heap.size, 8, none⟩) (by simp; omega) (.int .i64 x.pl)).other (q := ⟨w.heap.size, 9, none⟩) (by simp; omega) (.int .i64 x.mi)).other (q := ⟨w.heap.size, 10, none⟩) (by simp; omega) (.int .i64 x.ma)).other (q := ⟨w.heap.size, 11, none⟩) (by simp; omega) (.bool x.de)).other (q := ⟨w.heap.size, 12, none⟩) (by simp; omega) (.bool x.be)
    have hb_ := ((((((((((((hbN.setCell (p := ⟨w.heap.size, 0, none⟩) (by simp) (.int .i64 x.id)).setCell (p := ⟨w.heap.size, 1, none⟩) (by simp) (.int .i64 x.ow)).setCell (p := ⟨w.heap.size, 2, none⟩) (by simp) (.int .i64 x.si)).setCell (p := ⟨w.heap.size, 3, none⟩) (by simp) (.int .i64 x.zo)).setCell (p := ⟨w.heap.size, 4, none⟩) (by simp) (.int .i64 x.st)).setCell (p := ⟨w.heap.size, 5, none⟩) (by simp) (.int .i64 x.po)).setCell (p := ⟨w.heap.size, 6, none⟩) (by simp) (.int .i64 x.to)).setCell (p := ⟨w.heap.size, 7, none⟩) (by simp) (.int .i64 x.tr)).setCell (p := ⟨w.heap.size, 8, none⟩) (by simp) (.int .i64 x.pl)).setCell (p := ⟨w.heap.size, 9, none⟩) (by simp) (.int .i64 x.mi)).setCell (p := ⟨w.heap.size, 10, none⟩) (by simp) (.int .i64 x.ma)).setCell (p := ⟨w.heap.size, 11, none⟩) (by simp) (.bool x.de)).setCell (p := ⟨w.heap.size, 12, none⟩) (by simp) (.bool x.be)
    refine wpAnyH_ready (rs := [2]) (by kernel_rfl) (by simp) ?_
    refine AllReadyH.cons rfl (fun K' hK => ?_) AllReadyH.nil
    rw [if_pos (by rfl)]
    refine wp_store_mid 31 (.tmp 2) (.tmp 12) rfl (w.heap.size) 0 #[.int .i64 x.id, .int .i64 x.ow, .int .i64 x.si, .int .i64 x.zo, .int .i64 x.st, .int .i64 x.po, .int .i64 x.to, .int .i64 x.tr, .int .i64 x.pl, .int .i64 x.mi, .int .i64 x.ma, .bool x.de, .bool x.be] (by first | rfl | simp [Act.eval]) rfl hta (by kernel_rfl) (by simp [Value.oneCell']) ?_
    refine hK.out _ _ (SK.out _ xg_) (fun hHeld => ?_)
    clear hK hta
    try simp only [Act.put, List.setIfInBounds_toArray, List.set_cons_zero, List.set_cons_succ]
    generalize hX_ : ((((((((((((V1.drew.setCell ⟨w.heap.size, 0, none⟩ (.int .i64 x.id)).setCell ⟨w.heap.size, 1, none⟩ (.int .i64 x.ow)).setCell ⟨w.heap.size, 2, none⟩ (.int .i64 x.si)).setCell ⟨w.heap.size, 3, none⟩ (.int .i64 x.zo)).setCell ⟨w.heap.size, 4, none⟩ (.int .i64 x.st)).setCell ⟨w.heap.size, 5, none⟩ (.int .i64 x.po)).setCell ⟨w.heap.size, 6, none⟩ (.int .i64 x.to)).setCell ⟨w.heap.size, 7, none⟩ (.int .i64 x.tr)).setCell ⟨w.heap.size, 8, none⟩ (.int .i64 x.pl)).setCell ⟨w.heap.size, 9, none⟩ (.int .i64 x.mi)).setCell ⟨w.heap.size, 10, none⟩ (.int .i64 x.ma)).setCell ⟨w.heap.size, 11, none⟩ (.bool x.de)).setCell ⟨w.heap.size, 12, none⟩ (.bool x.be) = X5 at xr_ xq_ xg_ hb_
    (first | rw [show V1.drew.setCells (w.heap.size) 0 (#[.int .i64 x.id, .int .i64 x.ow, .int .i64 x.si, .int .i64 x.zo, .int .i64 x.st, .int .i64 x.po, .int .i64 x.to, .int .i64 x.tr, .int .i64 x.pl, .int .i64 x.mi, .int .i64 x.ma, .bool x.de, .bool x.be] : Array Value).toList = X5 from hX_] at hHeld ⊢ | skip)
    clear hX_
    clear xrN
    have xrN := xr_
    clear xr_
    clear xqN
    have xqN := xq_
    clear xq_
    clear xgN
    have xgN := xg_
    clear xg_
    clear hbN
    have hbN := hb_
    clear hb_
    simp only [List.setIfInBounds_toArray, List.set_cons_zero, List.set_cons_succ] at xrN
    have hta := there13 xqN
    have xr_ := ((((((((((((xrN.other (q := ⟨w.heap.size + 1, 0, none⟩) (by simp) (.int .i64 x.id)).other (q := ⟨w.heap.size + 1, 1, none⟩) (by simp) (.int .i64 x.ow)).other (q := ⟨w.heap.size + 1, 2, none⟩) (by simp) (.int .i64 x.si)).other (q := ⟨w.heap.size + 1, 3, none⟩) (by simp) (.int .i64 x.zo)).other (q := ⟨w.heap.size + 1, 4, none⟩) (by simp) (.int .i64 x.st)).other (q := ⟨w.heap.size + 1, 5, none⟩) (by simp) (.int .i64 x.po)).other (q := ⟨w.heap.size + 1, 6, none⟩) (by simp) (.int .i64 x.to)).other (q := ⟨w.heap.size + 1, 7, none⟩) (by simp) (.int .i64 x.tr)).other (q := ⟨w.heap.size + 1, 8, none⟩) (by simp) (.int .i64 x.pl)).other (q := ⟨w.heap.size + 1, 9, none⟩) (by simp) (.int .i64 x.mi)).other (q := ⟨w.heap.size + 1, 10, none⟩) (by simp) (.int .i64 x.ma)).other (q := ⟨w.heap.size + 1, 11, none⟩) (by simp) (.bool x.de)).other (q := ⟨w.heap.size + 1, 12, none⟩) (by simp) (.bool x.be)
    have xq_ := ((((((((((((xqN.put 0 (.int .i64 x.id)).put 1 (.int .i64 x.ow)).put 2 (.int .i64 x.si)).put 3 (.int .i64 x.zo)).put 4 (.int .i64 x.st)).put 5 (.int .i64 x.po)).put 6 (.int .i64 x.to)).put 7 (.int .i64 x.tr)).put 8 (.int .i64 x.pl)).put 9 (.int .i64 x.mi)).put 10 (.int .i64 x.ma)).put 11 (.bool x.de)).put 12 (.bool x.be)
    have xg_ := ((((((((((((xgN.other (q := ⟨w.heap.size + 1, 0, none⟩) (by simp; omega) (.int .i64 x.id)).other (q := ⟨w.heap.size + 1, 1, none⟩) (by simp; omega) (.int .i64 x.ow)).other (q := ⟨w.heap.size + 1, 2, none⟩) (by simp; omega) (.int .i64 x.si)).other (q := ⟨w.heap.size + 1, 3, none⟩) (by simp; omega) (.int .i64 x.zo)).other (q := ⟨w.heap.size + 1, 4, none⟩) (by simp; omega) (.int .i64 x.st)).other (q := ⟨w.heap.size + 1, 5, none⟩) (by simp; omega) (.int .i64 x.po)).other (q := ⟨w.heap.size + 1, 6, none⟩) (by simp; omega) (.int .i64 x.to)).other (q := ⟨w.heap.size + 1, 7, none⟩) (by simp; omega) (.int .i64 x.tr)).other (q := ⟨w.heap.size + 1, 8, none⟩) (by simp; omega) (.int .i64 x.pl)).other (q := ⟨w.heap.size + 1, 9, none⟩) (by simp; omega) (.int .i64 x.mi)).other (q := ⟨w.heap.size + 1, 10, none⟩) (by simp; omega) (.int .i64 x.ma)).other (q := ⟨w.heap.size + 1, 11, none⟩) (by simp; omega) (.bool x.de)).other (q := ⟨w.heap.size + 1, 12, none⟩) (by simp; omega) (.bool x.be)
    have hb_ := ((((((((((((hbN.setCell (p := ⟨w.heap.size + 1, 0, none⟩) (by simp) (.int .i64 x.id)).setCell (p := ⟨w.heap.size + 1, 1, none⟩) (by simp) (.int .i64 x.ow)).setCell (p := ⟨w.heap.size + 1, 2, none⟩) (by simp) (.int .i64 x.si)).setCell (p := ⟨w.heap.size + 1, 3, none⟩) (by simp) (.int .i64 x.zo)).setCell (p := ⟨w.heap.size + 1, 4, none⟩) (by simp) (.int .i64 x.st)).setCell (p := ⟨w.heap.size + 1, 5, none⟩) (by simp) (.int .i64 x.po)).setCell (p := ⟨w.heap.size + 1, 6, none⟩) (by simp) (.int .i64 x.to)).setCell (p := ⟨w.heap.size + 1, 7, none⟩) (by simp) (.int .i64 x.tr)).setCell (p := ⟨w.heap.size + 1, 8, none⟩) (by simp) (.int .i64 x.pl)).setCell (p := ⟨w.heap.size + 1, 9, none⟩) (by simp) (.int .i64 x.mi)).setCell (p := ⟨w.heap.size + 1, 10, none⟩) (by simp) (.int .i64 x.ma)).setCell (p := ⟨w.heap.size + 1, 11, none⟩) (by simp) (.bool x.de)).setCell (p := ⟨w.heap.size + 1, 12, none⟩) (by simp) (.bool x.be)
    refine wpAnyH_ready (rs := [3]) (by kernel_rfl) (by simp) ?_
    refine AllReadyH.cons rfl (fun K' hK => ?_) AllReadyH.nil
    rw [if_pos (by rfl)]
    refine wp_store_mid 31 (.tmp 3) (.tmp 13) rfl (w.heap.size + 1) 0 #[.int .i64 x.id, .int .i64 x.ow, .int .i64 x.si, .int .i64 x.zo, .int .i64 x.st, .int .i64 x.po, .int .i64 x.to, .int .i64 x.tr, .int .i64 x.pl, .int .i64 x.mi, .int .i64 x.ma, .bool x.de, .bool x.be] (by first | rfl | simp [Act.eval]) rfl hta (by kernel_rfl) (by simp [Value.oneCell']) ?_
    refine hK.out _ _ (SK.out _ xg_) (fun hHeld => ?_)
    clear hK hta
    try simp only [Act.put, List.setIfInBounds_toArray, List.set_cons_zero, List.set_cons_succ]
    generalize hX_ : ((((((((((((X5.setCell ⟨w.heap.size + 1, 0, none⟩ (.int .i64 x.id)).setCell ⟨w.heap.size + 1, 1, none⟩ (.int .i64 x.ow)).setCell ⟨w.heap.size + 1, 2, none⟩ (.int .i64 x.si)).setCell ⟨w.heap.size + 1, 3, none⟩ (.int .i64 x.zo)).setCell ⟨w.heap.size + 1, 4, none⟩ (.int .i64 x.st)).setCell ⟨w.heap.size + 1, 5, none⟩ (.int .i64 x.po)).setCell ⟨w.heap.size + 1, 6, none⟩ (.int .i64 x.to)).setCell ⟨w.heap.size + 1, 7, none⟩ (.int .i64 x.tr)).setCell ⟨w.heap.size + 1, 8, none⟩ (.int .i64 x.pl)).setCell ⟨w.heap.size + 1, 9, none⟩ (.int .i64 x.mi)).setCell ⟨w.heap.size + 1, 10, none⟩ (.int .i64 x.ma)).setCell ⟨w.heap.size + 1, 11, none⟩ (.bool x.de)).setCell ⟨w.heap.size + 1, 12, none⟩ (.bool x.be) = X6 at xr_ xq_ xg_ hb_
    (first | rw [show X5.setCells (w.heap.size + 1) 0 (#[.int .i64 x.id, .int .i64 x.ow, .int .i64 x.si, .int .i64 x.zo, .int .i64 x.st, .int .i64 x.po, .int .i64 x.to, .int .i64 x.tr, .int .i64 x.pl, .int .i64 x.mi, .int .i64 x.ma, .bool x.de, .bool x.be] : Array Value).toList = X6 from hX_] at hHeld ⊢ | skip)
    clear hX_
    clear xrN
    have xrN := xr_
    clear xr_
    clear xqN
    have xqN := xq_
    clear xq_
    clear xgN
    have xgN := xg_
    clear xg_
    clear hbN
    have hbN := hb_
    clear hb_
    simp only [List.setIfInBounds_toArray, List.set_cons_zero, List.set_cons_succ] at xqN
    refine wpAnyH_done (by kernel_rfl) ?_ _
    try simp only [Act.put, List.setIfInBounds_toArray, List.set_cons_zero, List.set_cons_succ]
    clear hHeld SK
    go_wp2
    (try simp only [Exit.inBlock, Exit.then]); refine bodyPost_ret (results_rowE rfl _ _ w.heap.size (w.heap.size + 1) _ _ _ _ _ _ _ _ rfl xrN Try.underlying31 rfl (by kernel_rfl) rfl xqN Try.underlying31 rfl (by kernel_rfl)) rfl ?_
    exact ⟨x, x, rfl, hbN⟩
end Go.Proofs.Ytjpimkolkhbflab
