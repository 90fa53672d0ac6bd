/-
  Chapter 5: a new state, the specification's and the program's. Own work.
-/
import Derived.Test.YtodfdfncdoliiadGreatGPieceOk3
import Derived.Test.YtodfdfncdoliiadGreatGPaB5
namespace Go.Proofs.YtodfdfncdoliiadGreat
open Go.ChangeShapes Go.WideShapes Go.ChangeAt Go.RowKit
set_option maxRecDepth 100000
set_option linter.unusedVariables false
def nwN (n : Int) : Nat := if n = 3 then 3 else 2
def nwD : Nat → Sd := fun _ => ⟨20, 0, false⟩
def zF : Nat → Pc := fun _ => zP
theorem heap_setRow_ne' (w : World) (g k : Nat) (cs : Array Value) (h : k ≠ g) : (w.setRow g cs).heap[k]? = w.heap[k]? := by
  unfold World.setRow
  simp only [Array.getElem?_modify]
  rw [if_neg (Ne.symm h)]
theorem size_setRow' (w : World) (g : Nat) (cs : Array Value) : (w.setRow g cs).heap.size = w.heap.size := by simp [World.setRow]
theorem nw2 : (valsE sdC 2 nwD) = [.int .i64 20, .int .i64 0, .bool false, .int .i64 20, .int .i64 0, .bool false] := rfl
theorem nw3 : (valsE sdC 2 nwD) ++ [.int .i64 20, .int .i64 0, .bool false] = valsE sdC 3 nwD := rfl
theorem below_new2'' (w : World) (o : Obj) : Below w.heap.size w (w.alloc o) := (Below.refl _ _).alloc (Nat.le_refl _) _
theorem row_type {w : World} {B : Nat} {e : TypeId} {m : Nat} {g cap n : Nat} {xs : List Value} (h : w.ownsRow B e m (.slice (some ⟨g, 0, none⟩) n cap) n xs) : ∃ cur, w.heap[g]? = some (.cells cur e (0, 0)) ∧ cap ≤ maxLen := by
  rcases h.2 with ⟨h', _⟩ | ⟨g', cap', cur, h', hb, hg, hnc, hcm, hcs, htake⟩
  · simp at h'
  · simp only [Value.slice.injEq, Option.some.injEq, Addr.mk.injEq, and_true, true_and] at h'
    obtain ⟨rfl, rfl⟩ := h'
    exact ⟨cur, hg, hcm⟩
theorem box_ne {w : World} {b t g e : Nat} {cs cur : Array Value} (h : BoxR w b t cs) (k : w.heap[g]? = some (.cells cur e (0, 0))) (ht : t ≠ e) : g ≠ b := by
  intro he
  subst he
  rw [h] at k
  simp only [Option.some.injEq, Obj.cells.injEq] at k
  exact ht k.2.1
set_option maxHeartbeats 2000000 in
theorem specStateNew_any (n : Int) (w : World) : Calls Tryz.prog 98 #[.int .i64 n] w fun e w' => StPost 0 zF (nwN n) nwD 0 0 w e w' := by
  obtain ⟨i0, hi, hz0, hz1, hz2⟩ := info_parts Tryz.infoSd
  by_cases h3 : n = 3
  rotate_left
  · have q1 : (n == 3) = false := by simpa using h3
    have HN : Hid (nwN n = 2) := by show nwN n = 2; unfold nwN; rw [if_neg h3]
    clear h3
    go_enter Tryz.func98, Tryz.ntmps98
    go_wp2
    (try simp only [Exit.inBlock, Exit.then]); refine bodyPost_ret (results_cell_row rfl _ _ w.heap.size _ _ _ _ rfl (((boxR_new w 37 #[.slice none 0 0, .slice (some ⟨w.heap.size + 1, 0, none⟩) 2 2, .int .i64 0, .int .i64 0]).alloc (.cells #[.int .i64 20, .int .i64 0, .bool false, .int .i64 20, .int .i64 0, .bool false] 137)).alloc (.cells #[.slice none 0 0, .slice (some ⟨w.heap.size + 1, 0, none⟩) 2 2, .int .i64 0, .int .i64 0] 37)) Tryz.underlying37 rfl (by kernel_rfl)) rfl ?_
    rw [HN.out]
    have hr : BoxR (((w.alloc (.cells #[.slice none 0 0, .slice (some ⟨w.heap.size + 1, 0, none⟩) 2 2, .int .i64 0, .int .i64 0] 37)).alloc (.cells #[.int .i64 20, .int .i64 0, .bool false, .int .i64 20, .int .i64 0, .bool false] 137)).alloc (.cells #[.slice none 0 0, .slice (some ⟨w.heap.size + 1, 0, none⟩) 2 2, .int .i64 0, .int .i64 0] 37)) (w.heap.size + 1) 137 #[.int .i64 20, .int .i64 0, .bool false, .int .i64 20, .int .i64 0, .bool false] := (show BoxR ((w.alloc (.cells #[.slice none 0 0, .slice (some ⟨w.heap.size + 1, 0, none⟩) 2 2, .int .i64 0, .int .i64 0] 37)).alloc (.cells #[.int .i64 20, .int .i64 0, .bool false, .int .i64 20, .int .i64 0, .bool false] 137)) (w.heap.size + 1) 137 #[.int .i64 20, .int .i64 0, .bool false, .int .i64 20, .int .i64 0, .bool false] from heap_alloc2_new _ _ _).alloc _
    exact ⟨none, 0, 0, some ⟨w.heap.size + 1, 0, none⟩, 2, w.heap.size + 1, rfl, (((Below.refl _ w).alloc (Nat.le_refl _) _).alloc (by simp) _).alloc (by simp; omega) _, .inl rfl, .inr (ownE_row (f := nwD) (n := 2) sdC_len hr (show w.heap.size ≤ w.heap.size + 1 by omega)), fun h => absurd rfl h, Nat.le_refl _, Nat.zero_le _, Nat.le_refl _, show 2 ≤ maxLen by decide⟩
  · subst h3
    have hb0 := (((Below.refl _ w).alloc (Nat.le_refl _) (.cells #[.slice none 0 0, .slice none 0 0, .int .i64 0, .int .i64 0] 37)).alloc (by simp) (.cells #[.int .i64 20, .int .i64 0, .bool false, .int .i64 20, .int .i64 0, .bool false] 137)).alloc (by simp; omega) (.cells #[.slice none 0 0, .slice (some ⟨w.heap.size + 1, 0, none⟩) 2 2, .int .i64 0, .int .i64 0] 37)
    have x1 := ((boxR_new w 37 #[.slice none 0 0, .slice none 0 0, .int .i64 0, .int .i64 0]).alloc (.cells #[.int .i64 20, .int .i64 0, .bool false, .int .i64 20, .int .i64 0, .bool false] 137)).alloc (.cells #[.slice none 0 0, .slice (some ⟨w.heap.size + 1, 0, none⟩) 2 2, .int .i64 0, .int .i64 0] 37)
    have hown : (((w.alloc (.cells #[.slice none 0 0, .slice none 0 0, .int .i64 0, .int .i64 0] 37)).alloc (.cells #[.int .i64 20, .int .i64 0, .bool false, .int .i64 20, .int .i64 0, .bool false] 137)).alloc (.cells #[.slice none 0 0, .slice (some ⟨w.heap.size + 1, 0, none⟩) 2 2, .int .i64 0, .int .i64 0] 37)).ownsRow w.heap.size 137 3 (.slice (some ⟨w.heap.size + 1, 0, none⟩) 2 2) 2 (valsE sdC 2 nwD) := by
      have := (World.ownsRow_lit (base := w.heap.size) (e := 137) (size := 3) (w.alloc (.cells #[.slice none 0 0, .slice none 0 0, .int .i64 0, .int .i64 0] 37)) #[.int .i64 20, .int .i64 0, .bool false, .int .i64 20, .int .i64 0, .bool false] 2 (by simp) (by decide) rfl).alloc (.cells #[.slice none 0 0, .slice (some ⟨w.heap.size + 1, 0, none⟩) 2 2, .int .i64 0, .int .i64 0] 37)
      rw [World.size_alloc] at this
      exact this
    have x3 := boxR_new ((w.alloc (.cells #[.slice none 0 0, .slice none 0 0, .int .i64 0, .int .i64 0] 37)).alloc (.cells #[.int .i64 20, .int .i64 0, .bool false, .int .i64 20, .int .i64 0, .bool false] 137)) 37 #[.slice none 0 0, .slice (some ⟨w.heap.size + 1, 0, none⟩) 2 2, .int .i64 0, .int .i64 0]
    have hsz : (((w.alloc (.cells #[.slice none 0 0, .slice none 0 0, .int .i64 0, .int .i64 0] 37)).alloc (.cells #[.int .i64 20, .int .i64 0, .bool false, .int .i64 20, .int .i64 0, .bool false] 137)).alloc (.cells #[.slice none 0 0, .slice (some ⟨w.heap.size + 1, 0, none⟩) 2 2, .int .i64 0, .int .i64 0] 37)).heap.size = w.heap.size + 1 + 1 + 1 := by simp
    rw [World.size_alloc, World.size_alloc] at x3
    go_enter Tryz.func98, Tryz.ntmps98
    go_wp2_with (at_builtin; generalize ((w.alloc (.cells #[.slice none 0 0, .slice none 0 0, .int .i64 0, .int .i64 0] 37)).alloc (.cells #[.int .i64 20, .int .i64 0, .bool false, .int .i64 20, .int .i64 0, .bool false] 137)).alloc (.cells #[.slice none 0 0, .slice (some ⟨w.heap.size + 1, 0, none⟩) 2 2, .int .i64 0, .int .i64 0] 37) = W at hb0 x1 hown x3 hsz ⊢; have hb4 := hb0.alloc hb0.size (.cells #[.int .i64 20, .int .i64 0, .bool false] 137); have x4 := x1.alloc (.cells #[.int .i64 20, .int .i64 0, .bool false] 137); have x5 := x3.alloc (.cells #[.int .i64 20, .int .i64 0, .bool false] 137); have hown4 := hown.alloc (.cells #[.int .i64 20, .int .i64 0, .bool false] 137); have hnews := cells_new W [.int .i64 20, .int .i64 0, .bool false] 137; rw [hsz] at hnews; have HW : Hid (W.heap.size = w.heap.size + 1 + 1 + 1) := hsz; clear hsz; refine wpList_append_own _ rfl (.tmp 11) (.tmp 13) 35 rfl w.heap.size 137 i0 _ 3 24 Tryz.underlying35 hi hz0 hz1 hz2 rfl (by decide) _ _ _ rfl hown4 ⟨w.heap.size + 1 + 1 + 1, 0, none⟩ 1 1 [.int .i64 20, .int .i64 0, .bool false] rfl rfl hnews (by intro u hu; simp at hu; rcases hu with rfl | rfl | rfl <;> rfl) (by decide) (by decide) hb4.size ?_)
    intro v5 w5 hown5 hgr5 hnil5
    have hb5 : Below w.heap.size w w5 := hb4.grown hgr5 hb4.size (fun k hk => (hown4.lt k hk).1)
    have hnil : v5 ≠ .slice none 0 0 := hnil5
    rw [nw3] at hown5
    have hWl := HW.out
    have y1 : BoxR w5 w.heap.size 37 #[.slice none 0 0, .slice none 0 0, .int .i64 0, .int .i64 0] := (hgr5.block _ (by simp; omega) (by simp [Value.ownBlock])).trans x4
    have y3 : BoxR w5 (w.heap.size + 1 + 1) 37 _ := (hgr5.block _ (by simp; omega) (by simp [Value.ownBlock])).trans x5
    obtain ⟨q, cap, rfl, hcap, ho⟩ := own_ofE sdC_len hown5 hnil
    obtain ⟨cur, hcur, hcm⟩ := row_type hown5
    have n1 : q ≠ w.heap.size := box_ne y1 hcur (by decide)
    have n3 : q ≠ w.heap.size + 1 + 1 := box_ne y3 hcur (by decide)
    have f1 := y3.froz 1
    have c1 := y3.cell 1
    have z3 := y3.put 1 (.slice (some ⟨q, 0, none⟩) 3 cap)
    have z1 := y1.other (q := ⟨w.heap.size + 1 + 1, 1, none⟩) (by simp; omega) (.slice (some ⟨q, 0, none⟩) 3 cap)
    have zo := ho.setCell (q := ⟨w.heap.size + 1 + 1, 1, none⟩) n3 (.slice (some ⟨q, 0, none⟩) 3 cap)
    have hb6 := hb5.setCell (p := ⟨w.heap.size + 1 + 1, 1, none⟩) (by simp; omega) (.slice (some ⟨q, 0, none⟩) 3 cap)
    generalize hV : w5.setCell ⟨w.heap.size + 1 + 1, 1, none⟩ (.slice (some ⟨q, 0, none⟩) 3 cap) = V at z3 z1 zo hb6
    have m0 := z3.cell 0
    have m1 := z3.cell 1
    have m2 := z3.cell 2
    have m3 := z3.cell 3
    simp at c1 m0 m1 m2 m3
    clear hown5 hgr5 hnil5 hown4 hown x1 x3 x4 x5 y1 hcur hWl HW
    go_wp2_with (refine wpList_store_row rfl 37 (.tmp 2) _ rfl w.heap.size _ (by rfl) (by rfl) _ _ z1 (by kernel_rfl) (by rfl) (by simp [Value.oneCell']) ?_)
    (try simp only [Exit.inBlock, Exit.then]); refine bodyPost_ret (results_cell_row rfl _ _ w.heap.size _ _ _ _ rfl (setRow_heap _ _ _ _ _ _ z1) Tryz.underlying37 rfl (by kernel_rfl)) rfl ?_
    exact ⟨none, 0, 0, some ⟨q, 0, none⟩, cap, q, rfl, below_setRow hb6 (Nat.le_refl _) _, .inl rfl, .inr (zo.setRow n1 _), fun h => absurd rfl h, Nat.le_refl _, Nat.zero_le _, hcap, hcm⟩
theorem OwnE.putLi {w : World} {B b off n : Nat} {f : Nat → Sd} (h : OwnE sdC 3 w B b (some ⟨b, off, none⟩) n f) (k : Nat) (hk : k < n) (v : Int) :
    OwnE sdC 3 (w.setCell ⟨b, off + k * 3, none⟩ (.int .i64 v)) B b (some ⟨b, off, none⟩) n (fun i => if i = k then ⟨v, (f k).po, (f k).lo⟩ else f i) := by
  have := h.putE sdC_len k hk ⟨v, (f k).po, (f k).lo⟩
  obtain ⟨h1, h2, h3, h4⟩ := h
  refine ⟨h1, by simpa [World.setCell] using h2, ?_, fun i => (World.frozen?_setCell _ _ _ _).trans (h4 i)⟩
  rcases h3 with h3 | ⟨o, e, hc⟩
  · omega
  simp only [Option.some.injEq, Addr.mk.injEq, and_true, true_and] at e
  subst e
  refine .inr ⟨off, rfl, fun i hi j u hu => ?_⟩
  by_cases hik : i = k
  · subst hik
    simp only [if_true] at hu
    by_cases hj : j = 0
    · subst hj
      simp only [sdC, List.getElem?_cons_zero, Option.some.injEq] at hu
      subst hu
      exact World.cell?_setCell_same _ _ _ (hc i hi 0 _ rfl)
    · rw [World.cell?_setCell_other _ _ _ _ (by intro e; simp at e; try omega)]
      refine hc i hi j u ?_
      rw [← hu]
      cases j with
      | zero => exact absurd rfl hj
      | succ j => rfl
  · simp only [if_neg hik] at hu
    have hj3 : j < 3 := (List.getElem?_eq_some_iff.1 hu).1
    rw [World.cell?_setCell_other _ _ _ _ (by intro e; simp at e; try omega)]
    exact hc i hi j u hu
theorem nw_step (k : Nat) : (fun i => if i = k then (⟨20, (tilE k nwD (fun _ => zS) k).po, (tilE k nwD (fun _ => zS) k).lo⟩ : Sd) else tilE k nwD (fun _ => zS) i) = tilE (k + 1) nwD (fun _ => zS) := by
  have e : tilE k nwD (fun _ => zS) k = zS := by unfold tilE; rw [if_neg (by omega)]
  rw [e, ← tilE_step]
  rfl
end Go.Proofs.YtodfdfncdoliiadGreat
