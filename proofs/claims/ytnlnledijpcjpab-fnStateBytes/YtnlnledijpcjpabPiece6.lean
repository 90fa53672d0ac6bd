/-
  Chapter 4: the specification's GetPiece. Own work.
-/
import Derived.Test.YtnlnledijpcjpabPiece5
import Derived.Test.YtnlnledijpcjpabRegs
namespace Go.Proofs.Ytnlnledijpcjpab
open Go.ChangeShapes Go.WideShapes Go.ChangeAt Go.RowKit
set_option maxRecDepth 100000
theorem below_new2 (w : World) (o : Obj) : Below w.heap.size w (w.alloc o) := (Below.refl _ _).alloc (Nat.le_refl _) _
set_option maxHeartbeats 4000000 in
theorem specGetPiece_any (a : Option Addr) (b n c : Nat) (at' : Int) (f : Nat → Int) (w : World) (hn : n ≤ 100000000) (hu : U8 n f) (h : Rd .u8 w b a n f) :
    Calls Try.prog 42 #[.slice a n c, .int .i64 at'] w fun e w' => e = .returned (.tuple #[(.agg #[.int .i64 (gpP n f at').id, .int .i64 (gpP n f at').ow, .int .i64 (gpP n f at').si, .int .i64 (gpP n f at').zo, .int .i64 (gpP n f at').st, .int .i64 (gpP n f at').po, .int .i64 (gpP n f at').to, .int .i64 (gpP n f at').tr, .int .i64 (gpP n f at').pl, .int .i64 (gpP n f at').mi, .int .i64 (gpP n f at').ma, .bool (gpP n f at').de, .bool (gpP n f at').be]), .int .i64 (gpX n f at'), .bool (gpOk n f at')]) ∧ Below w.heap.size w w' := by
  have hb0 : Below w.heap.size w (w.alloc (.cells #[.int .i64 zeroP.id, .int .i64 zeroP.ow, .int .i64 zeroP.si, .int .i64 zeroP.zo, .int .i64 zeroP.st, .int .i64 zeroP.po, .int .i64 zeroP.to, .int .i64 zeroP.tr, .int .i64 zeroP.pl, .int .i64 zeroP.mi, .int .i64 zeroP.ma, .bool zeroP.de, .bool zeroP.be] 31)) := (Below.refl _ w).alloc (Nat.le_refl _) _
  have bx := box_new w 31 zeroP
  go_enter Try.func42, Try.ntmps42
  go_wp2_with fail
  refine (l4Nums_any a b n c at' f _ hn hu (h.grew hb0)).mono ?_
  rintro e w1 ⟨hb1, ⟨hg, q, cap, rfl, ho⟩ | ⟨hg, q, N, cap, rfl⟩⟩
  · have bx1 := bx.grew hb1
    have hB1 := below_app hb0 hb1 hb0.size
    have hcl : ∀ j, j < 13 → w1.cell? ⟨q, j, none⟩ = some (.int .i64 (gnL n f at' j)) := fun j hj => by
      have := ho.cell j hj
      rwa [Nat.zero_add] at this
    have c11 := hcl 11 (by decide)
    have c12 := hcl 12 (by decide)
    clear h hb0 bx
    cases h11 : ib (gnL n f at' 11) 0 1 with
    | false =>
      have HN : Hid (gpOk n f at' = false) := by show gpOk n f at' = false; unfold gpOk; rw [h11]; simp
      clear hcl
      go_wp2_with (first | (go_at_call 83; refine (l1In_any _ _ _ _).mono ?_; rintro e w' ⟨rfl, rfl⟩) | (refine wpList_store_row rfl _ _ _ rfl w.heap.size _ (by rfl) (by rfl) _ _ bx1 (by kernel_rfl) (by rfl) (by simp [Value.oneCell']) ?_))
      (try simp only [Exit.inBlock, Exit.then]); refine bodyPost_ret (results_row2 rfl _ _ w.heap.size _ _ _ _ rfl (setRow_heap _ _ _ _ _ _ bx1) Try.underlying31 rfl (by kernel_rfl)) rfl ?_
      exact ⟨gp_bad HN.out, below_setRow hB1 (Nat.le_refl _) _⟩
    | true =>
    cases h12 : ib (gnL n f at' 12) 0 1 with
    | false =>
      have HN : Hid (gpOk n f at' = false) := by show gpOk n f at' = false; unfold gpOk; rw [h12]; simp
      clear hcl
      go_wp2_with (first | (go_at_call 83; refine (l1In_any _ _ _ _).mono ?_; rintro e w' ⟨rfl, rfl⟩) | (refine wpList_store_row rfl _ _ _ rfl w.heap.size _ (by rfl) (by rfl) _ _ bx1 (by kernel_rfl) (by rfl) (by simp [Value.oneCell']) ?_))
      (try simp only [Exit.inBlock, Exit.then]); refine bodyPost_ret (results_row2 rfl _ _ w.heap.size _ _ _ _ rfl (setRow_heap _ _ _ _ _ _ bx1) Try.underlying31 rfl (by kernel_rfl)) rfl ?_
      exact ⟨gp_bad HN.out, below_setRow hB1 (Nat.le_refl _) _⟩
    | true =>
      have HO : Hid (gpOk n f at' = okP (rawP n f at')) := by show gpOk n f at' = _; unfold gpOk; rw [hg, h11, h12]; rfl
      have c0 := hcl 0 (by decide)
      have c1 := hcl 1 (by decide)
      have c2 := hcl 2 (by decide)
      have c3 := hcl 3 (by decide)
      have c4 := hcl 4 (by decide)
      have c5 := hcl 5 (by decide)
      have c6 := hcl 6 (by decide)
      have c7 := hcl 7 (by decide)
      have c8 := hcl 8 (by decide)
      have c9 := hcl 9 (by decide)
      have c10 := hcl 10 (by decide)
      have hcl' := hcl
      clear hcl
      go_wp2_with (go_at_call 83; refine (l1In_any _ _ _ _).mono ?_; rintro e w9 ⟨rfl, hw9⟩; rw [hw9]; clear hw9 w9)
      have hcB : ∀ j, j < 13 → ∀ m, (twoW w1 (w1.alloc (.cells #[.int .i64 0, .int .i64 0, .int .i64 0, .int .i64 0, .int .i64 0, .int .i64 0, .int .i64 0, .int .i64 0, .int .i64 0, .int .i64 0, .int .i64 0, .bool false, .bool false] 31)) m).cell? ⟨q, j, none⟩ = some (.int .i64 (gnL n f at' j)) := fun j hj m =>
        twoW_cell (hcl' j hj) ((Below.cell (below_new2 w1 _) (p := ⟨q, j, none⟩) (World.block_lt_of_cell? w1 _ (hcl' j hj))).trans (hcl' j hj)) m
      have d0 := hcB 0 (by decide)
      have d1 := hcB 1 (by decide)
      have d2 := hcB 2 (by decide)
      have d3 := hcB 3 (by decide)
      have d4 := hcB 4 (by decide)
      have d5 := hcB 5 (by decide)
      have d6 := hcB 6 (by decide)
      have d7 := hcB 7 (by decide)
      have d8 := hcB 8 (by decide)
      have d9 := hcB 9 (by decide)
      have d10 := hcB 10 (by decide)
      have d11 := hcB 11 (by decide)
      have d12 := hcB 12 (by decide)
      refine wp_region_float_lit 42 w1 (w1.alloc (.cells #[.int .i64 0, .int .i64 0, .int .i64 0, .int .i64 0, .int .i64 0, .int .i64 0, .int .i64 0, .int .i64 0, .int .i64 0, .int .i64 0, .int .i64 0, .bool false, .bool false] 31)) (.pointer (some ⟨w1.heap.size, 0, none⟩)) _ (by kernel_rfl) rfl (by kernel_rfl) (fun _ => rfl) ?_ (by intro c d v a w h; cases d <;> exact h) ?_
      · intro a n
        have hz := Try.zeroValue31
        simp [execOp, Instr.alloc, go_sem, hz]
        rfl
      simp only [List.take_succ_cons, List.take_zero, List.drop_succ_cons, List.drop_zero]
      generalize twoW w1 (w1.alloc (.cells #[.int .i64 0, .int .i64 0, .int .i64 0, .int .i64 0, .int .i64 0, .int .i64 0, .int .i64 0, .int .i64 0, .int .i64 0, .int .i64 0, .int .i64 0, .bool false, .bool false] 31)) = WP at d0 d1 d2 d3 d4 d5 d6 d7 d8 d9 d10 d11 d12 ⊢
      clear hcB hcl' c0 c1 c2 c3 c4 c5 c6 c7 c8 c9 c10 c11 c12
      repeat (go_big_quiet_step (fail))
      refine wpQuiet_nil ?_
      intro nq
      simp only [Act.put, List.setIfInBounds_toArray, List.set_cons_zero, List.set_cons_succ]
      clear d0 d1 d2 d3 d4 d5 d6 d7 d8 d9 d10 d11 d12
      have hnew : ((w1.alloc (.cells #[.int .i64 0, .int .i64 0, .int .i64 0, .int .i64 0, .int .i64 0, .int .i64 0, .int .i64 0, .int .i64 0, .int .i64 0, .int .i64 0, .int .i64 0, .bool false, .bool false] 31)).drewN nq).heap[w1.heap.size]? = some (.cells #[.int .i64 0, .int .i64 0, .int .i64 0, .int .i64 0, .int .i64 0, .int .i64 0, .int .i64 0, .int .i64 0, .int .i64 0, .int .i64 0, .int .i64 0, .bool false, .bool false] 31 (0, 0)) := heap_alloc_new w1 (.cells #[.int .i64 0, .int .i64 0, .int .i64 0, .int .i64 0, .int .i64 0, .int .i64 0, .int .i64 0, .int .i64 0, .int .i64 0, .int .i64 0, .int .i64 0, .bool false, .bool false] 31)
      have hbX : Below w1.heap.size w1 ((w1.alloc (.cells #[.int .i64 0, .int .i64 0, .int .i64 0, .int .i64 0, .int .i64 0, .int .i64 0, .int .i64 0, .int .i64 0, .int .i64 0, .int .i64 0, .int .i64 0, .bool false, .bool false] 31)).drewN nq) := below_drewN (below_new2 w1 _) nq
      have bV : BoxP (((w1.alloc (.cells #[.int .i64 0, .int .i64 0, .int .i64 0, .int .i64 0, .int .i64 0, .int .i64 0, .int .i64 0, .int .i64 0, .int .i64 0, .int .i64 0, .int .i64 0, .bool false, .bool false] 31)).drewN nq).setRow w1.heap.size #[.int .i64 (rawP n f at').id, .int .i64 (rawP n f at').ow, .int .i64 (rawP n f at').si, .int .i64 (rawP n f at').zo, .int .i64 (rawP n f at').st, .int .i64 (rawP n f at').po, .int .i64 (rawP n f at').to, .int .i64 (rawP n f at').tr, .int .i64 (rawP n f at').pl, .int .i64 (rawP n f at').mi, .int .i64 (rawP n f at').ma, .bool (rawP n f at').de, .bool (rawP n f at').be]) w1.heap.size 31 (rawP n f at') := setRow_heap _ _ _ _ _ _ hnew
      have hbV : Below w1.heap.size w1 (((w1.alloc (.cells #[.int .i64 0, .int .i64 0, .int .i64 0, .int .i64 0, .int .i64 0, .int .i64 0, .int .i64 0, .int .i64 0, .int .i64 0, .int .i64 0, .int .i64 0, .bool false, .bool false] 31)).drewN nq).setRow w1.heap.size #[.int .i64 (rawP n f at').id, .int .i64 (rawP n f at').ow, .int .i64 (rawP n f at').si, .int .i64 (rawP n f at').zo, .int .i64 (rawP n f at').st, .int .i64 (rawP n f at').po, .int .i64 (rawP n f at').to, .int .i64 (rawP n f at').tr, .int .i64 (rawP n f at').pl, .int .i64 (rawP n f at').mi, .int .i64 (rawP n f at').ma, .bool (rawP n f at').de, .bool (rawP n f at').be]) := below_setRow hbX (Nat.le_refl _) _
      go_wp2_with (refine wpList_store_row rfl _ _ _ rfl w1.heap.size #[.int .i64 (rawP n f at').id, .int .i64 (rawP n f at').ow, .int .i64 (rawP n f at').si, .int .i64 (rawP n f at').zo, .int .i64 (rawP n f at').st, .int .i64 (rawP n f at').po, .int .i64 (rawP n f at').to, .int .i64 (rawP n f at').tr, .int .i64 (rawP n f at').pl, .int .i64 (rawP n f at').mi, .int .i64 (rawP n f at').ma, .bool (rawP n f at').de, .bool (rawP n f at').be] (by rfl) (by rfl) _ _ hnew (by kernel_rfl) (by rfl) (by simp [Value.oneCell']) ?_; generalize ((w1.alloc (.cells #[.int .i64 0, .int .i64 0, .int .i64 0, .int .i64 0, .int .i64 0, .int .i64 0, .int .i64 0, .int .i64 0, .int .i64 0, .int .i64 0, .int .i64 0, .bool false, .bool false] 31)).drewN nq).setRow w1.heap.size #[.int .i64 (rawP n f at').id, .int .i64 (rawP n f at').ow, .int .i64 (rawP n f at').si, .int .i64 (rawP n f at').zo, .int .i64 (rawP n f at').st, .int .i64 (rawP n f at').po, .int .i64 (rawP n f at').to, .int .i64 (rawP n f at').tr, .int .i64 (rawP n f at').pl, .int .i64 (rawP n f at').mi, .int .i64 (rawP n f at').ma, .bool (rawP n f at').de, .bool (rawP n f at').be] = V at bV hbV ⊢; clear hnew hbX; obtain ⟨e0, e1, e2, e3, e4, e5, e6, e7, e8, e9, e10, e11, e12⟩ := bV.cells)
      refine (specPieceOk_any (rawP n f at') V).mono ?_
      rintro e w3 ⟨rfl, hb3⟩
      have bV3 := bV.grew hb3
      have bx3 := (bx1.grew hbV).grew hb3
      have hBV := below_app hB1 hbV hB1.size
      have hB3 := below_app hBV hb3 hBV.size
      clear e0 e1 e2 e3 e4 e5 e6 e7 e8 e9 e10 e11 e12 bV hbV hb3 hBV hB1 bx1 ho
      obtain ⟨e0, e1, e2, e3, e4, e5, e6, e7, e8, e9, e10, e11, e12⟩ := bV3.cells
      cases hok : okP (rawP n f at') with
      | false =>
        have HN : Hid (gpOk n f at' = false) := by show gpOk n f at' = false; rw [HO.out]; exact hok
        go_wp2_with (refine wpList_store_row rfl _ _ _ rfl w.heap.size _ (by rfl) (by rfl) _ _ bx3 (by kernel_rfl) (by rfl) (by simp [Value.oneCell']) ?_)
        (try simp only [Exit.inBlock, Exit.then]); refine bodyPost_ret (results_row2 rfl _ _ w.heap.size _ _ _ _ rfl (setRow_heap _ _ _ _ _ _ bx3) Try.underlying31 rfl (by kernel_rfl)) rfl ?_
        exact ⟨gp_bad HN.out, below_setRow hB3 (Nat.le_refl _) _⟩
      | true =>
        have HN : Hid (gpOk n f at' = true) := by show gpOk n f at' = true; rw [HO.out]; exact hok
        go_wp2_with (refine wpList_store_row rfl _ _ _ rfl w.heap.size _ (by rfl) (by rfl) _ _ bx3 (by kernel_rfl) (by rfl) (by simp [Value.oneCell']) ?_)
        (try simp only [Exit.inBlock, Exit.then]); refine bodyPost_ret (results_row2 rfl _ _ w.heap.size _ _ _ _ rfl (setRow_heap _ _ _ _ _ _ bx3) Try.underlying31 rfl (by kernel_rfl)) rfl ?_
        exact ⟨gp_good HN.out, below_setRow hB3 (Nat.le_refl _) _⟩
  · have bx1 := bx.grew hb1
    have HN : Hid (gpOk n f at' = false) := by show gpOk n f at' = false; unfold gpOk; rw [hg]; rfl
    have hB1 := below_app hb0 hb1 hb0.size
    go_wp2_with (refine wpList_store_row rfl _ _ _ rfl w.heap.size _ (by rfl) (by rfl) _ _ bx1 (by kernel_rfl) (by rfl) (by simp [Value.oneCell']) ?_)
    (try simp only [Exit.inBlock, Exit.then]); refine bodyPost_ret (results_row2 rfl _ _ w.heap.size _ _ _ _ rfl (setRow_heap _ _ _ _ _ _ bx1) Try.underlying31 rfl (by kernel_rfl)) rfl ?_
    exact ⟨gp_bad HN.out, below_setRow hB1 (Nat.le_refl _) _⟩
end Go.Proofs.Ytnlnledijpcjpab
