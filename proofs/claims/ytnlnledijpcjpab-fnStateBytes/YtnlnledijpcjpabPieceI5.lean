/-
  Chapter 4: the program's pieceOfNums, GetPiece. Own work.
-/
import Derived.Test.YtnlnledijpcjpabPieceI4
namespace Go.Proofs.Ytnlnledijpcjpab
open Go.ChangeShapes Go.WideShapes Go.ChangeAt Go.RowKit
set_option maxRecDepth 100000
/-- the piece of thirteen numbers -/
def ofN (x0 x1 x2 x3 x4 x5 x6 x7 x8 x9 x10 x11 x12 : Int) : Pc := ⟨x0, x1, x2, x3, x4, x5, x6, x7, x8, x9, x10, x11 == 1, x12 == 1⟩
set_option maxHeartbeats 4000000 in
theorem pieceOfNums_any (x0 x1 x2 x3 x4 x5 x6 x7 x8 x9 x10 x11 x12 : Int) (w : World) :
    Calls Try.prog 92 #[.agg #[.int .i64 x0, .int .i64 x1, .int .i64 x2, .int .i64 x3, .int .i64 x4, .int .i64 x5, .int .i64 x6, .int .i64 x7, .int .i64 x8, .int .i64 x9, .int .i64 x10, .int .i64 x11, .int .i64 x12]] w fun e w' => e = .returned (.agg #[.int .i64 (ofN x0 x1 x2 x3 x4 x5 x6 x7 x8 x9 x10 x11 x12).id, .int .i64 (ofN x0 x1 x2 x3 x4 x5 x6 x7 x8 x9 x10 x11 x12).ow, .int .i64 (ofN x0 x1 x2 x3 x4 x5 x6 x7 x8 x9 x10 x11 x12).si, .int .i64 (ofN x0 x1 x2 x3 x4 x5 x6 x7 x8 x9 x10 x11 x12).zo, .int .i64 (ofN x0 x1 x2 x3 x4 x5 x6 x7 x8 x9 x10 x11 x12).st, .int .i64 (ofN x0 x1 x2 x3 x4 x5 x6 x7 x8 x9 x10 x11 x12).po, .int .i64 (ofN x0 x1 x2 x3 x4 x5 x6 x7 x8 x9 x10 x11 x12).to, .int .i64 (ofN x0 x1 x2 x3 x4 x5 x6 x7 x8 x9 x10 x11 x12).tr, .int .i64 (ofN x0 x1 x2 x3 x4 x5 x6 x7 x8 x9 x10 x11 x12).pl, .int .i64 (ofN x0 x1 x2 x3 x4 x5 x6 x7 x8 x9 x10 x11 x12).mi, .int .i64 (ofN x0 x1 x2 x3 x4 x5 x6 x7 x8 x9 x10 x11 x12).ma, .bool (ofN x0 x1 x2 x3 x4 x5 x6 x7 x8 x9 x10 x11 x12).de, .bool (ofN x0 x1 x2 x3 x4 x5 x6 x7 x8 x9 x10 x11 x12).be]) ∧ Below w.heap.size w w' := by
  go_enter Try.func92, Try.ntmps92
  go_wp2
  (try simp only [Exit.inBlock, Exit.then]); refine bodyPost_ret (results_cell_row rfl _ _ (w.heap.size + 1) _ _ _ _ rfl (heap_alloc2_new _ _ _) Try.underlying31 rfl (by kernel_rfl)) rfl ?_
  exact ⟨rfl, ((Below.refl _ w).alloc (Nat.le_refl _) _).alloc (by simp) _⟩
theorem zeros_vals : (vals .i64 13 (fun _ => 0)).toArray = #[.int .i64 0, .int .i64 0, .int .i64 0, .int .i64 0, .int .i64 0, .int .i64 0, .int .i64 0, .int .i64 0, .int .i64 0, .int .i64 0, .int .i64 0, .int .i64 0, .int .i64 0] := by rfl
theorem vals13 (g : Nat → Int) : (vals .i64 13 g).toArray = #[.int .i64 (g 0), .int .i64 (g 1), .int .i64 (g 2), .int .i64 (g 3), .int .i64 (g 4), .int .i64 (g 5), .int .i64 (g 6), .int .i64 (g 7), .int .i64 (g 8), .int .i64 (g 9), .int .i64 (g 10), .int .i64 (g 11), .int .i64 (g 12)] := by rfl
theorem rawP_of (n : Nat) (f : Nat → Int) (at' : Int) : rawP n f at' = ofN (gnL n f at' 0) (gnL n f at' 1) (gnL n f at' 2) (gnL n f at' 3) (gnL n f at' 4) (gnL n f at' 5) (gnL n f at' 6) (gnL n f at' 7) (gnL n f at' 8) (gnL n f at' 9) (gnL n f at' 10) (gnL n f at' 11) (gnL n f at' 12) := rfl
theorem til_end {n k : Nat} (f g : Nat → Int) (h : n ≤ k) : vals .i64 n (til k f g) = vals .i64 n f := vals_congr (til_all f g h)
theorem bt_ib (x : Int) : ib x 0 1 = true → bt (x == 1) = x := by
  unfold ib bt
  intro h
  simp only [Bool.and_eq_true, decide_eq_true_eq] at h
  by_cases e : x = 1
  · simp [e]
  · have : (x == 1) = false := by simpa using e
    rw [this]; simp; omega
theorem bt_nib (x : Int) : ib x 0 1 = false → ¬ bt (x == 1) = x := by
  unfold ib bt
  intro h e
  by_cases e1 : x = 1
  · subst e1; simp at h
  · have : (x == 1) = false := by simpa using e1
    rw [this] at e
    simp at e
    subst e
    simp at h
theorem numsOf_x (p : Pc) (w : World) : Calls Try.prog 89 #[(.agg #[.int .i64 p.id, .int .i64 p.ow, .int .i64 p.si, .int .i64 p.zo, .int .i64 p.st, .int .i64 p.po, .int .i64 p.to, .int .i64 p.tr, .int .i64 p.pl, .int .i64 p.mi, .int .i64 p.ma, .bool p.de, .bool p.be])] w fun e w' => e = .returned (.agg #[.int .i64 p.id, .int .i64 p.ow, .int .i64 p.si, .int .i64 p.zo, .int .i64 p.st, .int .i64 p.po, .int .i64 p.to, .int .i64 p.tr, .int .i64 p.pl, .int .i64 p.mi, .int .i64 p.ma, .int .i64 (bt p.de), .int .i64 (bt p.be)]) ∧ Below w.heap.size w w' := numsOfPiece_any p w
/-- two arrays of ints compared -/
theorem run_eqItems_ints {P : Program} {e : TypeId} (he : P.underlying e = some (.int .i64)) (hp : P.plainKey e = true) (d : Nat) (X Y : List Int) (w : World) : ∀ (m k : Nat), k + m = X.length → k + m = Y.length →
    (Op.eqItems (d + 1) e 1 (X.map (Value.int .i64)).toArray (Y.map (Value.int .i64)).toArray (List.range' k m)).run P w = .ok (decide (X.drop k = Y.drop k)) w
  | 0, k, h1, h2 => by
    rw [List.drop_eq_nil_of_le (by omega), List.drop_eq_nil_of_le (by omega)]
    simp [Op.eqItems]
  | m + 1, k, h1, h2 => by
    have hx : k < X.length := by omega
    have hy : k < Y.length := by omega
    have p1 := run_part_plain (P := P) w hp (xs := (X.map (Value.int .i64)).toArray) (off := k * 1) (v := .int .i64 X[k]) (by simp [hx])
    have p2 := run_part_plain (P := P) w hp (xs := (Y.map (Value.int .i64)).toArray) (off := k * 1) (v := .int .i64 Y[k]) (by simp [hy])
    have ih := run_eqItems_ints he hp d X Y w m (k + 1) (by omega) (by omega)
    rw [List.range'_succ]
    simp only [Op.eqItems, Sem.run_bind, p1, p2, Result.andThen_ok, run_equalIn_int w d e .i64 .i64 X[k] Y[k] he]
    have key : decide (X.drop k = Y.drop k) = (decide (X[k] = Y[k]) && decide (X.drop (k + 1) = Y.drop (k + 1))) := by
      have e1 := List.drop_eq_getElem_cons hx
      have e2 := List.drop_eq_getElem_cons hy
      rw [e1, e2]
      simp only [List.cons.injEq, Bool.decide_and]
    rw [key]
    by_cases h : X[k] = Y[k]
    · have hb : (X[k] == Y[k]) = true := by simpa using h
      rw [hb]
      simp only [Bool.not_true, Bool.false_eq_true, if_false]
      rw [ih, decide_eq_true h, Bool.true_and]
    · have hb : (X[k] == Y[k]) = false := by simpa using h
      rw [hb, decide_eq_false h]
      simp
theorem run_eq_ints {P : Program} {t e : TypeId} {n : Nat} {i : TypeInfo} {X Y : List Int} {r : Bool} (w : World) (hu : P.underlying t = some (.array n e)) (hi : P.info? e = some i) (hc : P.cellsOf e = 1) (he : P.underlying e = some (.int .i64)) (hp : P.plainKey e = true) (hX : X.length = n) (hY : Y.length = n) (hr : decide (X = Y) = r) :
    (Op.equalIn 10000 t (.agg (X.map (Value.int .i64)).toArray) (.agg (Y.map (Value.int .i64)).toArray)).run P w = .ok r w := by
  rw [run_equalIn_array w 9999 _ _ hu hi, hc, List.range_eq_range', run_eqItems_ints he hp 9998 X Y w n 0 (by omega) (by omega), ← hr]
  simp
set_option maxHeartbeats 8000000 in
theorem implGetPiece_any (a : Option Addr) (b n c : Nat) (at' : Int) (f : Nat → Int) (w : World) (hn : n ≤ 100000000) (hcap : n ≤ c) (ha : -9223372036854775808 ≤ at' ∧ at' ≤ 9223372036854775807) (hu : U8 n f) (h : Rd .u8 w b a n f) :
    Calls Try.prog 40 #[.slice a n c, .int .i64 at'] w fun e w' => e = .returned (.tuple #[(.agg #[.int .i64 (gpP n f at').id, .int .i64 (gpP n f at').ow, .int .i64 (gpP n f at').si, .int .i64 (gpP n f at').zo, .int .i64 (gpP n f at').st, .int .i64 (gpP n f at').po, .int .i64 (gpP n f at').to, .int .i64 (gpP n f at').tr, .int .i64 (gpP n f at').pl, .int .i64 (gpP n f at').mi, .int .i64 (gpP n f at').ma, .bool (gpP n f at').de, .bool (gpP n f at').be]), .int .i64 (gpX n f at'), .bool (gpOk n f at')]) ∧ Below w.heap.size w w' := by
  obtain ⟨j0, hj, _, _, _⟩ := info_parts Try.infoInt
  have hb0 : Below w.heap.size w (w.alloc (.cells #[.int .i64 0, .int .i64 0, .int .i64 0, .int .i64 0, .int .i64 0, .int .i64 0, .int .i64 0, .int .i64 0, .int .i64 0, .int .i64 0, .int .i64 0, .bool false, .bool false] 31)) := (Below.refl _ w).alloc (Nat.le_refl _) _
  have hb1 := below_setRow (g := w.heap.size + 1) (hb0.alloc hb0.size (.cells #[.int .i64 0, .int .i64 0, .int .i64 0, .int .i64 0, .int .i64 0, .int .i64 0, .int .i64 0, .int .i64 0, .int .i64 0, .int .i64 0, .int .i64 0, .int .i64 0, .int .i64 0] 101)) (by omega) #[.int .i64 0, .int .i64 0, .int .i64 0, .int .i64 0, .int .i64 0, .int .i64 0, .int .i64 0, .int .i64 0, .int .i64 0, .int .i64 0, .int .i64 0, .int .i64 0, .int .i64 0]
  have hbA : Below (w.heap.size + 1) (w.alloc (.cells #[.int .i64 0, .int .i64 0, .int .i64 0, .int .i64 0, .int .i64 0, .int .i64 0, .int .i64 0, .int .i64 0, .int .i64 0, .int .i64 0, .int .i64 0, .bool false, .bool false] 31)) ((w.alloc (.cells #[.int .i64 0, .int .i64 0, .int .i64 0, .int .i64 0, .int .i64 0, .int .i64 0, .int .i64 0, .int .i64 0, .int .i64 0, .int .i64 0, .int .i64 0, .bool false, .bool false] 31)).alloc (.cells #[.int .i64 0, .int .i64 0, .int .i64 0, .int .i64 0, .int .i64 0, .int .i64 0, .int .i64 0, .int .i64 0, .int .i64 0, .int .i64 0, .int .i64 0, .int .i64 0, .int .i64 0] 101)) := (Below.refl _ _).alloc (by simp) _
  have hbS := below_setRow (g := w.heap.size + 1) hbA (Nat.le_refl _) #[.int .i64 0, .int .i64 0, .int .i64 0, .int .i64 0, .int .i64 0, .int .i64 0, .int .i64 0, .int .i64 0, .int .i64 0, .int .i64 0, .int .i64 0, .int .i64 0, .int .i64 0]
  have bx1 : BoxP (((w.alloc (.cells #[.int .i64 0, .int .i64 0, .int .i64 0, .int .i64 0, .int .i64 0, .int .i64 0, .int .i64 0, .int .i64 0, .int .i64 0, .int .i64 0, .int .i64 0, .bool false, .bool false] 31)).alloc (.cells #[.int .i64 0, .int .i64 0, .int .i64 0, .int .i64 0, .int .i64 0, .int .i64 0, .int .i64 0, .int .i64 0, .int .i64 0, .int .i64 0, .int .i64 0, .int .i64 0, .int .i64 0] 101)).setRow (w.heap.size + 1) #[.int .i64 0, .int .i64 0, .int .i64 0, .int .i64 0, .int .i64 0, .int .i64 0, .int .i64 0, .int .i64 0, .int .i64 0, .int .i64 0, .int .i64 0, .int .i64 0, .int .i64 0]) w.heap.size 31 zeroP := (hbS.block w.heap.size (by omega)).trans (show BoxP (w.alloc (.cells #[.int .i64 0, .int .i64 0, .int .i64 0, .int .i64 0, .int .i64 0, .int .i64 0, .int .i64 0, .int .i64 0, .int .i64 0, .int .i64 0, .int .i64 0, .bool false, .bool false] 31)) w.heap.size 31 zeroP from box_new w 31 zeroP)
  have hr0 : ((w.alloc (.cells #[.int .i64 0, .int .i64 0, .int .i64 0, .int .i64 0, .int .i64 0, .int .i64 0, .int .i64 0, .int .i64 0, .int .i64 0, .int .i64 0, .int .i64 0, .bool false, .bool false] 31)).alloc (.cells #[.int .i64 0, .int .i64 0, .int .i64 0, .int .i64 0, .int .i64 0, .int .i64 0, .int .i64 0, .int .i64 0, .int .i64 0, .int .i64 0, .int .i64 0, .int .i64 0, .int .i64 0] 101)).heap[w.heap.size + 1]? = some (.cells #[.int .i64 0, .int .i64 0, .int .i64 0, .int .i64 0, .int .i64 0, .int .i64 0, .int .i64 0, .int .i64 0, .int .i64 0, .int .i64 0, .int .i64 0, .int .i64 0, .int .i64 0] 101 (0, 0)) := heap_alloc2_new _ _ _
  have hr1 := setRow_heap _ _ _ #[.int .i64 0, .int .i64 0, .int .i64 0, .int .i64 0, .int .i64 0, .int .i64 0, .int .i64 0, .int .i64 0, .int .i64 0, .int .i64 0, .int .i64 0, .int .i64 0, .int .i64 0] _ _ hr0
  clear hb0 hbA hbS
  go_enter Try.func40, Try.ntmps40
  go_wp2_with (refine wpList_store_row rfl _ _ _ rfl (w.heap.size + 1) #[.int .i64 0, .int .i64 0, .int .i64 0, .int .i64 0, .int .i64 0, .int .i64 0, .int .i64 0, .int .i64 0, .int .i64 0, .int .i64 0, .int .i64 0, .int .i64 0, .int .i64 0] (by rfl) (by rfl) _ _ hr0 (by kernel_rfl) (by rfl) (by simp [Value.oneCell']) ?_; generalize ((w.alloc (.cells #[.int .i64 0, .int .i64 0, .int .i64 0, .int .i64 0, .int .i64 0, .int .i64 0, .int .i64 0, .int .i64 0, .int .i64 0, .int .i64 0, .int .i64 0, .bool false, .bool false] 31)).alloc (.cells #[.int .i64 0, .int .i64 0, .int .i64 0, .int .i64 0, .int .i64 0, .int .i64 0, .int .i64 0, .int .i64 0, .int .i64 0, .int .i64 0, .int .i64 0, .int .i64 0, .int .i64 0] 101)).setRow (w.heap.size + 1) #[.int .i64 0, .int .i64 0, .int .i64 0, .int .i64 0, .int .i64 0, .int .i64 0, .int .i64 0, .int .i64 0, .int .i64 0, .int .i64 0, .int .i64 0, .int .i64 0, .int .i64 0] = W1 at hb1 bx1 hr1 ⊢; clear hr0)
  have HR : Hid (W1.heap[w.heap.size + 1]? = some (.cells (vals .i64 13 (til 0 (gnL n f at') (fun _ => 0))).toArray 101 (0, 0))) := by rw [til_zero]; exact hr1
  clear hr1
  go_loopw [1, 14] (fun x i wr => ∃ k : Nat, k ≤ 13 ∧ i = .int .i64 k ∧ x = .int .i64 (at' + 4 * (k : Int)) ∧ Hid (wr.heap[w.heap.size + 1]? = some (.cells (vals .i64 13 (til k (gnL n f at') (fun _ => 0))).toArray 101 (0, 0))) ∧ BoxP wr w.heap.size 31 zeroP ∧ Below w.heap.size w wr ∧ Hid (∀ j, j < k → gok n f (at' + 4 * (j : Int)) = true)) (fun _ i _ => 13 - (intOf i).toNat)
  case atStart => exact ⟨0, Nat.zero_le _, rfl, by simp, HR, bx1, hb1, fun j hj => by omega⟩
  case round =>
    clear HR bx1 hb1
    obtain ⟨k, hk, rfl, rfl, hr, bx, hb, hall⟩ := hrel
    by_cases hlt : k < 13
    · have hy1 : -9223372036854775808 ≤ at' + 4 * (k : Int) ∧ at' + 4 * (k : Int) ≤ 9223372036854775807 := by
        rcases Nat.eq_zero_or_pos k with rfl | hk0
        · simpa using ha
        · have := gok_rng' (hall.out (k - 1) (by omega))
          omega
      obtain ⟨y, hy⟩ : ∃ y, at' + 4 * (k : Int) = y := ⟨_, rfl⟩
      rw [hy] at hy1
      rw [hy]
      cases hg : gok n f y with
      | false =>
        have HN : Hid (gpOk n f at' = false) := by show gpOk n f at' = false; unfold gpOk; rw [gnOk_no hlt (by rw [hy]; exact hg)]; rfl
        go_wp2_with fail
        refine (implGetNum_any a b n c y f _ (by omega) hcap hy1 hu (h.grew hb)).mono ?_
        rintro e w1 ⟨rfl, hb1⟩
        rw [hg]
        have bx1 := bx.grew hb1
        have hB1 := below_app hb hb1 hb.size
        clear hall hr bx hb hb1 hy
        go_wp2_with (refine wpList_store_row rfl _ _ _ rfl w.heap.size _ (by rfl) (by rfl) _ _ bx1 (by kernel_rfl) (by rfl) (by simp [Value.oneCell']) ?_)
        (try simp only [Exit.inBlock, Exit.then]); refine bodyPost_ret (results_row2 rfl _ _ w.heap.size _ _ _ _ rfl (setRow_heap _ _ _ _ _ _ bx1) Try.underlying31 rfl (by kernel_rfl)) rfl ?_
        exact ⟨gp_bad HN.out, below_setRow hB1 (Nat.le_refl _) _⟩
      | true =>
        have hrg := gok_rng' hg
        have hnx := gnext_ok' hg
        have HA : Hid (∀ j, j < k + 1 → gok n f (at' + 4 * (j : Int)) = true) := fun j hj => by
          by_cases e : j = k
          · subst e; rw [hy]; exact hg
          · exact hall j (by omega)
        have HY : Hid (y + 4 = at' + 4 * ((k + 1 : Nat) : Int)) := show _ = _ by rw [← hy]; push_cast; omega
        have HG : Hid (gnL n f at' k = gnum n f y) := show _ = _ by unfold gnL; rw [hy]
        clear hall hy
        go_wp2_with fail
        refine (implGetNum_any a b n c y f _ (by omega) hcap hy1 hu (h.grew hb)).mono ?_
        rintro e w1 ⟨rfl, hb1⟩
        rw [hg, hnx]
        have bx1 := bx.grew hb1
        have hB1 := below_app hb hb1 hb.size
        have hr1 : Hid (w1.heap[w.heap.size + 1]? = some (.cells (vals .i64 13 (til k (gnL n f at') (fun _ => 0))).toArray 101 (0, 0))) := (hb1.block _ (lt_row hr.out)).trans hr.out
        have hc1 : w1.cell? ⟨w.heap.size + 1, k, none⟩ = some (.int .i64 (til k (gnL n f at') (fun _ => 0) k)) := by
          have := own_row (B := 0) hr1.out (Nat.zero_le _)
          have := this.cell k hlt
          rwa [Nat.zero_add] at this
        have hf1 : w1.frozen? ⟨w.heap.size + 1, k, none⟩ = false := frozen_of_row _ _ _ _ _ hr1.out
        generalize til k (gnL n f at') (fun _ => 0) k = old at hc1
        clear hg hnx hr bx hb hb1
        go_wp2
        have HR2 : Hid ((w1.setCell ⟨w.heap.size + 1, k, none⟩ (.int .i64 (gnum n f y))).heap[w.heap.size + 1]? = some (.cells (vals .i64 13 (til (k + 1) (gnL n f at') (fun _ => 0))).toArray 101 (0, 0))) := by
          have := row_put hr1.out k (gnum n f y) hlt
          rw [← HG.out, til_step] at this
          rw [← HG.out]; exact this
        have bx2 : BoxP (w1.setCell ⟨w.heap.size + 1, k, none⟩ (.int .i64 (gnum n f y))) w.heap.size 31 zeroP := (Below.heap_setCell _ _ _ _ (by simp)).trans bx1
        have hB2 : Below w.heap.size w (w1.setCell ⟨w.heap.size + 1, k, none⟩ (.int .i64 (gnum n f y))) := hB1.setCell (by simp) _
        go_roundw
        case rel => first | exact ⟨k + 1, by omega, by go_num, by rw [HY.out], HR2, bx2, hB2, HA⟩ | ((repeat apply Exists.intro); exact ⟨⟨k + 1, by omega, by go_num, by rw [HY.out], HR2, bx2, hB2, HA⟩, rfl⟩)
        case measure => simp [intOf]; omega
    · obtain rfl : k = 13 := by omega
      have HO : Hid (gnOk n f at' = true) := gnOk_yes hall.out
      have hr1 := hr.out
      rw [til_end _ _ (Nat.le_refl _)] at hr1
      have hcl : ∀ j, j < 13 → wr.cell? ⟨w.heap.size + 1, j, none⟩ = some (.int .i64 (gnL n f at' j)) := fun j hj => by
        have := (own_row (B := 0) hr1 (Nat.zero_le _)).cell j hj
        rwa [Nat.zero_add] at this
      have c0 := hcl 0 (by decide)
      have c1 := hcl 1 (by decide)
      have c2 := hcl 2 (by decide)
      have c3 := hcl 3 (by decide)
      have c4 := hcl 4 (by decide)
      have c5 := hcl 5 (by decide)
      have c6 := hcl 6 (by decide)
      have c7 := hcl 7 (by decide)
      have c8 := hcl 8 (by decide)
      have c9 := hcl 9 (by decide)
      have c10 := hcl 10 (by decide)
      have c11 := hcl 11 (by decide)
      have c12 := hcl 12 (by decide)
      clear hall hr
      go_wp2_with fail
      refine (pieceOfNums_any (gnL n f at' 0) (gnL n f at' 1) (gnL n f at' 2) (gnL n f at' 3) (gnL n f at' 4) (gnL n f at' 5) (gnL n f at' 6) (gnL n f at' 7) (gnL n f at' 8) (gnL n f at' 9) (gnL n f at' 10) (gnL n f at' 11) (gnL n f at' 12) _).mono ?_
      rintro e w1 ⟨he, hb1⟩
      rw [← rawP_of] at he
      subst he
      have hnew : (w1.alloc (.cells #[.int .i64 0, .int .i64 0, .int .i64 0, .int .i64 0, .int .i64 0, .int .i64 0, .int .i64 0, .int .i64 0, .int .i64 0, .int .i64 0, .int .i64 0, .bool false, .bool false] 31)).heap[w1.heap.size]? = some (.cells #[.int .i64 0, .int .i64 0, .int .i64 0, .int .i64 0, .int .i64 0, .int .i64 0, .int .i64 0, .int .i64 0, .int .i64 0, .int .i64 0, .int .i64 0, .bool false, .bool false] 31 (0, 0)) := heap_alloc_new w1 _
      have hbX : Below w1.heap.size w1 (w1.alloc (.cells #[.int .i64 0, .int .i64 0, .int .i64 0, .int .i64 0, .int .i64 0, .int .i64 0, .int .i64 0, .int .i64 0, .int .i64 0, .int .i64 0, .int .i64 0, .bool false, .bool false] 31)) := below_new _ _
      have bV : BoxP ((w1.alloc (.cells #[.int .i64 0, .int .i64 0, .int .i64 0, .int .i64 0, .int .i64 0, .int .i64 0, .int .i64 0, .int .i64 0, .int .i64 0, .int .i64 0, .int .i64 0, .bool false, .bool false] 31)).setRow w1.heap.size #[.int .i64 (rawP n f at').id, .int .i64 (rawP n f at').ow, .int .i64 (rawP n f at').si, .int .i64 (rawP n f at').zo, .int .i64 (rawP n f at').st, .int .i64 (rawP n f at').po, .int .i64 (rawP n f at').to, .int .i64 (rawP n f at').tr, .int .i64 (rawP n f at').pl, .int .i64 (rawP n f at').mi, .int .i64 (rawP n f at').ma, .bool (rawP n f at').de, .bool (rawP n f at').be]) w1.heap.size 31 (rawP n f at') := setRow_heap _ _ _ _ _ _ hnew
      have hbV : Below w1.heap.size w1 ((w1.alloc (.cells #[.int .i64 0, .int .i64 0, .int .i64 0, .int .i64 0, .int .i64 0, .int .i64 0, .int .i64 0, .int .i64 0, .int .i64 0, .int .i64 0, .int .i64 0, .bool false, .bool false] 31)).setRow w1.heap.size #[.int .i64 (rawP n f at').id, .int .i64 (rawP n f at').ow, .int .i64 (rawP n f at').si, .int .i64 (rawP n f at').zo, .int .i64 (rawP n f at').st, .int .i64 (rawP n f at').po, .int .i64 (rawP n f at').to, .int .i64 (rawP n f at').tr, .int .i64 (rawP n f at').pl, .int .i64 (rawP n f at').mi, .int .i64 (rawP n f at').ma, .bool (rawP n f at').de, .bool (rawP n f at').be]) := below_setRow hbX (Nat.le_refl _) _
      have hB1 := below_app hb hb1 hb.size
      have bx1 := bx.grew hb1
      have hcl1 : ∀ j, j < 13 → w1.cell? ⟨w.heap.size + 1, j, none⟩ = some (.int .i64 (gnL n f at' j)) := fun j hj => (hb1.cell (p := ⟨w.heap.size + 1, j, none⟩) (World.block_lt_of_cell? wr _ (hcl j hj))).trans (hcl j hj)
      clear c0 c1 c2 c3 c4 c5 c6 c7 c8 c9 c10 c11 c12 hcl hb hb1 bx hr1
      go_wp2_with (refine wpList_store_row rfl _ _ _ rfl w1.heap.size #[.int .i64 (rawP n f at').id, .int .i64 (rawP n f at').ow, .int .i64 (rawP n f at').si, .int .i64 (rawP n f at').zo, .int .i64 (rawP n f at').st, .int .i64 (rawP n f at').po, .int .i64 (rawP n f at').to, .int .i64 (rawP n f at').tr, .int .i64 (rawP n f at').pl, .int .i64 (rawP n f at').mi, .int .i64 (rawP n f at').ma, .bool (rawP n f at').de, .bool (rawP n f at').be] (by rfl) (by rfl) _ _ hnew (by kernel_rfl) (by rfl) (by simp [Value.oneCell']) ?_; generalize (w1.alloc (.cells #[.int .i64 0, .int .i64 0, .int .i64 0, .int .i64 0, .int .i64 0, .int .i64 0, .int .i64 0, .int .i64 0, .int .i64 0, .int .i64 0, .int .i64 0, .bool false, .bool false] 31)).setRow w1.heap.size #[.int .i64 (rawP n f at').id, .int .i64 (rawP n f at').ow, .int .i64 (rawP n f at').si, .int .i64 (rawP n f at').zo, .int .i64 (rawP n f at').st, .int .i64 (rawP n f at').po, .int .i64 (rawP n f at').to, .int .i64 (rawP n f at').tr, .int .i64 (rawP n f at').pl, .int .i64 (rawP n f at').mi, .int .i64 (rawP n f at').ma, .bool (rawP n f at').de, .bool (rawP n f at').be] = V at bV hbV ⊢; clear hnew hbX)
      have hclV : ∀ j, j < 13 → V.cell? ⟨w.heap.size + 1, j, none⟩ = some (.int .i64 (gnL n f at' j)) := fun j hj => (hbV.cell (p := ⟨w.heap.size + 1, j, none⟩) (World.block_lt_of_cell? w1 _ (hcl1 j hj))).trans (hcl1 j hj)
      have bxV := bx1.grew hbV
      have hBV := below_app hB1 hbV hB1.size
      have hne := bw_ne V
      clear hcl1 hbV hB1 bx1
      have d0 := fun x : BW V => x.cell (hclV 0 (by decide))
      have d1 := fun x : BW V => x.cell (hclV 1 (by decide))
      have d2 := fun x : BW V => x.cell (hclV 2 (by decide))
      have d3 := fun x : BW V => x.cell (hclV 3 (by decide))
      have d4 := fun x : BW V => x.cell (hclV 4 (by decide))
      have d5 := fun x : BW V => x.cell (hclV 5 (by decide))
      have d6 := fun x : BW V => x.cell (hclV 6 (by decide))
      have d7 := fun x : BW V => x.cell (hclV 7 (by decide))
      have d8 := fun x : BW V => x.cell (hclV 8 (by decide))
      have d9 := fun x : BW V => x.cell (hclV 9 (by decide))
      have d10 := fun x : BW V => x.cell (hclV 10 (by decide))
      have d11 := fun x : BW V => x.cell (hclV 11 (by decide))
      have d12 := fun x : BW V => x.cell (hclV 12 (by decide))
      obtain ⟨k0, k1, k2, k3, k4, k5, k6, k7, k8, k9, k10, k11, k12⟩ : Cells13 _ _ _ := bV.cells
      have e0 := fun x : BW V => x.cell k0
      have e1 := fun x : BW V => x.cell k1
      have e2 := fun x : BW V => x.cell k2
      have e3 := fun x : BW V => x.cell k3
      have e4 := fun x : BW V => x.cell k4
      have e5 := fun x : BW V => x.cell k5
      have e6 := fun x : BW V => x.cell k6
      have e7 := fun x : BW V => x.cell k7
      have e8 := fun x : BW V => x.cell k8
      have e9 := fun x : BW V => x.cell k9
      have e10 := fun x : BW V => x.cell k10
      have e11 := fun x : BW V => x.cell k11
      have e12 := fun x : BW V => x.cell k12
      clear k0 k1 k2 k3 k4 k5 k6 k7 k8 k9 k10 k11 k12 hclV
      simp only [Act.put]
      refine wp_region_below_lit (W := V) 3 (by kernel_rfl) (by kernel_rfl) (by decide) (Below.refl _ _) (by intro c d v a w h; cases d <;> exact h) ?_
      simp only [List.take_succ_cons, List.take_zero, List.drop_succ_cons, List.drop_zero]
      repeat (go_big_quiet_step ((go_at_call 89; refine quiet_below (numsOf_x (rawP n f at') _))))
      refine wpQuiet_nil ?_
      rintro _ ⟨x, rfl⟩
      clear d0 d1 d2 d3 d4 d5 d6 d7 d8 d9 d10 d11 d12
      have r0 : (rawP n f at').id = gnL n f at' 0 := rfl
      have r1 : (rawP n f at').ow = gnL n f at' 1 := rfl
      have r2 : (rawP n f at').si = gnL n f at' 2 := rfl
      have r3 : (rawP n f at').zo = gnL n f at' 3 := rfl
      have r4 : (rawP n f at').st = gnL n f at' 4 := rfl
      have r5 : (rawP n f at').po = gnL n f at' 5 := rfl
      have r6 : (rawP n f at').to = gnL n f at' 6 := rfl
      have r7 : (rawP n f at').tr = gnL n f at' 7 := rfl
      have r8 : (rawP n f at').pl = gnL n f at' 8 := rfl
      have r9 : (rawP n f at').mi = gnL n f at' 9 := rfl
      have r10 : (rawP n f at').ma = gnL n f at' 10 := rfl
      have bxx := bxV.grew x.h
      have bVx := bV.grew x.h
      have hBx := below_app hBV x.h hBV.size
      clear bxV bV hBV hne e0 e1 e2 e3 e4 e5 e6 e7 e8 e9 e10 e11 e12
      cases h11 : ib (gnL n f at' 11) 0 1 with
      | false =>
        have HN : Hid (gpOk n f at' = false) := by show gpOk n f at' = false; unfold gpOk; rw [h11]; simp
        have n11 : ¬ bt (rawP n f at').de = gnL n f at' 11 := bt_nib _ h11
        have heq : (Op.equalIn 10000 101 (.agg #[.int .i64 (gnL n f at' 0), .int .i64 (gnL n f at' 1), .int .i64 (gnL n f at' 2), .int .i64 (gnL n f at' 3), .int .i64 (gnL n f at' 4), .int .i64 (gnL n f at' 5), .int .i64 (gnL n f at' 6), .int .i64 (gnL n f at' 7), .int .i64 (gnL n f at' 8), .int .i64 (gnL n f at' 9), .int .i64 (gnL n f at' 10), .int .i64 (bt (rawP n f at').de), .int .i64 (bt (rawP n f at').be)]) (.agg #[.int .i64 (gnL n f at' 0), .int .i64 (gnL n f at' 1), .int .i64 (gnL n f at' 2), .int .i64 (gnL n f at' 3), .int .i64 (gnL n f at' 4), .int .i64 (gnL n f at' 5), .int .i64 (gnL n f at' 6), .int .i64 (gnL n f at' 7), .int .i64 (gnL n f at' 8), .int .i64 (gnL n f at' 9), .int .i64 (gnL n f at' 10), .int .i64 (gnL n f at' 11), .int .i64 (gnL n f at' 12)])).run Try.prog x.u = .ok false x.u := run_eq_ints (X := [gnL n f at' 0, gnL n f at' 1, gnL n f at' 2, gnL n f at' 3, gnL n f at' 4, gnL n f at' 5, gnL n f at' 6, gnL n f at' 7, gnL n f at' 8, gnL n f at' 9, gnL n f at' 10, bt (rawP n f at').de, bt (rawP n f at').be]) (Y := [gnL n f at' 0, gnL n f at' 1, gnL n f at' 2, gnL n f at' 3, gnL n f at' 4, gnL n f at' 5, gnL n f at' 6, gnL n f at' 7, gnL n f at' 8, gnL n f at' 9, gnL n f at' 10, gnL n f at' 11, gnL n f at' 12]) x.u Try.underlying101 hj (by kernel_rfl) Try.underlying3 (by kernel_rfl) rfl rfl (by simp [n11])
        go_wp2_with (refine wpList_store_row rfl _ _ _ rfl w.heap.size _ (by rfl) (by rfl) _ _ bxx (by kernel_rfl) (by rfl) (by simp [Value.oneCell']) ?_)
        (try simp only [Exit.inBlock, Exit.then]); refine bodyPost_ret (results_row2 rfl _ _ w.heap.size _ _ _ _ rfl (setRow_heap _ _ _ _ _ _ bxx) Try.underlying31 rfl (by kernel_rfl)) rfl ?_
        exact ⟨gp_bad HN.out, below_setRow hBx (Nat.le_refl _) _⟩
      | true =>
      have r11 : bt (rawP n f at').de = gnL n f at' 11 := bt_ib _ h11
      cases h12 : ib (gnL n f at' 12) 0 1 with
      | false =>
        have HN : Hid (gpOk n f at' = false) := by show gpOk n f at' = false; unfold gpOk; rw [h12]; simp
        have n12 : ¬ bt (rawP n f at').be = gnL n f at' 12 := bt_nib _ h12
        have heq : (Op.equalIn 10000 101 (.agg #[.int .i64 (gnL n f at' 0), .int .i64 (gnL n f at' 1), .int .i64 (gnL n f at' 2), .int .i64 (gnL n f at' 3), .int .i64 (gnL n f at' 4), .int .i64 (gnL n f at' 5), .int .i64 (gnL n f at' 6), .int .i64 (gnL n f at' 7), .int .i64 (gnL n f at' 8), .int .i64 (gnL n f at' 9), .int .i64 (gnL n f at' 10), .int .i64 (gnL n f at' 11), .int .i64 (bt (rawP n f at').be)]) (.agg #[.int .i64 (gnL n f at' 0), .int .i64 (gnL n f at' 1), .int .i64 (gnL n f at' 2), .int .i64 (gnL n f at' 3), .int .i64 (gnL n f at' 4), .int .i64 (gnL n f at' 5), .int .i64 (gnL n f at' 6), .int .i64 (gnL n f at' 7), .int .i64 (gnL n f at' 8), .int .i64 (gnL n f at' 9), .int .i64 (gnL n f at' 10), .int .i64 (gnL n f at' 11), .int .i64 (gnL n f at' 12)])).run Try.prog x.u = .ok false x.u := run_eq_ints (X := [gnL n f at' 0, gnL n f at' 1, gnL n f at' 2, gnL n f at' 3, gnL n f at' 4, gnL n f at' 5, gnL n f at' 6, gnL n f at' 7, gnL n f at' 8, gnL n f at' 9, gnL n f at' 10, gnL n f at' 11, bt (rawP n f at').be]) (Y := [gnL n f at' 0, gnL n f at' 1, gnL n f at' 2, gnL n f at' 3, gnL n f at' 4, gnL n f at' 5, gnL n f at' 6, gnL n f at' 7, gnL n f at' 8, gnL n f at' 9, gnL n f at' 10, gnL n f at' 11, gnL n f at' 12]) x.u Try.underlying101 hj (by kernel_rfl) Try.underlying3 (by kernel_rfl) rfl rfl (by simp [n12])
        go_wp2_with (refine wpList_store_row rfl _ _ _ rfl w.heap.size _ (by rfl) (by rfl) _ _ bxx (by kernel_rfl) (by rfl) (by simp [Value.oneCell']) ?_)
        (try simp only [Exit.inBlock, Exit.then]); refine bodyPost_ret (results_row2 rfl _ _ w.heap.size _ _ _ _ rfl (setRow_heap _ _ _ _ _ _ bxx) Try.underlying31 rfl (by kernel_rfl)) rfl ?_
        exact ⟨gp_bad HN.out, below_setRow hBx (Nat.le_refl _) _⟩
      | true =>
        have r12 : bt (rawP n f at').be = gnL n f at' 12 := bt_ib _ h12
        have HP : Hid (gpOk n f at' = okP (rawP n f at')) := by show gpOk n f at' = _; unfold gpOk; rw [HO.out, h11, h12]; rfl
        obtain ⟨k0, k1, k2, k3, k4, k5, k6, k7, k8, k9, k10, k11, k12⟩ : Cells13 _ _ _ := bVx.cells
        have heq : (Op.equalIn 10000 101 (.agg #[.int .i64 (gnL n f at' 0), .int .i64 (gnL n f at' 1), .int .i64 (gnL n f at' 2), .int .i64 (gnL n f at' 3), .int .i64 (gnL n f at' 4), .int .i64 (gnL n f at' 5), .int .i64 (gnL n f at' 6), .int .i64 (gnL n f at' 7), .int .i64 (gnL n f at' 8), .int .i64 (gnL n f at' 9), .int .i64 (gnL n f at' 10), .int .i64 (gnL n f at' 11), .int .i64 (gnL n f at' 12)]) (.agg #[.int .i64 (gnL n f at' 0), .int .i64 (gnL n f at' 1), .int .i64 (gnL n f at' 2), .int .i64 (gnL n f at' 3), .int .i64 (gnL n f at' 4), .int .i64 (gnL n f at' 5), .int .i64 (gnL n f at' 6), .int .i64 (gnL n f at' 7), .int .i64 (gnL n f at' 8), .int .i64 (gnL n f at' 9), .int .i64 (gnL n f at' 10), .int .i64 (gnL n f at' 11), .int .i64 (gnL n f at' 12)])).run Try.prog x.u = .ok true x.u := run_eq_ints (X := [gnL n f at' 0, gnL n f at' 1, gnL n f at' 2, gnL n f at' 3, gnL n f at' 4, gnL n f at' 5, gnL n f at' 6, gnL n f at' 7, gnL n f at' 8, gnL n f at' 9, gnL n f at' 10, gnL n f at' 11, gnL n f at' 12]) (Y := [gnL n f at' 0, gnL n f at' 1, gnL n f at' 2, gnL n f at' 3, gnL n f at' 4, gnL n f at' 5, gnL n f at' 6, gnL n f at' 7, gnL n f at' 8, gnL n f at' 9, gnL n f at' 10, gnL n f at' 11, gnL n f at' 12]) x.u Try.underlying101 hj (by kernel_rfl) Try.underlying3 (by kernel_rfl) rfl rfl (by simp)
        go_wp2_with fail
        refine (implPieceOk_any (rawP n f at') _).mono ?_
        rintro e w3 ⟨rfl, hb3⟩
        have bx3 := bxx.grew hb3
        have bV3 := bVx.grew hb3
        have hB3 := below_app hBx hb3 hBx.size
        clear k0 k1 k2 k3 k4 k5 k6 k7 k8 k9 k10 k11 k12 bxx bVx hBx hb3
        obtain ⟨k0, k1, k2, k3, k4, k5, k6, k7, k8, k9, k10, k11, k12⟩ : Cells13 _ _ _ := bV3.cells
        clear r0 r1 r2 r3 r4 r5 r6 r7 r8 r9 r10 r11 r12 h11 h12
        cases hok : okP (rawP n f at') with
        | false =>
          have HN : Hid (gpOk n f at' = false) := by show gpOk n f at' = false; rw [HP.out]; exact hok
          go_wp2_with (refine wpList_store_row rfl _ _ _ rfl w.heap.size _ (by rfl) (by rfl) _ _ bx3 (by kernel_rfl) (by rfl) (by simp [Value.oneCell']) ?_)
          (try simp only [Exit.inBlock, Exit.then]); refine bodyPost_ret (results_row2 rfl _ _ w.heap.size _ _ _ _ rfl (setRow_heap _ _ _ _ _ _ bx3) Try.underlying31 rfl (by kernel_rfl)) rfl ?_
          exact ⟨gp_bad HN.out, below_setRow hB3 (Nat.le_refl _) _⟩
        | true =>
          have HN : Hid (gpOk n f at' = true) := by show gpOk n f at' = true; rw [HP.out]; exact hok
          go_wp2_with (refine wpList_store_row rfl _ _ _ rfl w.heap.size _ (by rfl) (by rfl) _ _ bx3 (by kernel_rfl) (by rfl) (by simp [Value.oneCell']) ?_)
          (try simp only [Exit.inBlock, Exit.then]); refine bodyPost_ret (results_row2 rfl _ _ w.heap.size _ _ _ _ rfl (setRow_heap _ _ _ _ _ _ bx3) Try.underlying31 rfl (by kernel_rfl)) rfl ?_
          exact ⟨gp_good HN.out, below_setRow hB3 (Nat.le_refl _) _⟩
end Go.Proofs.Ytnlnledijpcjpab
