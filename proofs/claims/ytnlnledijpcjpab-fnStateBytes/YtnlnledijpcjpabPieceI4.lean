/-
  Chapter 4: the program's numsOfPiece, PutPiece. Own work.
-/
import Derived.Test.YtnlnledijpcjpabPieceOkI
import Derived.Test.YtnlnledijpcjpabPiece5
import Derived.Test.YtnlnledijpcjpabListsA
namespace Go.Proofs.Ytnlnledijpcjpab
open Go.ChangeShapes Go.WideShapes Go.ChangeAt Go.RowKit
set_option maxRecDepth 100000
/-- the array of a piece's numbers -/
def arC (p : Pc) : Array Value := #[.int .i64 p.id, .int .i64 p.ow, .int .i64 p.si, .int .i64 p.zo, .int .i64 p.st, .int .i64 p.po, .int .i64 p.to, .int .i64 p.tr, .int .i64 p.pl, .int .i64 p.mi, .int .i64 p.ma, .int .i64 (bt p.de), .int .i64 (bt p.be)]
theorem flagNum_b (b : Bool) (w : World) : Calls Try.prog 107 #[.bool b] w fun e w' => e = .returned (.int .i64 (bt b)) ∧ w' = w := flagNum_any b w
set_option maxHeartbeats 8000000 in
theorem numsOfPiece_any (p : Pc) (w : World) :
    Calls Try.prog 89 #[(.agg #[.int .i64 p.id, .int .i64 p.ow, .int .i64 p.si, .int .i64 p.zo, .int .i64 p.st, .int .i64 p.po, .int .i64 p.to, .int .i64 p.tr, .int .i64 p.pl, .int .i64 p.mi, .int .i64 p.ma, .bool p.de, .bool p.be])] w fun e w' => e = .returned (.agg (arC p)) ∧ Below w.heap.size w w' := by
  have hb0 := ((Below.refl _ w).alloc (Nat.le_refl _) (.cells #[.int .i64 p.id, .int .i64 p.ow, .int .i64 p.si, .int .i64 p.zo, .int .i64 p.st, .int .i64 p.po, .int .i64 p.to, .int .i64 p.tr, .int .i64 p.pl, .int .i64 p.mi, .int .i64 p.ma, .bool p.de, .bool p.be] 31)).alloc (by simp) (.cells #[.int .i64 0, .int .i64 0, .int .i64 0, .int .i64 0, .int .i64 0, .int .i64 0, .int .i64 0, .int .i64 0, .int .i64 0, .int .i64 0, .int .i64 0, .int .i64 0, .int .i64 0] 101)
  have hr : ((w.alloc (.cells #[.int .i64 p.id, .int .i64 p.ow, .int .i64 p.si, .int .i64 p.zo, .int .i64 p.st, .int .i64 p.po, .int .i64 p.to, .int .i64 p.tr, .int .i64 p.pl, .int .i64 p.mi, .int .i64 p.ma, .bool p.de, .bool p.be] 31)).alloc (.cells #[.int .i64 0, .int .i64 0, .int .i64 0, .int .i64 0, .int .i64 0, .int .i64 0, .int .i64 0, .int .i64 0, .int .i64 0, .int .i64 0, .int .i64 0, .int .i64 0, .int .i64 0] 101)).heap[w.heap.size + 1]? = some (.cells #[.int .i64 0, .int .i64 0, .int .i64 0, .int .i64 0, .int .i64 0, .int .i64 0, .int .i64 0, .int .i64 0, .int .i64 0, .int .i64 0, .int .i64 0, .int .i64 0, .int .i64 0] 101 (0, 0)) := heap_alloc2_new _ _ _
  have bx := (box_new w 31 p).alloc (.cells #[.int .i64 0, .int .i64 0, .int .i64 0, .int .i64 0, .int .i64 0, .int .i64 0, .int .i64 0, .int .i64 0, .int .i64 0, .int .i64 0, .int .i64 0, .int .i64 0, .int .i64 0] 101)
  generalize hW : (w.alloc (.cells #[.int .i64 p.id, .int .i64 p.ow, .int .i64 p.si, .int .i64 p.zo, .int .i64 p.st, .int .i64 p.po, .int .i64 p.to, .int .i64 p.tr, .int .i64 p.pl, .int .i64 p.mi, .int .i64 p.ma, .bool p.de, .bool p.be] 31)).alloc (.cells #[.int .i64 0, .int .i64 0, .int .i64 0, .int .i64 0, .int .i64 0, .int .i64 0, .int .i64 0, .int .i64 0, .int .i64 0, .int .i64 0, .int .i64 0, .int .i64 0, .int .i64 0] 101) = W at hb0 hr bx
  obtain ⟨k0, k1, k2, k3, k4, k5, k6, k7, k8, k9, k10, k11, k12⟩ := bx.cells
  go_enter Try.func89, Try.ntmps89
  go_wp2_with fail
  refine wp_region_tail_lit 28 (by kernel_rfl) (by kernel_rfl) (by decide) (by intro c d v a w h; cases d <;> exact h) ?_
  simp only [List.take_succ_cons, List.take_zero, List.drop_succ_cons, List.drop_zero]
  repeat (go_big_quiet_step ((go_at_call 107; refine Calls.quiet_of_same (flagNum_b _ _))))
  refine wpQuiet_nil ?_
  rintro _ ⟨nq, rfl⟩
  clear k0 k1 k2 k3 k4 k5 k6 k7 k8 k9 k10 k11 k12 hW
  have hr2 : (W.drewN nq).heap[w.heap.size + 1]? = some (.cells #[.int .i64 0, .int .i64 0, .int .i64 0, .int .i64 0, .int .i64 0, .int .i64 0, .int .i64 0, .int .i64 0, .int .i64 0, .int .i64 0, .int .i64 0, .int .i64 0, .int .i64 0] 101 (0, 0)) := hr
  have hb2 : Below w.heap.size w (W.drewN nq) := below_drewN hb0 nq
  generalize W.drewN nq = V at hr2 hb2
  go_wp2_with (refine wpList_store_row rfl _ _ _ rfl (w.heap.size + 1) _ (by rfl) (by rfl) _ _ hr2 (by kernel_rfl) (by rfl) (by simp [Value.oneCell']) ?_)
  (try simp only [Exit.inBlock, Exit.then]); refine bodyPost_ret (results_cell_row rfl _ _ (w.heap.size + 1) _ _ _ _ rfl (setRow_heap _ _ _ _ _ _ hr2) Try.underlying101 rfl (by kernel_rfl)) rfl ?_
  exact ⟨rfl, below_setRow hb2 (by omega) _⟩
theorem arC_at (p : Pc) (k : Nat) (hk : k < 13) : (arC p)[k]? = some (.int .i64 ((pcl p).getD k 0)) := by
  have : k = 0 ∨ k = 1 ∨ k = 2 ∨ k = 3 ∨ k = 4 ∨ k = 5 ∨ k = 6 ∨ k = 7 ∨ k = 8 ∨ k = 9 ∨ k = 10 ∨ k = 11 ∨ k = 12 := by omega
  rcases this with rfl | rfl | rfl | rfl | rfl | rfl | rfl | rfl | rfl | rfl | rfl | rfl | rfl <;> rfl
/-- an element of an array by value -/
theorem run_index_arr {P : Program} {t e : TypeId} {n k : Nat} {cs : Array Value} {i : TypeInfo} {v : Value} {w : World} (h : P.underlying t = some (.array n e)) (hi : P.info? e = some i) (hc : P.cellsOf e = 1) (he : P.plainKey e = true) (hk : k < n) (hx : cs[k]? = some v) :
    (Instr.index t (.agg cs) (.int .i64 k)).run P w = .ok v w := by
  cases hu : P.underlying e with
  | none => simp [Program.plainKey, hu] at he
  | some d => cases d <;> simp [Program.plainKey, hu] at he <;> simp [Instr.index, run_underlying h, asIntOf, hk, go_sem, run_sizeOf w hi, hc, isAgg, run_underlying hu, hx]
theorem encM_snoc (k : Nat) (L : List Int) : vals .u8 (4 * k) (encM L) ++ vals .u8 4 (enc (L.getD k 0)) = vals .u8 (4 * (k + 1)) (encM L) := by
  rw [vals_cat]
  refine vals_congr (fun i hi => ?_)
  unfold cat
  by_cases h : i < 4 * k
  · rw [if_pos h]
  · rw [if_neg h]
    unfold encM
    rw [show i / 4 = k by omega, show i % 4 = i - 4 * k by omega]
set_option maxHeartbeats 4000000 in
theorem implPutPiece_cap (a : Option Addr) (b n c : Nat) (f : Nat → Int) (p : Pc) (w : World) (hn : n ≤ 100000000) (h : Rd .u8 w b a n f) :
    Calls Try.prog 39 #[.slice a n c, (.agg #[.int .i64 p.id, .int .i64 p.ow, .int .i64 p.si, .int .i64 p.zo, .int .i64 p.st, .int .i64 p.po, .int .i64 p.to, .int .i64 p.tr, .int .i64 p.pl, .int .i64 p.mi, .int .i64 p.ma, .bool p.de, .bool p.be])] w fun e w' => ∃ g cap, e = .returned (.slice (some ⟨g, 0, none⟩) (ppN n p) cap) ∧ ppN n p ≤ cap ∧ Below w.heap.size w w' ∧ Own .u8 w' w.heap.size g (some ⟨g, 0, none⟩) (ppN n p) (ppF n f p) := by
  obtain ⟨i0, hi, hz0, hz1, hz2⟩ := info_parts Try.infoU8
  obtain ⟨j0, hj, _, _, _⟩ := info_parts Try.infoInt
  have hb0 := (Below.refl _ w).alloc (Nat.le_refl _) (.cells #[.int .i64 p.id, .int .i64 p.ow, .int .i64 p.si, .int .i64 p.zo, .int .i64 p.st, .int .i64 p.po, .int .i64 p.to, .int .i64 p.tr, .int .i64 p.pl, .int .i64 p.mi, .int .i64 p.ma, .bool p.de, .bool p.be] 31)
  have bx := box_new w 31 p
  go_enter Try.func39, Try.ntmps39
  go_wp2_with fail
  refine (implPieceOk_any p _).mono ?_
  rintro e w1 ⟨rfl, hb1⟩
  have bx1 := bx.grew hb1
  have hB1 := below_app hb0 hb1 hb0.size
  have h1 := h.grew hB1
  clear bx hb0 hb1 h
  cases hok : okP p with
  | false =>
    have HN : Hid (ppN n p = n ∧ ppF n f p = f) := by constructor <;> simp [ppN, ppF, hok]
    obtain ⟨w2, hw2⟩ : ∃ w2, w2 = w1.alloc (.cells #[.slice a n c] 22) := ⟨_, rfl⟩
    have hb2 : Below w1.heap.size w1 w2 := by rw [hw2]; exact below_new _ _
    have q0 : w2.cell? ⟨w1.heap.size, 0, none⟩ = some (.slice a n c) := by rw [hw2]; simp
    have hs2 : w1.heap.size < w2.heap.size := by rw [hw2]; simp
    have HW : Hid (w2 = _) := hw2
    clear hw2 bx1
    have ra := h1.grew hb2
    go_wp2_with fail
    rw [← HW.out]
    clear HW
    refine (joined1_any w1.heap.size a b n c f w2 hs2 (by omega) q0 ra).mono ?_
    rintro e w3 ⟨rfl, hb3, ho⟩
    clear q0 ra h1
    have hB3 := below_app (below_app hB1 hb2 hB1.size) hb3 (by have := hB1.size; have := hb2.size; omega)
    go_wp2
    go_ret
    exact ⟨_, _, by rw [HN.out.1]; rfl, by rw [HN.out.1]; exact Nat.le_refl _, hB3, by rw [HN.out.1, HN.out.2]; exact ⟨by have := hB1.size; have := hb2.size; omega, ho.2⟩⟩
  | true =>
    have HN : Hid (ppN n p = n + 52 ∧ ppF n f p = cat n f (encM (pcl p))) := by constructor <;> simp [ppN, ppF, hok]
    have hb2 : Below w1.heap.size w1 (w1.alloc (.cells #[] 5)) := below_new _ _
    have hown2 : (w1.alloc (.cells #[] 5)).ownsRow w1.heap.size 5 1 (.slice (some ⟨w1.heap.size, 0, none⟩) 0 0) 0 [] := World.ownsRow_lit w1 #[] 0 (Nat.le_refl _) (by decide) rfl
    have bx2 := bx1.grew hb2
    generalize hW2 : w1.alloc (.cells #[] 5) = w2 at hb2 hown2 bx2
    obtain ⟨k0, k1, k2, k3, k4, k5, k6, k7, k8, k9, k10, k11, k12⟩ := bx2.cells
    go_wp2_with fail
    refine (numsOfPiece_any p _).mono ?_
    rintro e w3 ⟨rfl, hb3⟩
    have hown3 := row_grew' hown2 hb3
    have hB3 := below_app hb2 hb3 hb2.size
    clear k0 k1 k2 k3 k4 k5 k6 k7 k8 k9 k10 k11 k12 bx2 bx1 hown2 hb2 hb3 hW2
    go_wp2
    go_loopw [5, 17] (fun v i wr => ∃ k : Nat, k ≤ 13 ∧ i = .int .i64 k ∧ wr.ownsRow w1.heap.size 5 1 v (4 * k) (vals .u8 (4 * k) (encM (pcl p))) ∧ v ≠ .slice none 0 0 ∧ Below w1.heap.size w1 wr) (fun _ i _ => 13 - (intOf i).toNat)
    case atStart => exact ⟨0, Nat.zero_le _, rfl, hown3, by simp, hB3⟩
    case round =>
      clear hown3 hB3
      obtain ⟨k, hk, rfl, hown, hnil, hb⟩ := hrel
      by_cases hlt : k < 13
      · have hx := arC_at p k hlt
        have HV : Hid (vals .u8 (4 * k) (encM (pcl p)) ++ vals .u8 4 (enc ((pcl p).getD k 0)) = vals .u8 (4 * (k + 1)) (encM (pcl p))) := encM_snoc k (pcl p)
        generalize (pcl p).getD k 0 = x at hx HV
        have hix : (Instr.index 101 (.agg (arC p)) (.int .i64 k)).run Try.prog wr = .ok (.int .i64 x) wr := run_index_arr Try.underlying101 hj (by kernel_rfl) (by kernel_rfl) hlt hx
        clear hx
        go_wp2_with fail
        refine (numBytes_any x wr).mono ?_
        rintro e w4 ⟨rfl, hw4⟩
        have hb4 : Below wr.heap.size wr w4 := by rw [hw4]; exact below_new _ _
        have r4 : Rd .u8 w4 wr.heap.size (some ⟨wr.heap.size, 0, none⟩) 4 (enc x) := by rw [hw4]; exact rd_row (heap_alloc_new wr _)
        have hs4 : wr.heap.size < w4.heap.size := by rw [hw4]; simp
        clear hw4
        have hown4 := row_grew' hown hb4
        have hB4 := below_app hb hb4 hb.size
        have hnews := r4.news
        clear hown hb hb4 r4 hix
        go_wp2_with (at_builtin; refine wpList_append_own _ rfl (.tmp 20) (.tmp 22) 22 rfl w1.heap.size 5 i0 (.int .u8 0) 1 1 Try.underlying22 hi hz0 hz1 hz2 rfl (by decide) _ _ _ rfl hown4 ⟨wr.heap.size, 0, none⟩ 4 4 (vals .u8 4 (enc x)) rfl (by rw [vals_len]) hnews (vals_one _ _ _) (by unfold maxLen; omega) (by omega) hB4.size ?_)
        intro v5 w5 hown5 hgr5 hnil5
        have hB5 : Below w1.heap.size w1 w5 := hB4.grown hgr5 hB4.size (fun k hk => (hown4.lt k hk).1)
        have hown6 : w5.ownsRow w1.heap.size 5 1 v5 (4 * (k + 1)) (vals .u8 (4 * (k + 1)) (encM (pcl p))) := by rw [← HV.out]; exact hown5
        have hnil6 : v5 ≠ .slice none 0 0 := hnil5
        clear hown5 hgr5 hnil5 hown4 hnil hB4 hnews HV
        go_wp2
        go_roundw
        case rel => first | exact ⟨k + 1, by omega, by go_num, hown6, hnil6, hB5⟩ | ((repeat apply Exists.intro); exact ⟨⟨k + 1, by omega, by go_num, hown6, hnil6, hB5⟩, rfl⟩)
        case measure => simp [intOf]; omega
      · obtain rfl : k = 13 := by omega
        obtain ⟨q, cap, rfl, ho⟩ := own_of hown hnil
        obtain ⟨w6, hw6⟩ : ∃ w6, w6 = wr.alloc (.cells #[.slice a n c, .slice (some ⟨q, 0, none⟩) 52 cap] 22) := ⟨_, rfl⟩
        have hb6 : Below wr.heap.size wr w6 := by rw [hw6]; exact below_new _ _
        have q0 : w6.cell? ⟨wr.heap.size, 0, none⟩ = some (.slice a n c) := by rw [hw6]; simp
        have q1 : w6.cell? ⟨wr.heap.size, 1, none⟩ = some (.slice (some ⟨q, 0, none⟩) 52 cap) := by rw [hw6]; simp
        have hs6 : wr.heap.size < w6.heap.size := by rw [hw6]; simp
        have HW : Hid (w6 = _) := hw6
        clear hw6 hown hnil
        have ra := (h1.grew hb).grew hb6
        have rb := ho.rd.grew hb6
        have hB6 := below_app (below_app hB1 hb hB1.size) hb6 (by have := hB1.size; have := hb.size; omega)
        go_wp2_with fail
        rw [← HW.out]
        clear HW
        refine (joined2_any wr.heap.size a _ b q n 52 (n + 52) c cap f (encM (pcl p)) w6 hs6 rfl (by omega) q0 q1 ra rb).mono ?_
        rintro e w7 ⟨rfl, hb7, ho7⟩
        have hB7 := below_app hB6 hb7 hB6.size
        have hz7 := hB6.size
        clear q0 q1 ra rb ho hb hb6
        go_wp2
        go_ret
        exact ⟨_, _, by rw [HN.out.1]; rfl, by rw [HN.out.1]; exact Nat.le_refl _, hB7, by rw [HN.out.1, HN.out.2]; exact ⟨hz7, ho7.2⟩⟩
theorem implPutPiece_any (ad : Addr) (b n c : Nat) (f : Nat → Int) (p : Pc) (w : World) (hn : n ≤ 100000000) (h : Rd .u8 w b (some ad) n f) :
    Calls Try.prog 39 #[.slice (some ad) n c, (.agg #[.int .i64 p.id, .int .i64 p.ow, .int .i64 p.si, .int .i64 p.zo, .int .i64 p.st, .int .i64 p.po, .int .i64 p.to, .int .i64 p.tr, .int .i64 p.pl, .int .i64 p.mi, .int .i64 p.ma, .bool p.de, .bool p.be])] w fun e w' => ∃ g cap, e = .returned (.slice (some ⟨g, 0, none⟩) (ppN n p) cap) ∧ Below w.heap.size w w' ∧ Own .u8 w' w.heap.size g (some ⟨g, 0, none⟩) (ppN n p) (ppF n f p) :=
  (implPutPiece_cap (some ad) b n c f p w hn h).mono (by rintro e w' ⟨g, cap, h1, _, h2, h3⟩; exact ⟨g, cap, h1, h2, h3⟩)
end Go.Proofs.Ytnlnledijpcjpab
