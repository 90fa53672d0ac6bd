/-
  Chapter 4: contracts of the draws DrawPutPiece, DrawGetPiece, DrawPieceOk, DrawHasTrait, DrawMoved, DrawSamePiece. Own work.
-/
import Derived.Test.YthhmfbegbhndaabDrawP
import Derived.Test.YthhmfbegbhndaabDrawB2
import Derived.Test.YthhmfbegbhndaabDrawBend
import Derived.Test.YthhmfbegbhndaabPiece4
namespace Go.Proofs.Ythhmfbegbhndaab
open Go.ChangeShapes Go.WideShapes Go.ChangeAt Go.RowKit
set_option maxRecDepth 100000

theorem heap_setRow_ne (w : World) (g k : Nat) (cs : Array Value) (h : k ≠ g) : (w.setRow g cs).heap[k]? = w.heap[k]? := by
  unfold World.setRow
  simp only [Array.getElem?_modify]
  rw [if_neg (Ne.symm h)]
theorem size_setRow (w : World) (g : Nat) (cs : Array Value) : (w.setRow g cs).heap.size = w.heap.size := by simp [World.setRow]
theorem Own.setRow {k : IntKind} {w : World} {B b : Nat} {ad : Option Addr} {n : Nat} {f : Nat → Int} (h : Own k w B b ad n f) {g : Nat} (hg : b ≠ g) (cs : Array Value) : Own k (w.setRow g cs) B b ad n f := h.same (heap_setRow_ne w g b cs hg) (by rw [size_setRow]; exact Nat.le_refl _)
theorem results_rowB {P : Program} {fn : Func} {p u : Tmp} {ty : TypeId} (h : fn.results = #[.tmp u, .cell p ty]) (tmps : Array Value) (w : World) (g : Nat) (t : TypeId) (cs : Array Value) (fr : Nat × Nat) (d : TypeDesc)
    (hp : tmps.getD p undef = .pointer (some ⟨g, 0, none⟩)) (hg : w.heap[g]? = some (.cells cs t fr))
    (hu : P.underlying ty = some d) (hd : (match d with | .struct _ | .array _ _ => true | _ => false) = true) (hi : (P.info? ty).map (·.size) = some cs.size) :
    (results fn tmps).run P w = .ok (.tuple #[tmps.getD u undef, .agg cs]) w := by
  have hp' : tmps[p]?.getD undef = .pointer (some ⟨g, 0, none⟩) := by simpa using hp
  simp [results, h, hp', asAddr, run_loadVar_row w g t ty cs fr d hg hu hd hi]
theorem U8.encM (L : List Int) (m : Nat) : U8 m (encM L) := fun i _ => U8.enc4 (L.getD (i / 4) 0) (i % 4) (Nat.mod_lt _ (by decide))
theorem U8.pp {n : Nat} {f : Nat → Int} (p : Pc) (hf : U8 n f) : U8 (ppN n p) (ppF n f p) := by
  unfold ppN ppF
  split
  · exact hf.cat (U8.encM (pcl p) 52)
  · exact hf
set_option maxHeartbeats 2000000 in
theorem drawPutPiece_any (a : Option Addr) (len cap : Nat) (w : World) (hc : Code w a len w.heap.size) :
    Calls Try.prog 35 #[.slice a len cap] w fun e w' => ∃ (q n c : Nat) (f : Nat → Int) (x : Pc), e = .returned (.tuple #[.slice (some ⟨q, 0, none⟩) n c, (.agg #[.int .i64 x.id, .int .i64 x.ow, .int .i64 x.si, .int .i64 x.zo, .int .i64 x.st, .int .i64 x.po, .int .i64 x.to, .int .i64 x.tr, .int .i64 x.pl, .int .i64 x.mi, .int .i64 x.ma, .bool x.de, .bool x.be])]) ∧ DrawnB w q n c f w' := by
  have hb0 : Below w.heap.size w (w.alloc (.cells #[.int .i64 0, .int .i64 0, .int .i64 0, .int .i64 0, .int .i64 0, .int .i64 0, .int .i64 0, .int .i64 0, .int .i64 0, .int .i64 0, .int .i64 0, .bool false, .bool false] 31)) := (Below.refl _ w).alloc (Nat.le_refl _) _
  have br0 : BoxP (w.alloc (.cells #[.int .i64 0, .int .i64 0, .int .i64 0, .int .i64 0, .int .i64 0, .int .i64 0, .int .i64 0, .int .i64 0, .int .i64 0, .int .i64 0, .int .i64 0, .bool false, .bool false] 31)) w.heap.size 31 ⟨0, 0, 0, 0, 0, 0, 0, 0, 0, 0, 0, false, false⟩ := heap_alloc_new w _
  generalize hW : w.alloc (.cells #[.int .i64 0, .int .i64 0, .int .i64 0, .int .i64 0, .int .i64 0, .int .i64 0, .int .i64 0, .int .i64 0, .int .i64 0, .int .i64 0, .int .i64 0, .bool false, .bool false] 31) = W at hb0 br0
  have hrz := br0.lt
  go_enter Try.func35, Try.ntmps35
  go_wp2_with fail
  clear hW
  refine (l1New_any a len cap _ (hc.below hb0)).mono ?_
  rintro e w1 ⟨h, rfl, hw⟩
  have hb : Below w.heap.size w w1 := by rw [hw]; exact hb0.alloc hb0.size _
  have hk : Cur w1 W.heap.size a len cap := by rw [hw]; exact Cur.made W a len cap h _
  have br1 : BoxP w1 w.heap.size 31 ⟨0, 0, 0, 0, 0, 0, 0, 0, 0, 0, 0, false, false⟩ := by rw [hw]; exact br0.alloc _
  have hBp : w.heap.size ≤ W.heap.size := Nat.le_of_lt hrz
  clear hw br0
  go_wp2_with fail
  refine (l1Below_any W.heap.size a len cap _ _ (hc.below hb) hBp hk).mono ?_
  rintro e w2 ⟨y, hy0, hy1, rfl, ho, hk2⟩
  have hy2 := hy1 (by omega)
  obtain ⟨n, rfl⟩ := Int.eq_ofNat_of_zero_le hy0
  have hb2 := hb.trans (ho.below hBp hb.size)
  have br2 := br1.only ho (by omega)
  clear hb ho hk hy1 br1
  go_wp2_with fail
  refine (l1Bytes_any W.heap.size a len cap n _ (hc.below hb2) hBp hk2 (by omega)).mono ?_
  rintro e w3 ⟨q, c, f, rfl, hcp, hu, hoq, ho, hk3⟩
  have hb3 := hb2.trans (ho.below hBp hb2.size)
  have br3 := br2.only ho (by omega)
  have hq : W.heap.size < q := by have h1 := hoq.1; have h2 := hk2.1; omega
  clear hb2 ho hk2 br2
  go_wp2_with fail
  refine (l4Any_any W.heap.size a len cap _ (hc.below hb3) hBp hk3).mono ?_
  rintro e w4 ⟨x, rfl, ho, hk4⟩
  have hoq4 := hoq.only ho (by omega)
  have hb4 := hb3.trans (ho.below hBp hb3.size)
  have br4 := br3.only ho (by omega)
  clear hoq hk3 hb3 ho br3
  go_wp2_with (refine wpList_store_row rfl 31 (.tmp 3) _ rfl w.heap.size _ (by rfl) (by rfl) _ _ br4 (by kernel_rfl) (by rfl) (by simp [Value.oneCell']) ?_)
  (try simp only [Exit.inBlock, Exit.then]); refine bodyPost_ret (results_rowB rfl _ _ w.heap.size _ _ _ _ rfl (setRow_heap _ _ _ _ _ _ br4) Try.underlying31 rfl (by kernel_rfl)) rfl ?_
  exact ⟨q, n, c, f, x, rfl, by omega, hcp, hu, ⟨by omega, (hoq4.setRow (by omega) _).2⟩, below_setRow hb4 (Nat.le_refl _) _⟩
set_option maxHeartbeats 2000000 in
theorem drawGetPiece_any (a : Option Addr) (len cap : Nat) (w : World) (hc : Code w a len w.heap.size) :
    Calls Try.prog 38 #[.slice a len cap] w fun e w' => ∃ q n c f x, e = .returned (.tuple #[.slice (some ⟨q, 0, none⟩) n c, .int .i64 x]) ∧ (-9223372036854775808 ≤ x ∧ x ≤ 9223372036854775807) ∧ DrawnB w q n c f w' := by
  go_enter Try.func38, Try.ntmps38
  go_wp2_with fail
  refine (l1New_any a len cap _ hc).mono ?_
  rintro e w1 ⟨h, rfl, hw⟩
  have hb : Below w.heap.size w w1 := by rw [hw]; exact (Below.refl _ _).alloc (Nat.le_refl _) _
  have hk : Cur w1 w.heap.size a len cap := by rw [hw]; exact Cur.made w a len cap h _
  clear hw
  go_wp2_with fail
  refine (l1Below_any w.heap.size a len cap _ _ (hc.below hb) (Nat.le_refl _) hk).mono ?_
  rintro e w2 ⟨y, hy0, hy1, rfl, ho, hk2⟩
  have hy2 := hy1 (by omega)
  obtain ⟨n, rfl⟩ := Int.eq_ofNat_of_zero_le hy0
  have hb2 := hb.trans (ho.below (Nat.le_refl _) hb.size)
  clear hb ho hk hy1
  go_wp2_with fail
  refine (l1Bytes_any w.heap.size a len cap n _ (hc.below hb2) (Nat.le_refl _) hk2 (by omega)).mono ?_
  rintro e w3 ⟨q, c, f, rfl, hcp, hu, hoq, ho, hk3⟩
  have hb3 := hb2.trans (ho.below (Nat.le_refl _) hb2.size)
  have hq : w.heap.size < q := by have h1 := hoq.1; have h2 := hk2.1; omega
  clear hb2 ho hk2
  go_wp2_with fail
  refine (l4Draw_any w.heap.size a len cap _ _ (hc.below hb3) (Nat.le_refl _) hk3).mono ?_
  rintro e w4 ⟨x, hx, rfl, ho, hk4⟩
  have hb4 := hb3.trans (ho.below (Nat.le_refl _) hb3.size)
  have hoq4 := hoq.only ho (by omega)
  clear hb3 ho hk3 hoq hx
  go_wp2_with fail
  refine (specPutPiece_any _ q n c f x _ (by omega) hoq4.rd).mono ?_
  rintro e w5 ⟨q5, c5, rfl, hb, hoq5⟩
  have hb5 := below_app hb4 hb hb4.size
  have hk5 : Cur w5 w.heap.size a len cap := hk4.same (hb.block _ hk4.1) hb.size
  have hu5 : U8 (ppN n x) (ppF n f x) := U8.pp x hu
  have hl5 := ppN_le n x
  clear hb hb4 hoq4 hk4
  go_wp2_with fail
  refine (l1Bend_any w.heap.size a len cap _ (hc.below hb5) (Nat.le_refl _) hk5 _ q5 (ppN n x) c5 _ (by omega) hu5 hoq5.rd).mono ?_
  rintro e w6 ⟨q6, c6, n6, f6, rfl, hn6, hcp6, hu6, hoq6, ho, hk6⟩
  have hb6 := hb5.trans (ho.below (Nat.le_refl _) hb5.size)
  have hq6 : w.heap.size < q6 := by have h1 := hoq6.1; have h2 := hk5.1; omega
  clear hb5 ho hk5 hoq5 hu5
  go_wp2_with fail
  refine (l1Int_new w.heap.size a len cap [0, 0, 0, 1, -2] 3 w6 (hc.below hb6) (Nat.le_refl _) hk6 (by decide) (by decide)).mono ?_
  rintro e w7 ⟨z, hz, rfl, ho, hk7⟩
  have hoq7 := hoq6.only ho (by omega)
  have hb7 := hb6.trans (ho.below (Nat.le_refl _) hb6.size)
  have hz2 : -2 ≤ z ∧ z ≤ 1 := by simp at hz; omega
  clear hoq6 ho hb6 hk6 hk7 hz
  go_wp2
  go_ret2
  exact ⟨q6, n6, c6, f6, _, rfl, by omega, by omega, hcp6, hu6, ⟨by omega, hoq7.2⟩, hb7⟩
end Go.Proofs.Ythhmfbegbhndaab
