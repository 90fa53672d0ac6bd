/-
  Chapter 5: bytes.Equal; GetState, the specification's and the program's. Chapter 5: the program's GetState. Chapter 5's GetState in its law: what it answers is small; a copied slice of bytes. Own work.
-/
import Derived.Test.YtnlnledijpcjpabStGetS
import Derived.Test.YtnlnledijpcjpabStPuts
import Derived.Laws.BytesArg
import Derived.Lib.Bytes
import Derived.Test.YtnlnledijpcjpabRegs
namespace Go.Proofs.Ytnlnledijpcjpab
open Go.ChangeShapes Go.WideShapes Go.ChangeAt Go.RowKit
set_option maxRecDepth 100000
set_option linter.unusedVariables false
set_option linter.unusedSimpArgs false
/-- what GetState answers -/
def gsZ : Stt := ⟨none, 0, 0, 0, zF, none, 0, 0, 0, zD, 0, 0⟩
def gsS (n : Nat) (f : Nat → Int) : Stt := if gsOk n f = true then gsR n f else gsZ
def GotPost (n : Nat) (f : Nat → Int) (w : World) (e : Ending) (w' : World) : Prop :=
  ∃ t : Stt, e = .returned (.tuple #[(.agg #[.slice t.pa t.pn t.pcap, .slice t.sa t.sn t.scap, .int .i64 t.ac, .int .i64 t.cl]), .bool (gsOk n f)]) ∧ Below w.heap.size w w' ∧ OwnT w' w.heap.size t ∧ Alike t (gsS n f)
theorem gsOk_Q (n : Nat) (f : Nat → Int) : gsOk n f = (gsQ n f && decide (n = lnL (stL (gsR n f)))) := rfl
theorem ownT_zero (w : World) (B : Nat) : OwnT w B gsZ := ⟨.inl rfl, .inl rfl, fun h => absurd rfl h, Nat.le_refl _, Nat.zero_le _, Nat.le_refl _, Nat.zero_le _⟩
theorem got_no {n : Nat} {f : Nat → Int} {w w' : World} (h : gsOk n f = false) (hb : Below w.heap.size w w') : GotPost n f w (.returned (.tuple #[(.agg #[.slice gsZ.pa gsZ.pn gsZ.pcap, .slice gsZ.sa gsZ.sn gsZ.scap, .int .i64 gsZ.ac, .int .i64 gsZ.cl]), .bool false])) w' :=
  ⟨gsZ, by rw [h], hb, ownT_zero _ _, by unfold gsS; rw [if_neg (by rw [h]; decide)]; exact Alike.refl _⟩
set_option maxHeartbeats 2000000 in
theorem specGetState_any (a : Option Addr) (b n c : Nat) (f : Nat → Int) (w : World) (hn : n ≤ 100000000) (hu : U8 n f) (h : Rd .u8 w b a n f) :
    Calls Try.prog 60 #[.slice a n c] w fun e w' => GotPost n f w e w' := by
  have hb0 := (Below.refl _ w).alloc (Nat.le_refl _) (.cells #[.slice none 0 0, .slice none 0 0, .int .i64 0, .int .i64 0] 56)
  have xr := boxR_new w 56 #[.slice none 0 0, .slice none 0 0, .int .i64 0, .int .i64 0]
  generalize hW : w.alloc (.cells #[.slice none 0 0, .slice none 0 0, .int .i64 0, .int .i64 0] 56) = W at hb0 xr
  have hbL : w.heap.size < W.heap.size := xr.lt
  go_enter Try.func60, Try.ntmps60
  go_wp2_with fail
  refine (l5Get_any a b n c f _ hn hu (h.grew hb0)).mono ?_
  rintro e w1 ⟨t, x, rfl, hb1, hx⟩
  clear hW
  have hB1 := below_app hb0 hb1 hb0.size
  replace xr := xr.grew hb1
  have xt := boxR_new w1 56 #[.slice t.pa t.pn t.pcap, .slice t.sa t.sn t.scap, .int .i64 t.ac, .int .i64 t.cl]
  have hbV := below_new2'' w1 (.cells #[.slice t.pa t.pn t.pcap, .slice t.sa t.sn t.scap, .int .i64 t.ac, .int .i64 t.cl] 56)
  generalize hV : w1.alloc (.cells #[.slice t.pa t.pn t.pcap, .slice t.sa t.sn t.scap, .int .i64 t.ac, .int .i64 t.cl] 56) = V at xt hbV
  have hBV := below_app hB1 hbV hB1.size
  replace xr := xr.grew hbV
  have c0 : V.cell? ⟨w1.heap.size, 0, none⟩ = some (.slice t.pa t.pn t.pcap) := xt.cell 0
  have c1 : V.cell? ⟨w1.heap.size, 1, none⟩ = some (.slice t.sa t.sn t.scap) := xt.cell 1
  have c2 : V.cell? ⟨w1.heap.size, 2, none⟩ = some (.int .i64 t.ac) := xt.cell 2
  have c3 : V.cell? ⟨w1.heap.size, 3, none⟩ = some (.int .i64 t.cl) := xt.cell 3
  by_cases hx2 : x = (n : Int)
  · have HS : Hid (gsOk n f = true ∧ OwnT V w.heap.size t ∧ Alike t (gsR n f) ∧ Away w.heap.size t) := by
      rcases hx with ⟨h1, h2, h3, h4⟩ | ⟨h1, h2⟩
      · refine ⟨?_, (h3.grew hbV).down hb0.size, h4, ?_⟩
        · rw [gsOk_Q, h1]
          simp only [Bool.true_and, decide_eq_true_eq]
          exact gs_end.1 (h2.symm.trans hx2)
        · exact away_old h3 (by have := hb0.size; have := xr.lt; have := hbL; omega)
      · omega
    subst hx2
    clear hx
    go_wp2_with (refine wpList_store_row rfl 56 (.tmp 2) _ rfl w.heap.size _ (by rfl) (by rfl) _ _ xr (by kernel_rfl) (by rfl) (by simp [Value.oneCell']) ?_)
    (try simp only [Exit.inBlock, Exit.then]); refine bodyPost_ret (results_rowC rfl _ _ w.heap.size _ _ _ _ rfl (setRow_heap _ _ _ _ _ _ xr) Try.underlying56 rfl (by kernel_rfl)) rfl ?_
    obtain ⟨h1, h2, h3, h4⟩ := HS.out
    exact ⟨t, by rw [h1]; rfl, below_setRow hBV (Nat.le_refl _) _, ownT_setRow h2 h4 _, by unfold gsS; rw [if_pos h1]; exact h3⟩
  · have HN : Hid (gsOk n f = false) := by
      show gsOk n f = false
      rw [gsOk_Q]
      rcases hx with ⟨h1, h2, h3, h4⟩ | ⟨h1, h2⟩
      · have : ¬ n = lnL (stL (gsR n f)) := fun he => hx2 (h2.trans (gs_end.2 he))
        simp [this]
      · rw [h1]; rfl
    have q1 : (x != (n : Int)) = true := by simpa using hx2
    have q2 : (x == (n : Int)) = false := by simpa using hx2
    clear hx hx2
    go_wp2_with (refine wpList_store_row rfl 56 (.tmp 2) _ rfl w.heap.size _ (by rfl) (by rfl) _ _ xr (by kernel_rfl) (by rfl) (by simp [Value.oneCell']) ?_)
    (try simp only [Exit.inBlock, Exit.then]); refine bodyPost_ret (results_rowC rfl _ _ w.heap.size _ _ _ _ rfl (setRow_heap _ _ _ _ _ _ xr) Try.underlying56 rfl (by kernel_rfl)) rfl ?_
    exact got_no HN.out (below_setRow hBV (Nat.le_refl _) _)
theorem enc_u8 (s : Stt) (i : Nat) : 0 ≤ ptF s i ∧ ptF s i ≤ 255 := by
  unfold ptF encM
  have r := bnd_rng ((stL s).getD (i / 4) 0)
  generalize (stL s).getD (i / 4) 0 = x at r ⊢
  unfold enc
  have : i % 4 < 4 := Nat.mod_lt _ (by decide)
  generalize bnd x = y at r ⊢
  split
  · omega
  · split
    · omega
    · split <;> omega
def bys (n : Nat) (f : Nat → Int) : List Int := (List.range n).map f
theorem bys_conv {w : World} {b n c : Nat} {a : Option Addr} {f : Nat → Int} (hn : 0 < n) (h : Rd .u8 w b a n f) (dst : TypeId) (hd : Try.prog.underlying dst = some .string) :
    (convert 22 dst (.slice a n c)).run Try.prog w = .ok (.string (strOfNums (bys n f))) w := by
  rcases h with h | ⟨off, rfl, hc⟩
  · omega
  · exact run_convert_bytes_arg w _ _ Try.underlying22 Try.underlying5 b off n c (bys n f) (by simp [bys]) (fun i hi => by rw [hc i hi]; simp [bys, List.getD, hi]) dst hd
theorem bys_conv0 {w : World} {q c : Nat} {f : Nat → Int} (dst : TypeId) (hd : Try.prog.underlying dst = some .string) :
    (convert 22 dst (.slice (some ⟨q, 0, none⟩) 0 c)).run Try.prog w = .ok (.string (strOfNums (bys 0 f))) w :=
  run_convert_bytes_arg w _ _ Try.underlying22 Try.underlying5 q 0 0 c (bys 0 f) (by simp [bys]) (fun i hi => by omega) dst hd
theorem ofNat_inj {x y : Int} (hx : 0 ≤ x ∧ x ≤ 255) (hy : 0 ≤ y ∧ y ≤ 255) (h : UInt8.ofNat x.toNat = UInt8.ofNat y.toNat) : x = y := by
  have := congrArg UInt8.toNat h
  simp at this
  omega
theorem bys_eq {n m : Nat} {f g : Nat → Int} (hf : U8 n f) (hg : U8 m g) : strOfNums (bys n f) = strOfNums (bys m g) ↔ (n = m ∧ ∀ i, i < m → f i = g i) := by
  constructor
  · intro h
    have h1 := congrArg ByteArray.size h
    rw [strOfNums_size, strOfNums_size] at h1
    have hnm : n = m := by simpa [bys] using h1
    refine ⟨hnm, fun i hi => ?_⟩
    have h2 := congrArg (fun b : ByteArray => b.data.toList[i]?) h
    simp only [strOfNums_data] at h2
    simp [bys, hnm, hi] at h2
    exact ofNat_inj (hf i (by omega)) (hg i hi) h2
  · rintro ⟨rfl, h⟩
    congr 1
    unfold bys
    exact List.map_congr_left (fun i hi => h i (List.mem_range.1 hi))
theorem bys_convO {w : World} {B q n c : Nat} {f : Nat → Int} (h : Own .u8 w B q (some ⟨q, 0, none⟩) n f) (dst : TypeId) (hd : Try.prog.underlying dst = some .string) :
    (convert 22 dst (.slice (some ⟨q, 0, none⟩) n c)).run Try.prog w = .ok (.string (strOfNums (bys n f))) w := by
  by_cases hn : n = 0
  · subst hn; exact bys_conv0 dst hd
  · exact bys_conv (by omega) h.rd dst hd
theorem bytesEqual_any (v1 v2 : Value) (A B : ByteArray) (w : World) (h1 : (convert 22 9 v1).run Try.prog w = .ok (.string A) w) (h2 : (convert 22 9 v2).run Try.prog w = .ok (.string B) w) :
    Calls Try.prog 111 #[v1, v2] w fun e w' => e = .returned (.bool (A.toList == B.toList)) ∧ w' = w := by
  go_enter Try.func111, Try.ntmps111
  go_wp2
  go_ret
  exact ⟨rfl, rfl⟩
theorem toList_eq (A B : ByteArray) : (A.toList == B.toList) = decide (A = B) := by
  rw [Bool.eq_iff_iff]
  simp only [beq_iff_eq, decide_eq_true_eq]
  constructor
  · intro h
    have e : ∀ X : ByteArray, X.toList = X.data.toList := fun X => Lib.toList_data X
    rw [e, e] at h
    cases A; cases B
    simpa using h
  · rintro rfl; rfl
theorem gs_P1 {n : Nat} {f : Nat → Int} (h : gqOk n f 0 = false) : gsOk n f = false := by unfold gsOk gsP; rw [h]; rfl
theorem gs_P2 {n : Nat} {f : Nat → Int} (h : gtOk n f (gsK n f) = false) : gsOk n f = false := by unfold gsOk gsP; rw [h]; simp
theorem gs_P3 {n : Nat} {f : Nat → Int} (h : gnOkK 2 n f (gtA (gsK n f) (gcN n f (gsK n f))) = false) : gsOk n f = false := by unfold gsOk gsP; rw [h]; simp
theorem gs_res {n : Nat} {f : Nat → Int} (hu : U8 n f) (h1 : gqOk n f 0 = true) (h2 : gtOk n f (gsK n f) = true) (h3 : gnOkK 2 n f (gtA (gsK n f) (gcN n f (gsK n f))) = true) :
    decide (strOfNums (bys (ptN (gsR n f)) (ptF (gsR n f))) = strOfNums (bys n f)) = gsOk n f := by
  have hp : gsP n f = true := by unfold gsP; rw [h1, h2, h3]; rfl
  have hb := gs_back hu (gsP_iff.1 hp)
  rw [Bool.eq_iff_iff, decide_eq_true_eq, bys_eq (fun i _ => enc_u8 _ i) hu, hb]
  unfold gsOk
  rw [hp]
  simp [and_assoc]
end Go.Proofs.Ytnlnledijpcjpab
namespace Go.Proofs.Ytnlnledijpcjpab
open Go.ChangeShapes Go.WideShapes Go.ChangeAt Go.RowKit
set_option maxRecDepth 100000
set_option linter.unusedVariables false
set_option linter.unusedSimpArgs false
theorem OwnE.downTo' {α : Type} {C : α → List Value} {m : Nat} {w : World} {B B' b : Nat} {a : Option Addr} {n : Nat} {f : Nat → α} (h : OwnE C m w B b a n f) (hB : B' ≤ B) : OwnE C m w B' b a n f := ⟨Nat.le_trans hB h.1, h.2⟩
theorem gqOk_pos {n : Nat} {f : Nat → Int} (h : gqOk n f 0 = true) : 0 < n ∧ gcN n f 0 ≤ 8 := by
  unfold gqOk at h
  rw [Bool.and_eq_true] at h
  have h1 := gcN_int h.1 (by omega)
  have h2 := h.1
  unfold gcOk at h2
  rw [Bool.and_eq_true] at h2
  have := gok_rng' h2.1
  omega
theorem gtOk_pos {n : Nat} {f : Nat → Int} {x : Int} (h : gtOk n f x = true) : 2 ≤ gcN n f x ∧ gcN n f x ≤ 3 := by
  unfold gtOk at h
  rw [Bool.and_eq_true] at h
  have h1 := gcN_int h.1 (by omega)
  omega
set_option maxHeartbeats 4000000 in
theorem implGetState_any (a : Option Addr) (b n c : Nat) (f : Nat → Int) (w : World) (hn : n ≤ 100000000) (hcap : n ≤ c) (hu : U8 n f) (h : Rd .u8 w b a n f) :
    Calls Try.prog 58 #[.slice a n c] w fun e w' => GotPost n f w e w' := by
  have hb0 := (Below.refl _ w).alloc (Nat.le_refl _) (.cells #[.slice none 0 0, .slice none 0 0, .int .i64 0, .int .i64 0] 56)
  have xr := boxR_new w 56 #[.slice none 0 0, .slice none 0 0, .int .i64 0, .int .i64 0]
  generalize hW : w.alloc (.cells #[.slice none 0 0, .slice none 0 0, .int .i64 0, .int .i64 0] 56) = W at hb0 xr
  have hbL : w.heap.size < W.heap.size := xr.lt
  go_enter Try.func58, Try.ntmps58
  go_wp2_with fail
  refine (getPieces_any a b n c 0 f _ hn hcap (by omega) hu (h.grew hb0)).mono ?_
  rintro e w1 ⟨hb1, hp⟩
  clear hW
  have hB1 := below_app hb0 hb1 hb0.size
  replace xr := xr.grew hb1
  rcases hp with ⟨hg1, q1, rfl, o1⟩ | ⟨hg1, rfl⟩
  rotate_left
  · have HN : Hid (gsOk n f = false) := gs_P1 hg1
    go_wp2_with (refine wpList_store_row rfl 56 (.tmp 2) _ rfl w.heap.size _ (by rfl) (by rfl) _ _ xr (by kernel_rfl) (by rfl) (by simp [Value.oneCell']) ?_)
    (try simp only [Exit.inBlock, Exit.then]); refine bodyPost_ret (results_rowC rfl _ _ w.heap.size _ _ _ _ rfl (setRow_heap _ _ _ _ _ _ xr) Try.underlying56 rfl (by kernel_rfl)) rfl ?_
    exact got_no HN.out (below_setRow hB1 (Nat.le_refl _) _)
  have H1 : Hid (gqOk n f 0 = true) := hg1
  obtain ⟨hnp, hN8⟩ := gqOk_pos hg1
  obtain ⟨K, hK⟩ : ∃ K, gsK n f = K := ⟨_, rfl⟩
  have HK : Hid (gsK n f = K) := hK
  have hK2 : gqA 0 (gcN n f 0) = K := hK
  have hKr : 0 ≤ K ∧ K ≤ 1000 := by rw [← hK2]; exact gqA_int _ hN8
  obtain ⟨N, hN⟩ : ∃ N, gcN n f 0 = N := ⟨_, rfl⟩
  have HN0 : Hid (gcN n f 0 = N) := hN
  rw [hK2]
  rw [hN] at o1 hN8 ⊢
  clear hg1 hK hK2 hN
  go_wp2_with fail
  refine (getSides_any a b n c K f _ hn hcap (by omega) hu (h.grew hB1)).mono ?_
  rintro e w2 ⟨hb2, hp⟩
  have hB2 := below_app hB1 hb2 hB1.size
  replace xr := xr.grew hb2
  have hq1 := o1.2.1
  replace o1 := o1.grew hb2
  rcases hp with ⟨hg2, q2, rfl, o2⟩ | ⟨hg2, rfl⟩
  rotate_left
  · have HN : Hid (gsOk n f = false) := gs_P2 (by rw [HK.out]; exact hg2)
    go_wp2_with (refine wpList_store_row rfl 56 (.tmp 2) _ rfl w.heap.size _ (by rfl) (by rfl) _ _ xr (by kernel_rfl) (by rfl) (by simp [Value.oneCell']) ?_)
    (try simp only [Exit.inBlock, Exit.then]); refine bodyPost_ret (results_rowC rfl _ _ w.heap.size _ _ _ _ rfl (setRow_heap _ _ _ _ _ _ xr) Try.underlying56 rfl (by kernel_rfl)) rfl ?_
    exact got_no HN.out (below_setRow hB2 (Nat.le_refl _) _)
  have H2 : Hid (gtOk n f (gsK n f) = true) := by show gtOk n f (gsK n f) = true; rw [HK.out]; exact hg2
  obtain ⟨hM2, hM3⟩ := gtOk_pos hg2
  obtain ⟨M, hM⟩ : ∃ M, gcN n f K = M := ⟨_, rfl⟩
  have HM0 : Hid (gcN n f (gsK n f) = M) := by show gcN n f (gsK n f) = M; rw [HK.out]; exact hM
  rw [hM] at o2 hM2 hM3 ⊢
  obtain ⟨L, hL⟩ : ∃ L, gtA K M = L := ⟨_, rfl⟩
  have HL : Hid (gtA (gsK n f) M = L) := by show gtA (gsK n f) M = L; rw [HK.out]; exact hL
  have hLr : 0 ≤ L ∧ L ≤ 2000 := by rw [← hL]; unfold gtA; omega
  rw [hL]
  clear hg2 hM hL
  have hn12 : q1 ≠ q2 := by have h2 := o2.1; omega
  go_wp2_with fail
  refine (getNums_any 2 (by decide) a b n c L f _ hn hcap (by omega) hu (h.grew hB2)).mono ?_
  rintro e w3 ⟨hb3, hp⟩
  have hB3 := below_app hB2 hb3 hB2.size
  replace xr := xr.grew hb3
  replace o1 := o1.grew hb3
  replace o2 := o2.grew hb3
  rcases hp with ⟨hg3, q3, rfl, o3⟩ | ⟨hg3, rfl⟩
  rotate_left
  · have HN : Hid (gsOk n f = false) := gs_P3 (by rw [HM0.out, HL.out]; exact hg3)
    go_wp2_with (refine wpList_store_row rfl 56 (.tmp 2) _ rfl w.heap.size _ (by rfl) (by rfl) _ _ xr (by kernel_rfl) (by rfl) (by simp [Value.oneCell']) ?_)
    (try simp only [Exit.inBlock, Exit.then]); refine bodyPost_ret (results_rowC rfl _ _ w.heap.size _ _ _ _ rfl (setRow_heap _ _ _ _ _ _ xr) Try.underlying56 rfl (by kernel_rfl)) rfl ?_
    exact got_no HN.out (below_setRow hB3 (Nat.le_refl _) _)
  have H3 : Hid (gnOkK 2 n f (gtA (gsK n f) (gcN n f (gsK n f))) = true) := by show gnOkK 2 n f (gtA (gsK n f) (gcN n f (gsK n f))) = true; rw [HM0.out, HL.out]; exact hg3
  have e0 := o3.cell 0 (by decide)
  have e1 := o3.cell 1 (by decide)
  rw [Nat.zero_add] at e0 e1
  have hWF : (Lit.int .i64 (gnL n f L 0)).wf = true ∧ (Lit.int .i64 (gnL n f L 1)).wf = true := ⟨gnL_wf hu _ _, gnL_wf hu _ _⟩
  have HR : Hid (Alike ⟨some ⟨q1, 0, none⟩, N, N, q1, gqF n f 0, some ⟨q2, 0, none⟩, M, M, q2, gtF n f K, gnL n f L 0, gnL n f L 1⟩ (gsR n f)) := by
    show Alike _ _
    refine ⟨HN0.out.symm, rfl, HM0.out.symm, ?_, ?_, ?_⟩
    · show gtF n f K = gtF n f (gsK n f); rw [HK.out]
    · show gnL n f L 0 = gnL n f (gtA (gsK n f) (gcN n f (gsK n f))) 0; rw [HM0.out, HL.out]
    · show gnL n f L 1 = gnL n f (gtA (gsK n f) (gcN n f (gsK n f))) 1; rw [HM0.out, HL.out]
  have HwfP : Hid (∀ i, i < N → (gqF n f 0 i).wf) := fun i _ => rawP_wf hu _
  have HwfS : Hid (∀ i, i < M → (gtF n f K i).wf) := fun i _ => gtF_wf hu _ _
  have d0 : ∀ m, (twoW w3 (w3.alloc (.cells #[.slice none 0 0, .slice none 0 0, .int .i64 0, .int .i64 0] 56)) m).cell? ⟨q3, 0, none⟩ = some (.int .i64 (gnL n f L 0)) := fun m => twoW_cell e0 ((Below.cell (below_new2'' w3 _) (p := ⟨q3, 0, none⟩) (World.block_lt_of_cell? w3 _ e0)).trans e0) m
  have d1 : ∀ m, (twoW w3 (w3.alloc (.cells #[.slice none 0 0, .slice none 0 0, .int .i64 0, .int .i64 0] 56)) m).cell? ⟨q3, 1, none⟩ = some (.int .i64 (gnL n f L 1)) := fun m => twoW_cell e1 ((Below.cell (below_new2'' w3 _) (p := ⟨q3, 1, none⟩) (World.block_lt_of_cell? w3 _ e1)).trans e1) m
  generalize gnL n f L 0 = x0 at e0 hWF HR d0
  generalize gnL n f L 1 = x1 at e1 hWF HR d1
  clear hg3 o3 e0 e1
  go_wp2_with fail
  refine wp_region_float_lit 9 w3 (w3.alloc (.cells #[.slice none 0 0, .slice none 0 0, .int .i64 0, .int .i64 0] 56)) (.pointer (some ⟨w3.heap.size, 0, none⟩)) _ (by kernel_rfl) rfl (by kernel_rfl) (fun _ => rfl) ?_ (by intro c d v a w h; cases d <;> exact h) ?_
  · intro a n
    have hz := Try.zeroValue56
    simp [execOp, Instr.alloc, go_sem, hz]
    rfl
  simp only [List.take_succ_cons, List.take_zero, List.drop_succ_cons, List.drop_zero]
  generalize twoW w3 (w3.alloc (.cells #[.slice none 0 0, .slice none 0 0, .int .i64 0, .int .i64 0] 56)) = WP at d0 d1 ⊢
  repeat (go_big_quiet_step (fail))
  refine wpQuiet_nil ?_
  intro nq
  simp only [Act.put, List.setIfInBounds_toArray, List.set_cons_zero, List.set_cons_succ]
  clear d0 d1
  have hbN : Below w3.heap.size w3 ((w3.alloc (.cells #[.slice none 0 0, .slice none 0 0, .int .i64 0, .int .i64 0] 56)).drewN nq) := below_drewN (below_new2'' w3 _) nq
  have hnew : ((w3.alloc (.cells #[.slice none 0 0, .slice none 0 0, .int .i64 0, .int .i64 0] 56)).drewN nq).heap[w3.heap.size]? = some (.cells #[.slice none 0 0, .slice none 0 0, .int .i64 0, .int .i64 0] 56 (0, 0)) := heap_alloc_new w3 (.cells #[.slice none 0 0, .slice none 0 0, .int .i64 0, .int .i64 0] 56)
  generalize (w3.alloc (.cells #[.slice none 0 0, .slice none 0 0, .int .i64 0, .int .i64 0] 56)).drewN nq = X at hbN hnew ⊢
  have xt : BoxR (X.setRow w3.heap.size #[.slice (some ⟨q1, 0, none⟩) N N, .slice (some ⟨q2, 0, none⟩) M M, .int .i64 x0, .int .i64 x1]) w3.heap.size 56 #[.slice (some ⟨q1, 0, none⟩) N N, .slice (some ⟨q2, 0, none⟩) M M, .int .i64 x0, .int .i64 x1] := setRow_heap _ _ _ _ _ _ hnew
  have hbV := below_setRow hbN (Nat.le_refl _) #[.slice (some ⟨q1, 0, none⟩) N N, .slice (some ⟨q2, 0, none⟩) M M, .int .i64 x0, .int .i64 x1]
  have hrV : (X.setRow w3.heap.size #[.slice (some ⟨q1, 0, none⟩) N N, .slice (some ⟨q2, 0, none⟩) M M, .int .i64 x0, .int .i64 x1]) = (X.setRow w3.heap.size #[.slice (some ⟨q1, 0, none⟩) N N, .slice (some ⟨q2, 0, none⟩) M M, .int .i64 x0, .int .i64 x1]) := rfl
  go_wp2_with (refine wpList_store_row rfl 56 (.tmp 10) _ rfl w3.heap.size _ (by rfl) (by rfl) _ _ hnew (by kernel_rfl) (by rfl) (by simp [Value.oneCell']) ?_; generalize X.setRow w3.heap.size #[.slice (some ⟨q1, 0, none⟩) N N, .slice (some ⟨q2, 0, none⟩) M M, .int .i64 x0, .int .i64 x1] = V at xt hbV ⊢; clear hrV hnew hbN; have c0 : V.cell? ⟨w3.heap.size, 0, none⟩ = some (.slice (some ⟨q1, 0, none⟩) N N) := xt.cell 0; have c1 : V.cell? ⟨w3.heap.size, 1, none⟩ = some (.slice (some ⟨q2, 0, none⟩) M M) := xt.cell 1; have c2 : V.cell? ⟨w3.heap.size, 2, none⟩ = some (.int .i64 x0) := xt.cell 2; have c3 : V.cell? ⟨w3.heap.size, 3, none⟩ = some (.int .i64 x1) := xt.cell 3)
  have hBV := below_app hB3 hbV hB3.size
  replace xr := xr.grew hbV
  replace o1 := o1.grew hbV
  replace o2 := o2.grew hbV
  have hmN : N ≤ maxLen := by unfold maxLen; omega
  have hmM : M ≤ maxLen := by unfold maxLen; omega
  have hokV : (⟨some ⟨q1, 0, none⟩, N, N, q1, gqF n f 0, some ⟨q2, 0, none⟩, M, M, q2, gtF n f K, x0, x1⟩ : Stt).ok V := ⟨Nat.le_refl _, hmN, o1.rd, Nat.le_refl _, hmM, o2.rd, hWF.1, hWF.2, HwfP.out, HwfS.out⟩
  have hPN := alike_ptN HR.out
  have hPF := alike_ptF HR.out
  have hls : w.heap.size ≤ W.heap.size := hb0.size
  have hls1 := hB1.size
  refine (implPutState_any ⟨some ⟨q1, 0, none⟩, N, N, q1, gqF n f 0, some ⟨q2, 0, none⟩, M, M, q2, gtF n f K, x0, x1⟩ V hokV (by show N ≤ 1048577; omega) (by show M ≤ 1048577; omega)).mono ?_
  rintro e w4 ⟨q4, cap4, rfl, hcap4, hb4, o4⟩
  rw [hPN] at o4 hcap4 ⊢
  rw [hPF] at o4
  have hB4 := below_app hBV hb4 hBV.size
  replace xr := xr.grew hb4
  replace xt := xt.grew hb4
  replace o1 := o1.grew hb4
  replace o2 := o2.grew hb4
  clear c0 c1 c2 c3 hokV hPN hPF
  have HT : Hid (OwnT w4 w.heap.size ⟨some ⟨q1, 0, none⟩, N, N, q1, gqF n f 0, some ⟨q2, 0, none⟩, M, M, q2, gtF n f K, x0, x1⟩) := ⟨.inr (o1.downTo' hls), .inr (o2.downTo' hls1), fun _ _ => hn12, Nat.le_refl _, hmN, Nat.le_refl _, hmM⟩
  have HA : Hid (Away w.heap.size ⟨some ⟨q1, 0, none⟩, N, N, q1, gqF n f 0, some ⟨q2, 0, none⟩, M, M, q2, gtF n f K, x0, x1⟩) := ⟨fun _ => by have := o1.1; show w.heap.size ≠ q1; omega, fun _ => by have := o2.1; have := hb1.size; show w.heap.size ≠ q2; omega⟩
  have hcv1 := bys_convO (c := cap4) o4 9 Try.underlying9
  have hcv2 := bys_conv (c := c) hnp (h.grew hB4) 9 Try.underlying9
  have hres := gs_res hu H1.out H2.out H3.out
  have c0 : w4.cell? ⟨w3.heap.size, 0, none⟩ = some (.slice (some ⟨q1, 0, none⟩) N N) := xt.cell 0
  have c1 : w4.cell? ⟨w3.heap.size, 1, none⟩ = some (.slice (some ⟨q2, 0, none⟩) M M) := xt.cell 1
  have c2 : w4.cell? ⟨w3.heap.size, 2, none⟩ = some (.int .i64 x0) := xt.cell 2
  have c3 : w4.cell? ⟨w3.heap.size, 3, none⟩ = some (.int .i64 x1) := xt.cell 3
  clear o4 hcap4
  go_wp2_with fail
  refine (bytesEqual_any _ _ _ _ _ hcv1 hcv2).mono ?_
  rintro e w5 ⟨rfl, hw5⟩
  rw [hw5, toList_eq, hres]
  clear hw5 hcv1 hcv2 hres
  cases ho : gsOk n f with
  | false =>
    have HN : Hid (gsOk n f = false) := ho
    go_wp2_with (refine wpList_store_row rfl 56 (.tmp 2) _ rfl w.heap.size _ (by rfl) (by rfl) _ _ xr (by kernel_rfl) (by rfl) (by simp [Value.oneCell']) ?_)
    (try simp only [Exit.inBlock, Exit.then]); refine bodyPost_ret (results_rowC rfl _ _ w.heap.size _ _ _ _ rfl (setRow_heap _ _ _ _ _ _ xr) Try.underlying56 rfl (by kernel_rfl)) rfl ?_
    exact got_no HN.out (below_setRow hB4 (Nat.le_refl _) _)
  | true =>
    have HN : Hid (gsOk n f = true) := ho
    go_wp2_with (refine wpList_store_row rfl 56 (.tmp 2) _ rfl w.heap.size _ (by rfl) (by rfl) _ _ xr (by kernel_rfl) (by rfl) (by simp [Value.oneCell']) ?_)
    (try simp only [Exit.inBlock, Exit.then]); refine bodyPost_ret (results_rowC rfl _ _ w.heap.size _ _ _ _ rfl (setRow_heap _ _ _ _ _ _ xr) Try.underlying56 rfl (by kernel_rfl)) rfl ?_
    exact ⟨_, by rw [HN.out]; rfl, below_setRow hB4 (Nat.le_refl _) _, ownT_setRow HT.out HA.out _, by unfold gsS; rw [if_pos HN.out]; exact HR.out⟩
end Go.Proofs.Ytnlnledijpcjpab
namespace Go.Proofs.Ytnlnledijpcjpab
open Go.ChangeShapes Go.WideShapes Go.ChangeAt Go.RowKit
set_option maxRecDepth 100000
set_option linter.unusedVariables false
theorem gsS_le (n : Nat) (f : Nat → Int) : (gsS n f).pn ≤ 8 ∧ (gsS n f).sn ≤ 3 := by
  unfold gsS
  split
  · rename_i h
    unfold gsOk gsP at h
    simp only [Bool.and_eq_true] at h
    exact ⟨(gqOk_pos h.1.1.1.1.1).2, (gtOk_pos h.1.1.1.1.2).2⟩
  · exact ⟨Nat.zero_le _, Nat.zero_le _⟩
end Go.Proofs.Ytnlnledijpcjpab
