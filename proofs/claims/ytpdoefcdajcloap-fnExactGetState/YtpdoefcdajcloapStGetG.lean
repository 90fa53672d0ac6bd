/-
  Chapter 5: bytes.Equal; GetState, the specification's and the program's. Own work.
-/
import Derived.Test.YtpdoefcdajcloapStGetS
import Derived.Test.YtpdoefcdajcloapStLawP
import Derived.Laws.BytesArg
import Derived.Lib.Bytes
import Derived.Test.YtpdoefcdajcloapRegs
namespace Go.Proofs.Ytpdoefcdajcloap
open Go.ChangeShapes Go.WideShapes Go.ChangeAt Go.RowKit
set_option maxRecDepth 100000
set_option linter.unusedVariables false
set_option linter.unusedSimpArgs false
/-- what GetState answers -/
def gsZ : Stt := ⟨none, 0, 0, 0, zF, none, 0, 0, 0, zD, 0, 0⟩
def gsS (n : Nat) (f : Nat → Int) : Stt := if gsOk n f = true then gsR n f else gsZ
def GotPost (n : Nat) (f : Nat → Int) (w : World) (e : Ending) (w' : World) : Prop :=
  ∃ t : Stt, e = .returned (.tuple #[(.agg #[.slice t.pa t.pn t.pcap, .slice t.sa t.sn t.scap, .int .i64 t.ac, .int .i64 t.cl]), .bool (gsOk n f)]) ∧ Below w.heap.size w w' ∧ OwnT w' w.heap.size t ∧ Alike t (gsS n f)
theorem gsOk_Q (n : Nat) (f : Nat → Int) : gsOk n f = (gsQ n f && decide (n = lnL (stL (gsR n f)))) := rfl
theorem ownT_zero (w : World) (B : Nat) : OwnT w B gsZ := ⟨.inl rfl, .inl rfl, fun h => absurd rfl h, Nat.le_refl _, Nat.zero_le _, Nat.le_refl _, Nat.zero_le _⟩
theorem got_no {n : Nat} {f : Nat → Int} {w w' : World} (h : gsOk n f = false) (hb : Below w.heap.size w w') : GotPost n f w (.returned (.tuple #[(.agg #[.slice gsZ.pa gsZ.pn gsZ.pcap, .slice gsZ.sa gsZ.sn gsZ.scap, .int .i64 gsZ.ac, .int .i64 gsZ.cl]), .bool false])) w' :=
  ⟨gsZ, by rw [h], hb, ownT_zero _ _, by unfold gsS; rw [if_neg (by rw [h]; decide)]; exact Alike.refl _⟩
set_option maxHeartbeats 2000000 in
theorem specGetState_any (a : Option Addr) (b n c : Nat) (f : Nat → Int) (w : World) (hn : n ≤ 100000000) (hu : U8 n f) (h : Rd .u8 w b a n f) :
    Calls Try.prog 14 #[.slice a n c] w fun e w' => GotPost n f w e w' := by
  have hb0 := (Below.refl _ w).alloc (Nat.le_refl _) (.cells #[.slice none 0 0, .slice none 0 0, .int .i64 0, .int .i64 0] 32)
  have xr := boxR_new w 32 #[.slice none 0 0, .slice none 0 0, .int .i64 0, .int .i64 0]
  generalize hW : w.alloc (.cells #[.slice none 0 0, .slice none 0 0, .int .i64 0, .int .i64 0] 32) = W at hb0 xr
  have hbL : w.heap.size < W.heap.size := xr.lt
  go_enter Try.func14, Try.ntmps14
  go_wp2_with fail
  refine (l5Get_any a b n c f _ hn hu (h.grew hb0)).mono ?_
  rintro e w1 ⟨t, x, rfl, hb1, hx⟩
  clear hW
  have hB1 := below_app hb0 hb1 hb0.size
  replace xr := xr.grew hb1
  have xt := boxR_new w1 32 #[.slice t.pa t.pn t.pcap, .slice t.sa t.sn t.scap, .int .i64 t.ac, .int .i64 t.cl]
  have hbV := below_new2'' w1 (.cells #[.slice t.pa t.pn t.pcap, .slice t.sa t.sn t.scap, .int .i64 t.ac, .int .i64 t.cl] 32)
  generalize hV : w1.alloc (.cells #[.slice t.pa t.pn t.pcap, .slice t.sa t.sn t.scap, .int .i64 t.ac, .int .i64 t.cl] 32) = V at xt hbV
  have hBV := below_app hB1 hbV hB1.size
  replace xr := xr.grew hbV
  have c0 : V.cell? ⟨w1.heap.size, 0, none⟩ = some (.slice t.pa t.pn t.pcap) := xt.cell 0
  have c1 : V.cell? ⟨w1.heap.size, 1, none⟩ = some (.slice t.sa t.sn t.scap) := xt.cell 1
  have c2 : V.cell? ⟨w1.heap.size, 2, none⟩ = some (.int .i64 t.ac) := xt.cell 2
  have c3 : V.cell? ⟨w1.heap.size, 3, none⟩ = some (.int .i64 t.cl) := xt.cell 3
  by_cases hx2 : x = (n : Int)
  · have HS : Hid (gsOk n f = true ∧ OwnT V w.heap.size t ∧ Alike t (gsR n f) ∧ Away w.heap.size t) := by
      rcases hx with ⟨h1, h2, h3, h4⟩ | ⟨h1, h2⟩
      · refine ⟨?_, (h3.grew hbV).down hb0.size, h4, ?_⟩
        · rw [gsOk_Q, h1]
          simp only [Bool.true_and, decide_eq_true_eq]
          exact gs_end.1 (h2.symm.trans hx2)
        · exact away_old h3 (by have := hb0.size; have := xr.lt; have := hbL; omega)
      · omega
    subst hx2
    clear hx
    go_wp2_with (refine wpList_store_row rfl 32 (.tmp 2) _ rfl w.heap.size _ (by rfl) (by rfl) _ _ xr (by kernel_rfl) (by rfl) (by simp [Value.oneCell']) ?_)
    (try simp only [Exit.inBlock, Exit.then]); refine bodyPost_ret (results_rowC rfl _ _ w.heap.size _ _ _ _ rfl (setRow_heap _ _ _ _ _ _ xr) Try.underlying32 rfl (by kernel_rfl)) rfl ?_
    obtain ⟨h1, h2, h3, h4⟩ := HS.out
    exact ⟨t, by rw [h1]; rfl, below_setRow hBV (Nat.le_refl _) _, ownT_setRow h2 h4 _, by unfold gsS; rw [if_pos h1]; exact h3⟩
  · have HN : Hid (gsOk n f = false) := by
      show gsOk n f = false
      rw [gsOk_Q]
      rcases hx with ⟨h1, h2, h3, h4⟩ | ⟨h1, h2⟩
      · have : ¬ n = lnL (stL (gsR n f)) := fun he => hx2 (h2.trans (gs_end.2 he))
        simp [this]
      · rw [h1]; rfl
    have q1 : (x != (n : Int)) = true := by simpa using hx2
    have q2 : (x == (n : Int)) = false := by simpa using hx2
    clear hx hx2
    go_wp2_with (refine wpList_store_row rfl 32 (.tmp 2) _ rfl w.heap.size _ (by rfl) (by rfl) _ _ xr (by kernel_rfl) (by rfl) (by simp [Value.oneCell']) ?_)
    (try simp only [Exit.inBlock, Exit.then]); refine bodyPost_ret (results_rowC rfl _ _ w.heap.size _ _ _ _ rfl (setRow_heap _ _ _ _ _ _ xr) Try.underlying32 rfl (by kernel_rfl)) rfl ?_
    exact got_no HN.out (below_setRow hBV (Nat.le_refl _) _)
theorem enc_u8 (s : Stt) (i : Nat) : 0 ≤ ptF s i ∧ ptF s i ≤ 255 := by
  unfold ptF encM
  have r := bnd_rng ((stL s).getD (i / 4) 0)
  generalize (stL s).getD (i / 4) 0 = x at r ⊢
  unfold enc
  have : i % 4 < 4 := Nat.mod_lt _ (by decide)
  generalize bnd x = y at r ⊢
  split
  · omega
  · split
    · omega
    · split <;> omega
def bys (n : Nat) (f : Nat → Int) : List Int := (List.range n).map f
theorem bys_conv {w : World} {b n c : Nat} {a : Option Addr} {f : Nat → Int} (hn : 0 < n) (h : Rd .u8 w b a n f) (dst : TypeId) (hd : Try.prog.underlying dst = some .string) :
    (convert 27 dst (.slice a n c)).run Try.prog w = .ok (.string (strOfNums (bys n f))) w := by
  rcases h with h | ⟨off, rfl, hc⟩
  · omega
  · exact run_convert_bytes_arg w _ _ Try.underlying27 Try.underlying5 b off n c (bys n f) (by simp [bys]) (fun i hi => by rw [hc i hi]; simp [bys, List.getD, hi]) dst hd
theorem bys_conv0 {w : World} {q c : Nat} {f : Nat → Int} (dst : TypeId) (hd : Try.prog.underlying dst = some .string) :
    (convert 27 dst (.slice (some ⟨q, 0, none⟩) 0 c)).run Try.prog w = .ok (.string (strOfNums (bys 0 f))) w :=
  run_convert_bytes_arg w _ _ Try.underlying27 Try.underlying5 q 0 0 c (bys 0 f) (by simp [bys]) (fun i hi => by omega) dst hd
theorem ofNat_inj {x y : Int} (hx : 0 ≤ x ∧ x ≤ 255) (hy : 0 ≤ y ∧ y ≤ 255) (h : UInt8.ofNat x.toNat = UInt8.ofNat y.toNat) : x = y := by
  have := congrArg UInt8.toNat h
  simp at this
  omega
theorem bys_eq {n m : Nat} {f g : Nat → Int} (hf : U8 n f) (hg : U8 m g) : strOfNums (bys n f) = strOfNums (bys m g) ↔ (n = m ∧ ∀ i, i < m → f i = g i) := by
  constructor
  · intro h
    have h1 := congrArg ByteArray.size h
    rw [strOfNums_size, strOfNums_size] at h1
    have hnm : n = m := by simpa [bys] using h1
    refine ⟨hnm, fun i hi => ?_⟩
    have h2 := congrArg (fun b : ByteArray => b.data.toList[i]?) h
    simp only [strOfNums_data] at h2
    simp [bys, hnm, hi] at h2
    exact ofNat_inj (hf i (by omega)) (hg i hi) h2
  · rintro ⟨rfl, h⟩
    congr 1
    unfold bys
    exact List.map_congr_left (fun i hi => h i (List.mem_range.1 hi))
theorem bys_convO {w : World} {B q n c : Nat} {f : Nat → Int} (h : Own .u8 w B q (some ⟨q, 0, none⟩) n f) (dst : TypeId) (hd : Try.prog.underlying dst = some .string) :
    (convert 27 dst (.slice (some ⟨q, 0, none⟩) n c)).run Try.prog w = .ok (.string (strOfNums (bys n f))) w := by
  by_cases hn : n = 0
  · subst hn; exact bys_conv0 dst hd
  · exact bys_conv (by omega) h.rd dst hd
theorem bytesEqual_any (v1 v2 : Value) (A B : ByteArray) (w : World) (h1 : (convert 27 9 v1).run Try.prog w = .ok (.string A) w) (h2 : (convert 27 9 v2).run Try.prog w = .ok (.string B) w) :
    Calls Try.prog 39 #[v1, v2] w fun e w' => e = .returned (.bool (A.toList == B.toList)) ∧ w' = w := by
  go_enter Try.func39, Try.ntmps39
  go_wp2
  go_ret
  exact ⟨rfl, rfl⟩
theorem toList_eq (A B : ByteArray) : (A.toList == B.toList) = decide (A = B) := by
  rw [Bool.eq_iff_iff]
  simp only [beq_iff_eq, decide_eq_true_eq]
  constructor
  · intro h
    have e : ∀ X : ByteArray, X.toList = X.data.toList := fun X => Lib.toList_data X
    rw [e, e] at h
    cases A; cases B
    simpa using h
  · rintro rfl; rfl
theorem gs_P1 {n : Nat} {f : Nat → Int} (h : gqOk n f 0 = false) : gsOk n f = false := by unfold gsOk gsP; rw [h]; rfl
theorem gs_P2 {n : Nat} {f : Nat → Int} (h : gtOk n f (gsK n f) = false) : gsOk n f = false := by unfold gsOk gsP; rw [h]; simp
theorem gs_P3 {n : Nat} {f : Nat → Int} (h : gnOkK 2 n f (gtA (gsK n f) (gcN n f (gsK n f))) = false) : gsOk n f = false := by unfold gsOk gsP; rw [h]; simp
theorem gs_res {n : Nat} {f : Nat → Int} (hu : U8 n f) (h1 : gqOk n f 0 = true) (h2 : gtOk n f (gsK n f) = true) (h3 : gnOkK 2 n f (gtA (gsK n f) (gcN n f (gsK n f))) = true) :
    decide (strOfNums (bys (ptN (gsR n f)) (ptF (gsR n f))) = strOfNums (bys n f)) = gsOk n f := by
  have hp : gsP n f = true := by unfold gsP; rw [h1, h2, h3]; rfl
  have hb := gs_back hu (gsP_iff.1 hp)
  rw [Bool.eq_iff_iff, decide_eq_true_eq, bys_eq (fun i _ => enc_u8 _ i) hu, hb]
  unfold gsOk
  rw [hp]
  simp [and_assoc]
end Go.Proofs.Ytpdoefcdajcloap
