/-
  Chapter 5: the program's getPieces. Own work.
-/
import Derived.Test.YtpdoefcdajcloapGetAB
import Derived.Test.YtpdoefcdajcloapPieceI5
import Derived.Test.YtpdoefcdajcloapStAt
namespace Go.Proofs.Ytpdoefcdajcloap
open Go.ChangeShapes Go.WideShapes Go.ChangeAt Go.RowKit
set_option maxRecDepth 100000
set_option linter.unusedVariables false
/-- how many pieces the number at a place tells; whether that may be; whether they are all there -/
def gcN (n : Nat) (f : Nat → Int) (at' : Int) : Nat := (gnum n f at').toNat
def gcOk (n : Nat) (f : Nat → Int) (at' lo hi : Int) : Bool := gok n f at' && ib (gnum n f at') lo hi
def gqA (at' : Int) (i : Nat) : Int := at' + 4 + 52 * (i : Int)
def gqF (n : Nat) (f : Nat → Int) (at' : Int) : Nat → Pc := fun i => rawP n f (gqA at' i)
def gqOk (n : Nat) (f : Nat → Int) (at' : Int) : Bool := gcOk n f at' 0 8 && (List.range (gcN n f at')).all (fun i => gpOk n f (gqA at' i))
def PiecesPost (n : Nat) (f : Nat → Int) (at' : Int) (w : World) (e : Ending) (w' : World) : Prop :=
  Below w.heap.size w w' ∧ ((gqOk n f at' = true ∧ ∃ q, e = .returned (.tuple #[.slice (some ⟨q, 0, none⟩) (gcN n f at') (gcN n f at'), .int .i64 (gqA at' (gcN n f at')), .bool true]) ∧ OwnE pcC 13 w' w.heap.size q (some ⟨q, 0, none⟩) (gcN n f at') (gqF n f at')) ∨
    (gqOk n f at' = false ∧ e = .returned (.tuple #[.slice none 0 0, .int .i64 0, .bool false])))
theorem allg_no {n k : Nat} {f : Nat → Bool} (hk : k < n) (h : f k = false) : (List.range n).all f = false := by rw [List.all_eq_false]; exact ⟨k, List.mem_range.2 hk, by simp [h]⟩
theorem allg_yes {n : Nat} {f : Nat → Bool} (h : ∀ k, k < n → f k = true) : (List.range n).all f = true := by rw [List.all_eq_true]; exact fun k hk => h k (List.mem_range.1 hk)
theorem gpOk_rng {n : Nat} {f : Nat → Int} {at' : Int} (h : gpOk n f at' = true) : 0 ≤ at' ∧ at' + 52 ≤ (n : Int) := by
  unfold gpOk gnOk at h
  simp only [Bool.and_eq_true] at h
  have h12 := List.all_eq_true.1 h.1.1.1 12 (by decide)
  have h0 := List.all_eq_true.1 h.1.1.1 0 (by decide)
  have := gok_rng' h12
  have := gok_rng' h0
  omega
set_option maxHeartbeats 4000000 in
theorem getPieces_any (a : Option Addr) (b n c : Nat) (at' : Int) (f : Nat → Int) (w : World) (hn : n ≤ 100000000) (hcap : n ≤ c) (ha : -9223372036854775808 ≤ at' ∧ at' ≤ 9223372036854775807) (hu : U8 n f) (h : Rd .u8 w b a n f) :
    Calls Try.prog 36 #[.slice a n c, .int .i64 at'] w fun e w' => PiecesPost n f at' w e w' := by
  obtain ⟨i0, hi, hz0, hz1, hz2⟩ := info_parts Try.infoPc
  cases hg : gok n f at' with
  | false =>
    have HN : Hid (gqOk n f at' = false) := by show gqOk n f at' = false; unfold gqOk gcOk; rw [hg]; rfl
    go_enter Try.func36, Try.ntmps36
    go_wp2_with fail
    refine (implGetNum_any a b n c at' f _ (by omega) hcap ha hu h).mono ?_
    rintro e w1 ⟨rfl, hb1⟩
    rw [hg]
    go_wp2
    go_ret3
    exact ⟨hb1, .inr ⟨HN.out, rfl⟩⟩
  | true =>
  have hnx := gnext_ok' hg
  have hrg := gok_rng' hg
  cases hc : ib (gnum n f at') 0 8 with
  | false =>
    have HN : Hid (gqOk n f at' = false) := by show gqOk n f at' = false; unfold gqOk gcOk; rw [hc]; simp
    go_enter Try.func36, Try.ntmps36
    go_wp2_with fail
    refine (implGetNum_any a b n c at' f _ (by omega) hcap ha hu h).mono ?_
    rintro e w1 ⟨rfl, hb1⟩
    rw [hg, hnx]
    go_wp2_with (go_at_call 48; refine (between_any _ _ _ _).mono ?_; rintro e w' ⟨rfl, hw'⟩; rw [hw']; clear hw' w')
    go_ret3
    exact ⟨hb1, .inr ⟨HN.out, rfl⟩⟩
  | true =>
  have hcb : 0 ≤ gnum n f at' ∧ gnum n f at' ≤ 8 := by unfold ib at hc; simpa using hc
  have HK : Hid (gcOk n f at' 0 8 = true) := by show gcOk n f at' 0 8 = true; unfold gcOk; rw [hg, hc]; rfl
  obtain ⟨N, hN⟩ : ∃ N : Nat, gcN n f at' = N := ⟨_, rfl⟩
  have hNi : gnum n f at' = (N : Int) := by unfold gcN at hN; omega
  have hN8 : N ≤ 8 := by omega
  have HN0 : Hid (gcN n f at' = N) := hN
  clear hN
  go_enter Try.func36, Try.ntmps36
  go_wp2_with fail
  refine (implGetNum_any a b n c at' f _ (by omega) hcap ha hu h).mono ?_
  rintro e w1 ⟨rfl, hb1⟩
  rw [hg, hnx, hNi]
  rw [hNi] at hc
  clear hg hnx hNi hcb
  go_wp2_with first | (go_at_call 48; refine (between_any _ _ _ _).mono ?_; rintro e w' ⟨rfl, hw'⟩; rw [hw']; clear hw' w') | (at_make; refine wpList_make_full _ rfl _ _ 29 rfl w1.heap.size 49 i0 _ 13 Try.underlying29 hi hz0 hz1 _ _ _ _ N rfl rfl rfl rfl (by rw [hz2]; omega) (by unfold maxLen; omega) (Nat.le_refl _) ?_)
  intro w2 hown hgr
  have hown' : w2.ownsRow w1.heap.size 49 13 (.slice (some ⟨w1.heap.size, 0, none⟩) N N) N (valsE pcC N (fun _ => zP)) := by rw [← made_pc]; exact hown
  have hb2 : Below w.heap.size w w2 := hb1.grown hgr hb1.size (by simp)
  have HR : Hid (w2.heap[w1.heap.size]? = some (.cells (valsE pcC N (tilE 0 (gqF n f at') (fun _ => zP))).toArray 49 (0, 0))) := by rw [tilE_zero]; exact row_madeE hown'
  have hs1 := hb1.size
  clear hown hown' hgr hc
  go_wp2
  go_loopw [1, 32] (fun x i wr => ∃ k : Nat, k ≤ N ∧ i = .int .i64 k ∧ x = .int .i64 (gqA at' k) ∧ Below w.heap.size w wr ∧ Hid (wr.heap[w1.heap.size]? = some (.cells (valsE pcC N (tilE k (gqF n f at') (fun _ => zP))).toArray 49 (0, 0))) ∧ Hid (∀ j, j < k → gpOk n f (gqA at' j) = true)) (fun _ i _ => N - (intOf i).toNat)
  case atStart => exact ⟨0, Nat.zero_le _, rfl, by simp [gqA], hb2, HR, fun j hj => by omega⟩
  case round =>
    clear HR hb2
    obtain ⟨k, hk, rfl, rfl, hb, hr, hall⟩ := hrel
    by_cases hlt : k < N
    · obtain ⟨y, hy⟩ : ∃ y, gqA at' k = y := ⟨_, rfl⟩
      have hyr : -9223372036854775808 ≤ y ∧ y ≤ 9223372036854775807 := by unfold gqA at hy; omega
      rw [hy]
      cases hp : gpOk n f y with
      | false =>
        have HN : Hid (gqOk n f at' = false) := by
          show gqOk n f at' = false
          unfold gqOk
          rw [HN0.out, allg_no hlt (f := fun i => gpOk n f (gqA at' i)) (by rw [hy]; exact hp)]
          simp
        go_wp2_with fail
        refine (implGetPiece_any a b n c y f _ hn hcap hyr hu (h.grew hb)).mono ?_
        rintro e w3 ⟨rfl, hb3⟩
        rw [hp]
        generalize gpP n f y = x
        generalize gpX n f y = z
        clear hall hr
        go_wp2
        go_ret3
        exact ⟨(below_app hb hb3 hb.size).alloc (below_app hb hb3 hb.size).size _, .inr ⟨HN.out, rfl⟩⟩
      | true =>
        have hprg := gpOk_rng hp
        have HA : Hid (∀ j, j < k + 1 → gpOk n f (gqA at' j) = true) := fun j hj => by
          by_cases e : j = k
          · subst e; rw [hy]; exact hp
          · exact hall.out j (by omega)
        have HF : Hid (tilE (k + 1) (gqF n f at') (fun _ => zP) = fun i => if i = k then rawP n f y else tilE k (gqF n f at') (fun _ => zP) i) := by
          show _ = _
          rw [← tilE_step]
          unfold gqF
          rw [hy]
        have HY : Hid (y + 52 = gqA at' (k + 1)) := show _ = _ by rw [← hy]; unfold gqA; push_cast; omega
        have e1 : gpP n f y = rawP n f y := by unfold gpP; rw [if_pos hp]
        have e2 : gpX n f y = y + 52 := by unfold gpX; rw [if_pos hp]
        go_wp2_with fail
        refine (implGetPiece_any a b n c y f _ hn hcap hyr hu (h.grew hb)).mono ?_
        rintro e w3 ⟨rfl, hb3⟩
        rw [hp, e1, e2]
        generalize rawP n f y = x at HF
        have hB3 := below_app hb hb3 hb.size
        have hr3 := (hb3.block _ (lt_row hr.out)).trans hr.out
        have bV := box_new w3 49 x
        have hbV := below_new2' w3 (.cells #[.int .i64 x.id, .int .i64 x.ow, .int .i64 x.si, .int .i64 x.zo, .int .i64 x.st, .int .i64 x.po, .int .i64 x.to, .int .i64 x.tr, .int .i64 x.pl, .int .i64 x.mi, .int .i64 x.ma, .bool x.de, .bool x.be] 49)
        generalize hV : w3.alloc (.cells #[.int .i64 x.id, .int .i64 x.ow, .int .i64 x.si, .int .i64 x.zo, .int .i64 x.st, .int .i64 x.po, .int .i64 x.to, .int .i64 x.tr, .int .i64 x.pl, .int .i64 x.mi, .int .i64 x.ma, .bool x.de, .bool x.be] 49) = V at bV hbV
        have hrV := (hbV.block _ (lt_row hr3)).trans hr3
        obtain ⟨k0, k1, k2, k3, k4, k5, k6, k7, k8, k9, k10, k11, k12⟩ : Cells13 _ _ _ := bV.cells
        have ht : V.there w1.heap.size (k * 13) 13 := there_row hrV (by simp [valsE_len pcC_len]; omega)
        have hput := row_putE pcC_len hrV k x hlt
        rw [← HF.out] at hput
        have hBV := below_app hB3 hbV hB3.size
        have hB4 := below_setCells' (g := w1.heap.size) hs1 (pcC x) (k * 13) V hBV
        generalize hU : V.setCells w1.heap.size (k * 13) (pcC x) = U at hput hB4
        have y1 : (0 : Int) ≤ (k : Int) := by omega
        have y2 : (k : Int) < (N : Int) := by omega
        clear hall hy hp hr hr3 hb hb3 HF e1 e2
        go_wp2_with (refine wpList_store_mid rfl 49 (.tmp 48) (.tmp 46) rfl w1.heap.size (k * 13) #[.int .i64 x.id, .int .i64 x.ow, .int .i64 x.si, .int .i64 x.zo, .int .i64 x.st, .int .i64 x.po, .int .i64 x.to, .int .i64 x.tr, .int .i64 x.pl, .int .i64 x.mi, .int .i64 x.ma, .bool x.de, .bool x.be] (by first | rfl | simp [Act.eval]) rfl ht (by kernel_rfl) (by simp [Value.oneCell']) ?_; generalize hU2 : V.setCells w1.heap.size (k * 13) _ = U2; obtain rfl : U = U2 := hU.symm.trans hU2)
        have HR2 : Hid (U.heap[w1.heap.size]? = some (.cells (valsE pcC N (tilE (k + 1) (gqF n f at') (fun _ => zP))).toArray 49 (0, 0))) := hput
        clear hput
        go_roundw
        case rel => first | exact ⟨k + 1, by omega, by go_num, by rw [HY.out], hB4, HR2, HA⟩ | ((repeat apply Exists.intro); exact ⟨⟨k + 1, by omega, by go_num, by rw [HY.out], hB4, HR2, HA⟩, rfl⟩)
        case measure => simp [intOf]; omega
    · obtain rfl : k = N := by omega
      have HN : Hid (gqOk n f at' = true) := by
        show gqOk n f at' = true
        unfold gqOk
        rw [HK.out, HN0.out, allg_yes (f := fun i => gpOk n f (gqA at' i)) hall.out]
        rfl
      have hr2 := hr.out
      rw [valsE_congr pcC_len (tilE_all (gqF n f at') (fun _ => zP) (Nat.le_refl k))] at hr2
      have ho := ownE_row pcC_len hr2 hs1
      clear hr hr2 hall
      go_wp2
      go_ret3
      exact ⟨hb, .inl ⟨HN.out, w1.heap.size, by rw [HN0.out]; rfl, by rw [HN0.out]; exact ho⟩⟩
end Go.Proofs.Ytpdoefcdajcloap
