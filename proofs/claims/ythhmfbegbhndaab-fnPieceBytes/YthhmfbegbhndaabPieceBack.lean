/-
  Chapter 4: a piece comes back of its bytes, and what is read has its bytes. Own work.
-/
import Derived.Test.YthhmfbegbhndaabPieceI5
import Derived.Test.YthhmfbegbhndaabPiece6
import Derived.Test.YthhmfbegbhndaabNums
import Derived.Test.YthhmfbegbhndaabDrawP2
namespace Go.Proofs.Ythhmfbegbhndaab
open Go.ChangeShapes Go.WideShapes Go.ChangeAt Go.RowKit
set_option maxRecDepth 100000

theorem encM_at (L : List Int) (j k : Nat) (hk : k < 4) : encM L (4 * j + k) = enc (L.getD j 0) k := by
  unfold encM
  rw [show (4 * j + k) / 4 = j by omega, show (4 * j + k) % 4 = k by omega]
theorem num4_pp (m : Nat) (f : Nat → Int) (L : List Int) (j : Nat) : num4 (cat m f (encM L)) (m + 4 * j) = bnd (L.getD j 0) + 2147483648 := by
  have r := bnd_rng (L.getD j 0)
  unfold num4
  rw [part4, Nat.add_assoc m, Nat.add_assoc m, Nat.add_assoc m, Nat.add_assoc m, cat_at, cat_at, cat_at, cat_at, encM_at L j 0 (by omega), encM_at L j 1 (by omega), encM_at L j 2 (by omega), encM_at L j 3 (by omega)]
  have e0 : enc (L.getD j 0) 0 = (bnd (L.getD j 0) + 2147483648) / 16777216 := rfl
  have e1 : enc (L.getD j 0) 1 = (bnd (L.getD j 0) + 2147483648) / 65536 % 256 := rfl
  have e2 : enc (L.getD j 0) 2 = (bnd (L.getD j 0) + 2147483648) / 256 % 256 := rfl
  have e3 : enc (L.getD j 0) 3 = (bnd (L.getD j 0) + 2147483648) % 256 := rfl
  rw [e0, e1, e2, e3]
  omega
theorem gok_pp (m M : Nat) (f : Nat → Int) (L : List Int) (j : Nat) (hj : m + 4 * j + 4 ≤ M) : gok M (cat m f (encM L)) ((m : Int) + 4 * (j : Int)) = true := by
  have r := bnd_rng (L.getD j 0)
  rw [gok_in (by omega), show ((m : Int) + 4 * (j : Int)).toNat = m + 4 * j by omega, num4_pp]
  generalize bnd (L.getD j 0) = z at r ⊢
  simp; omega
theorem gnL_pp (m M : Nat) (f : Nat → Int) (L : List Int) (j : Nat) (hj : m + 4 * j + 4 ≤ M) : gnL M (cat m f (encM L)) (m : Int) j = bnd (L.getD j 0) := by
  unfold gnL gnum
  rw [if_pos (gok_pp m M f L j hj), show ((m : Int) + 4 * (j : Int)).toNat = m + 4 * j by omega, num4_pp]
  omega
theorem bnd_in {x : Int} (h : -2147483647 ≤ x ∧ x ≤ 2147483647) : bnd x = x := by unfold bnd; (repeat' split) <;> omega
theorem ib_bd {x a b : Int} (h : ib x a b = true) : a ≤ x ∧ x ≤ b := by
  unfold ib at h
  simpa using h
theorem bt_bd (b : Bool) : 0 ≤ bt b ∧ bt b ≤ 1 := by cases b <;> decide
theorem bt_one (b : Bool) : (bt b == 1) = b := by cases b <;> rfl
theorem pc_ext {p q : Pc} (h0 : p.id = q.id) (h1 : p.ow = q.ow) (h2 : p.si = q.si) (h3 : p.zo = q.zo) (h4 : p.st = q.st) (h5 : p.po = q.po) (h6 : p.to = q.to) (h7 : p.tr = q.tr) (h8 : p.pl = q.pl) (h9 : p.mi = q.mi) (h10 : p.ma = q.ma) (h11 : p.de = q.de) (h12 : p.be = q.be) : p = q := by
  cases p; cases q; simp_all
theorem gnOk_pp (m : Nat) (f : Nat → Int) (L : List Int) : gnOk (m + 52) (cat m f (encM L)) (m : Int) = true := gnOk_yes (fun k hk => gok_pp m (m + 52) f L k (by omega))
theorem rawP_pp (m : Nat) (f : Nat → Int) (p : Pc) (h : okP p = true) : rawP (m + 52) (cat m f (encM (pcl p))) (m : Int) = p := by
  unfold okP okA okB at h
  simp only [Bool.and_eq_true] at h
  obtain ⟨⟨⟨⟨⟨⟨⟨⟨⟨h0, h1⟩, h2⟩, h3⟩, h4⟩, h5⟩, h6⟩, h7⟩, ⟨⟨h8, h9⟩, h10⟩⟩, _⟩ := h
  have g := fun j (hj : j < 13) => gnL_pp m (m + 52) f (pcl p) j (by omega)
  have b0 := ib_bd h0
  have b1 := ib_bd h1
  have b2 := ib_bd h2
  have b3 := ib_bd h3
  have b4 := ib_bd h4
  have b5 := ib_bd h5
  have b6 := ib_bd h6
  have b7 := ib_bd h7
  have b8 := ib_bd h8
  have b9 := ib_bd h9
  have b10 := ib_bd h10
  have b11 := bt_bd p.de
  have b12 := bt_bd p.be
  refine pc_ext ((g 0 (by omega)).trans (bnd_in ?_)) ((g 1 (by omega)).trans (bnd_in ?_)) ((g 2 (by omega)).trans (bnd_in ?_)) ((g 3 (by omega)).trans (bnd_in ?_)) ((g 4 (by omega)).trans (bnd_in ?_)) ((g 5 (by omega)).trans (bnd_in ?_)) ((g 6 (by omega)).trans (bnd_in ?_)) ((g 7 (by omega)).trans (bnd_in ?_)) ((g 8 (by omega)).trans (bnd_in ?_)) ((g 9 (by omega)).trans (bnd_in ?_)) ((g 10 (by omega)).trans (bnd_in ?_)) ?_ ?_
  case refine_12 =>
    show (gnL (m + 52) (cat m f (encM (pcl p))) (m : Int) 11 == 1) = p.de
    rw [(g 11 (by omega)).trans (bnd_in (show -2147483647 ≤ bt p.de ∧ bt p.de ≤ 2147483647 by omega))]
    exact bt_one _
  case refine_13 =>
    show (gnL (m + 52) (cat m f (encM (pcl p))) (m : Int) 12 == 1) = p.be
    rw [(g 12 (by omega)).trans (bnd_in (show -2147483647 ≤ bt p.be ∧ bt p.be ≤ 2147483647 by omega))]
    exact bt_one _
  case refine_1 => show -2147483647 ≤ p.id ∧ p.id ≤ 2147483647; omega
  case refine_2 => show -2147483647 ≤ p.ow ∧ p.ow ≤ 2147483647; omega
  case refine_3 => show -2147483647 ≤ p.si ∧ p.si ≤ 2147483647; omega
  case refine_4 => show -2147483647 ≤ p.zo ∧ p.zo ≤ 2147483647; omega
  case refine_5 => show -2147483647 ≤ p.st ∧ p.st ≤ 2147483647; omega
  case refine_6 => show -2147483647 ≤ p.po ∧ p.po ≤ 2147483647; omega
  case refine_7 => show -2147483647 ≤ p.to ∧ p.to ≤ 2147483647; omega
  case refine_8 => show -2147483647 ≤ p.tr ∧ p.tr ≤ 2147483647; omega
  case refine_9 => show -2147483647 ≤ p.pl ∧ p.pl ≤ 2147483647; omega
  case refine_10 => show -2147483647 ≤ p.mi ∧ p.mi ≤ 2147483647; omega
  case refine_11 => show -2147483647 ≤ p.ma ∧ p.ma ≤ 2147483647; omega
theorem flag_pp (m : Nat) (f : Nat → Int) (p : Pc) : ib (gnL (m + 52) (cat m f (encM (pcl p))) (m : Int) 11) 0 1 = true ∧ ib (gnL (m + 52) (cat m f (encM (pcl p))) (m : Int) 12) 0 1 = true := by
  have b11 := bt_bd p.de
  have b12 := bt_bd p.be
  rw [(gnL_pp m (m + 52) f (pcl p) 11 (by omega)).trans (bnd_in (show -2147483647 ≤ bt p.de ∧ bt p.de ≤ 2147483647 by omega)), (gnL_pp m (m + 52) f (pcl p) 12 (by omega)).trans (bnd_in (show -2147483647 ≤ bt p.be ∧ bt p.be ≤ 2147483647 by omega))]
  show ib (bt p.de) 0 1 = true ∧ ib (bt p.be) 0 1 = true
  unfold ib
  simp
  omega
theorem gpOk_pp (m : Nat) (f : Nat → Int) (p : Pc) (h : okP p = true) : gpOk (m + 52) (cat m f (encM (pcl p))) (m : Int) = true := by
  unfold gpOk
  rw [gnOk_pp, (flag_pp m f p).1, (flag_pp m f p).2, rawP_pp m f p h, h]
  rfl
theorem implGetPiece_back (a : Option Addr) (b m c : Nat) (f : Nat → Int) (p : Pc) (w : World) (hm : m ≤ 1000) (hcap : m + 52 ≤ c) (hu : U8 m f) (hok : okP p = true) (h : Rd .u8 w b a (m + 52) (cat m f (encM (pcl p)))) :
    Calls Try.prog 37 #[.slice a (m + 52) c, .int .i64 m] w fun e w' => e = .returned (.tuple #[(.agg #[.int .i64 p.id, .int .i64 p.ow, .int .i64 p.si, .int .i64 p.zo, .int .i64 p.st, .int .i64 p.po, .int .i64 p.to, .int .i64 p.tr, .int .i64 p.pl, .int .i64 p.mi, .int .i64 p.ma, .bool p.de, .bool p.be]), .int .i64 ((m : Int) + 52), .bool true]) ∧ Below w.heap.size w w' := by
  have := implGetPiece_any a b (m + 52) c m (cat m f (encM (pcl p))) w (by omega) hcap (by omega) (hu.cat (U8.encM (pcl p) 52)) h
  have hk := gpOk_pp m f p hok
  unfold gpP gpX at this
  rw [if_pos hk, if_pos hk, hk, rawP_pp m f p hok] at this
  exact this
theorem implGetPiece_yes (a : Option Addr) (b n c : Nat) (at' : Int) (f : Nat → Int) (w : World) (hn : n ≤ 100000000) (hcap : n ≤ c) (ha : -9223372036854775808 ≤ at' ∧ at' ≤ 9223372036854775807) (hu : U8 n f) (h : Rd .u8 w b a n f) (hk : gpOk n f at' = true) :
    Calls Try.prog 37 #[.slice a n c, .int .i64 at'] w fun e w' => e = .returned (.tuple #[(.agg #[.int .i64 (rawP n f at').id, .int .i64 (rawP n f at').ow, .int .i64 (rawP n f at').si, .int .i64 (rawP n f at').zo, .int .i64 (rawP n f at').st, .int .i64 (rawP n f at').po, .int .i64 (rawP n f at').to, .int .i64 (rawP n f at').tr, .int .i64 (rawP n f at').pl, .int .i64 (rawP n f at').mi, .int .i64 (rawP n f at').ma, .bool (rawP n f at').de, .bool (rawP n f at').be]), .int .i64 (at' + 52), .bool true]) ∧ Below w.heap.size w w' := by
  have := implGetPiece_any a b n c at' f w hn hcap ha hu h
  unfold gpP gpX at this
  rw [if_pos hk, if_pos hk, hk] at this
  exact this
theorem implGetPiece_no (a : Option Addr) (b n c : Nat) (at' : Int) (f : Nat → Int) (w : World) (hn : n ≤ 100000000) (hcap : n ≤ c) (ha : -9223372036854775808 ≤ at' ∧ at' ≤ 9223372036854775807) (hu : U8 n f) (h : Rd .u8 w b a n f) (hk : gpOk n f at' = false) :
    Calls Try.prog 37 #[.slice a n c, .int .i64 at'] w fun e w' => e = .returned (.tuple #[.agg #[.int .i64 0, .int .i64 0, .int .i64 0, .int .i64 0, .int .i64 0, .int .i64 0, .int .i64 0, .int .i64 0, .int .i64 0, .int .i64 0, .int .i64 0, .bool false, .bool false], .int .i64 0, .bool false]) ∧ Below w.heap.size w w' := by
  have := implGetPiece_any a b n c at' f w hn hcap ha hu h
  have hk' : ¬ gpOk n f at' = true := by rw [hk]; decide
  unfold gpP gpX at this
  rw [if_neg hk', if_neg hk', hk] at this
  exact this
/-- where a piece stands, its bytes are those that PutPiece would lay -/
theorem gp_fwd {n : Nat} {f : Nat → Int} {at' : Int} (hu : U8 n f) (h : gpOk n f at' = true) : ∃ i : Nat, at' = i ∧ i + 52 ≤ n ∧ okP (rawP n f at') = true ∧ ∀ j, j < 52 → encM (pcl (rawP n f at')) j = f (i + j) := by
  unfold gpOk at h
  simp only [Bool.and_eq_true] at h
  obtain ⟨⟨⟨h1, h2⟩, h3⟩, h4⟩ := h
  have hall : ∀ k : Nat, k < 13 → gok n f (at' + 4 * (k : Int)) = true := fun k hk => by
    unfold gnOk at h1
    exact List.all_eq_true.1 h1 k (List.mem_range.2 hk)
  obtain ⟨i, hi, hi4, _, _⟩ := enc_back hu (hall 0 (by omega))
  have hi' : at' = (i : Int) := by simpa using hi
  have hL : ∀ k, k < 13 → (pcl (rawP n f at')).getD k 0 = gnL n f at' k := fun k hk => by
    have : k = 0 ∨ k = 1 ∨ k = 2 ∨ k = 3 ∨ k = 4 ∨ k = 5 ∨ k = 6 ∨ k = 7 ∨ k = 8 ∨ k = 9 ∨ k = 10 ∨ k = 11 ∨ k = 12 := by omega
    rcases this with rfl | rfl | rfl | rfl | rfl | rfl | rfl | rfl | rfl | rfl | rfl | rfl | rfl
    case inr.inr.inr.inr.inr.inr.inr.inr.inr.inr.inr.inl => exact bt_ib _ h2
    case inr.inr.inr.inr.inr.inr.inr.inr.inr.inr.inr.inr => exact bt_ib _ h3
    all_goals rfl
  have hend := gok_rng' (hall 12 (by omega))
  refine ⟨i, hi', by omega, h4, fun j hj => ?_⟩
  obtain ⟨i2, e2, _, _, he⟩ := enc_back hu (hall (j / 4) (by omega))
  have := he (j % 4) (by omega)
  unfold encM
  rw [hL (j / 4) (by omega)]
  unfold gnL
  rw [this]
  congr 1
  omega
theorem specGetPiece_ok (a : Option Addr) (b n c : Nat) (at' : Int) (f : Nat → Int) (w : World) (hn : n ≤ 100000000) (hu : U8 n f) (h : Rd .u8 w b a n f) {r : Bool} (hk : gpOk n f at' = r) :
    Calls Try.prog 39 #[.slice a n c, .int .i64 at'] w fun e w' => ∃ (p : Pc) (x : Int), e = .returned (.tuple #[(.agg #[.int .i64 p.id, .int .i64 p.ow, .int .i64 p.si, .int .i64 p.zo, .int .i64 p.st, .int .i64 p.po, .int .i64 p.to, .int .i64 p.tr, .int .i64 p.pl, .int .i64 p.mi, .int .i64 p.ma, .bool p.de, .bool p.be]), .int .i64 x, .bool r]) ∧ Below w.heap.size w w' :=
  (specGetPiece_any a b n c at' f w hn hu h).mono (by rintro e w' ⟨rfl, hb⟩; rw [hk]; exact ⟨_, _, rfl, hb⟩)
end Go.Proofs.Ythhmfbegbhndaab
