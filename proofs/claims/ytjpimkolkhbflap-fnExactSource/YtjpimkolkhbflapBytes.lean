/-
  Contracts of chapter 2's amounts in bytes (numBytes, joined, cut, PutNum, GetNum and the specification's). Own work.
-/
import Derived.Test.YtjpimkolkhbflapRowLaw
import Derived.Test.YtjpimkolkhbflapNum
namespace Go.Proofs.Ytjpimkolkhbflap
open Go.ChangeShapes Go.WideShapes Go.ChangeAt Go.RowKit
set_option maxRecDepth 100000

def enc (n : Int) : Nat → Int := fun j => if j = 0 then (bnd n + 2147483648) / 16777216 else if j = 1 then (bnd n + 2147483648) / 65536 % 256 else if j = 2 then (bnd n + 2147483648) / 256 % 256 else (bnd n + 2147483648) % 256

theorem and255_eq (x : Int) (h0 : 0 ≤ x) (h1 : x ≤ 9223372036854775807) : bits .and .i64 x 255 % 256 = x % 256 := by
  obtain ⟨m, rfl⟩ := Int.eq_ofNat_of_zero_le h0
  have h2 : (BitVec.ofInt 64 (255 : Int)).toNat = 255 := by decide
  have e : bits .and .i64 (m : Int) 255 = IntKind.i64.wrap ((BitVec.ofInt 64 (m : Int) &&& BitVec.ofInt 64 (255 : Int)).toNat : Int) := rfl
  have h3 : (BitVec.ofInt 64 (m : Int) &&& BitVec.ofInt 64 (255 : Int)).toNat = m % 256 := by
    rw [BitVec.toNat_and, h2, BitVec.ofInt_natCast, BitVec.toNat_ofNat, Nat.mod_eq_of_lt (by omega)]
    exact Nat.and_two_pow_sub_one_eq_mod m 8
  rw [e, h3, IntWalk.i64_in _ (by omega)]
  omega
theorem vals4 (k : IntKind) (f : Nat → Int) : vals k 4 f = [.int k (f 0), .int k (f 1), .int k (f 2), .int k (f 3)] := rfl
theorem Rd.news {k : IntKind} {w : World} {b : Nat} {ad : Addr} {n : Nat} {f : Nat → Int} (h : Rd k w b (some ad) n f) : ∀ j u, (vals k n f)[j]? = some u → w.cell? (ad.add j) = some u := by
  intro j u hu
  by_cases hn : 0 < n
  · obtain ⟨x, e, hx⟩ := h.src hn
    simp only [Option.some.injEq] at e
    subst e
    exact hx j u hu
  · rw [vals_get, if_neg (by omega)] at hu; cases hu
theorem cells_new (w : World) (L : List Value) (t : TypeId) : ∀ j u, L[j]? = some u → (w.alloc (.cells L.toArray t)).cell? ((⟨w.heap.size, 0, none⟩ : Addr).add j) = some u := by
  intro j u hu
  have e : (⟨w.heap.size, 0, none⟩ : Addr).add j = ⟨w.heap.size, j, none⟩ := by unfold Addr.add; split <;> simp_all
  rw [e, cell_of_row _ w.heap.size j _ t (0, 0) (heap_alloc_new w _)]
  simpa using hu
set_option maxHeartbeats 400000 in
theorem numBytes_any (n : Int) (w : World) :
    Calls Try.prog 69 #[.int .i64 n] w fun e w' => e = .returned (.slice (some ⟨w.heap.size, 0, none⟩) 4 4) ∧ w' = w.alloc (.cells (vals .u8 4 (enc n)).toArray 5) := by
  have r := bnd_rng n
  go_enter Try.func69, Try.ntmps69
  go_wp2_with (go_at_call 83; refine (implBound_any _ _).mono ?_; rintro e w' ⟨rfl, rfl⟩)
  go_ret
  refine ⟨rfl, ?_⟩
  rw [vals4]
  rfl
set_option maxHeartbeats 1000000 in
theorem specPutNum_cap (n : Int) (ad : Addr) (b m c : Nat) (f : Nat → Int) (w : World) (hm : m ≤ 140737488351232) (h : Rd .u8 w b (some ad) m f) :
    Calls Try.prog 33 #[.slice (some ad) m c, .int .i64 n] w fun e w' => ∃ g cap, e = .returned (.slice (some ⟨g, 0, none⟩) (m + 4) cap) ∧ m + 4 ≤ cap ∧ Below w.heap.size w w' ∧ Own .u8 w' w.heap.size g (some ⟨g, 0, none⟩) (m + 4) (cat m f (enc n)) := by
  have r := bnd_rng n
  obtain ⟨i0, hi, hz0, hz1, hz2⟩ := info_parts Try.infoU8
  go_enter Try.func33, Try.ntmps33
  go_wp2_with fail
  refine (specBound_any _ _).mono ?_
  rintro e w' ⟨rfl, rfl⟩
  have hb0 : Below w'.heap.size w' (w'.alloc (.cells #[] 5)) := (Below.refl _ _).alloc (Nat.le_refl _) _
  have hown0 : (w'.alloc (.cells #[] 5)).ownsRow w'.heap.size 5 1 (.slice (some ⟨w'.heap.size, 0, none⟩) 0 0) 0 [] := World.ownsRow_lit w' #[] 0 (Nat.le_refl _) (by decide) rfl
  have hnews := (h.grew hb0).news
  go_wp2_with (at_builtin; refine wpList_append_own _ rfl (.tmp 9) (.tmp 10) 27 rfl w'.heap.size 5 i0 (.int .u8 0) 1 1 Try.underlying27 hi hz0 hz1 hz2 rfl (by decide) _ _ _ rfl hown0 ad m c (vals .u8 m f) rfl (by rw [vals_len, Nat.mul_one]) hnews (vals_one _ _ _) (by unfold maxLen; omega) (by omega) hb0.size ?_)
  intro v1 w1 hown1 hgr1 hnil1
  have hb1 : Below w'.heap.size w' w1 := hb0.grown hgr1 hb0.size (by intro k hk; simp [Value.ownBlock] at hk; omega)
  clear hown0 hgr1 hnews h
  go_wp2_with (at_builtin; refine wpList_append_own _ rfl (.tmp 11) (.tmp 27) 27 rfl w'.heap.size 5 i0 (.int .u8 0) 1 1 Try.underlying27 hi hz0 hz1 hz2 rfl (by decide) _ _ _ rfl (hown1.alloc _) ⟨w1.heap.size, 0, none⟩ 4 4 [_, _, _, _] rfl rfl (cells_new _ _ _) (by intro u hu; simp at hu; rcases hu with rfl | rfl | rfl | rfl <;> rfl) (by unfold maxLen; omega) (by omega) (by have := hb1.size; simp; omega) ?_)
  intro v2 w2 hown2 hgr2 hnil2
  have hb2 : Below w'.heap.size w' w2 := (hb1.alloc hb1.size _).grown hgr2 (by have := hb1.size; simp; omega) (fun k hk => (hown1.lt k hk).1)
  rw [and255_eq _ (by omega) (by omega), and255_eq _ (by omega) (by omega), and255_eq _ (by omega) (by omega), and255_eq _ (by omega) (by omega)] at hown2
  have hown3 : w2.ownsRow w'.heap.size 5 1 v2 (m + 4) (vals .u8 (m + 4) (cat m f (enc n))) := by
    rw [← vals_cat, vals4]
    have e0 : enc n 0 = (bnd n + 2147483648) / 16777216 % 256 := by show (bnd n + 2147483648) / 16777216 = _; omega
    rw [e0]
    exact hown2
  have hv2 : v2 ≠ .slice none 0 0 := hnil2
  obtain ⟨g, cap, rfl, hcp, ho⟩ := own_of_cap hown3 hv2
  clear hown2 hown3 hgr2 hnil2 hv2 hown1 hnil1
  go_wp2
  go_ret
  exact ⟨g, cap, rfl, hcp, hb2, ho⟩
theorem specPutNum_any (n : Int) (ad : Addr) (b m c : Nat) (f : Nat → Int) (w : World) (hm : m ≤ 140737488351232) (h : Rd .u8 w b (some ad) m f) :
    Calls Try.prog 33 #[.slice (some ad) m c, .int .i64 n] w fun e w' => ∃ g cap, e = .returned (.slice (some ⟨g, 0, none⟩) (m + 4) cap) ∧ Below w.heap.size w w' ∧ Own .u8 w' w.heap.size g (some ⟨g, 0, none⟩) (m + 4) (cat m f (enc n)) :=
  (specPutNum_cap n ad b m c f w hm h).mono (by rintro e w' ⟨g, cap, h1, _, h2, h3⟩; exact ⟨g, cap, h1, h2, h3⟩)
end Go.Proofs.Ytjpimkolkhbflap
