/-
  The laws' own marks on rows of pieces and of sides, on states, and whether they are held. Written by tools/stmark.gen.py. Own work.
-/
import Derived.Test.YtodfdfncdoliiauState5
namespace Go.Proofs.Ytodfdfncdoliiau
open Go.ChangeShapes Go.WideShapes Go.ChangeAt Go.RowKit
set_option maxRecDepth 100000
set_option linter.unusedVariables false
theorem cell_setCells_other (b : Nat) : ∀ (vs : List Value) (o : Nat) (w : World) (q : Addr), (q.block ≠ b ∨ q.off < o ∨ o + vs.length ≤ q.off) → (w.setCells b o vs).cell? q = w.cell? q
  | [], _, _, _, _ => rfl
  | v :: r, o, w, q, h => by
    simp only [List.length_cons] at h
    unfold World.setCells
    rw [cell_setCells_other b r (o + 1) _ q (by omega)]
    exact World.cell?_setCell_other _ _ _ _ (by intro e; subst e; simp at h; omega)
theorem cell_setCells_in (b : Nat) : ∀ (vs : List Value) (o : Nat) (w : World), (∀ j, j < vs.length → (w.cell? ⟨b, o + j, none⟩).isSome = true) → ∀ j v, vs[j]? = some v → (w.setCells b o vs).cell? ⟨b, o + j, none⟩ = some v
  | [], _, _, _, _, _, h => by simp at h
  | u :: r, o, w, hc, j, v, h => by
    unfold World.setCells
    cases j with
    | zero =>
      simp only [List.getElem?_cons_zero, Option.some.injEq] at h
      subst h
      rw [cell_setCells_other b r (o + 1) _ _ (by simp)]
      have h0 := hc 0 (by simp)
      obtain ⟨z, hz⟩ := Option.isSome_iff_exists.1 h0
      exact World.cell?_setCell_same _ _ _ hz
    | succ j =>
      simp only [List.getElem?_cons_succ] at h
      have := cell_setCells_in b r (o + 1) (w.setCell ⟨b, o, none⟩ u) (fun i hi => by
        rw [World.cell?_setCell_other _ _ _ _ (by intro e; simp at e; try omega), show o + 1 + i = o + (i + 1) by omega]
        exact hc (i + 1) (by simp; omega)) j v h
      rwa [show o + 1 + j = o + (j + 1) by omega] at this
theorem frozen_setCells (b : Nat) : ∀ (vs : List Value) (o : Nat) (w : World) (q : Addr), (w.setCells b o vs).frozen? q = w.frozen? q
  | [], _, _, _ => rfl
  | v :: r, o, w, q => by
    unfold World.setCells
    rw [frozen_setCells b r]
    exact World.frozen?_setCell _ _ _ _
theorem Only.setCells {p : Nat} {a : World} : ∀ (vs : List Value) (o : Nat) (w : World), Only p a w → Only p a (w.setCells p o vs)
  | [], _, _, h => h
  | v :: r, o, w, h => by unfold World.setCells; exact Only.setCells r (o + 1) _ (h.setCell (.inl rfl) v)
theorem OwnE.putE {α : Type} {C : α → List Value} {m : Nat} (hm : ∀ x, (C x).length = m) {w : World} {B b off n : Nat} {f : Nat → α} (h : OwnE C m w B b (some ⟨b, off, none⟩) n f) (k : Nat) (hk : k < n) (x : α) :
    OwnE C m (w.setCells b (off + k * m) (C x)) B b (some ⟨b, off, none⟩) n (fun i => if i = k then x else f i) := by
  obtain ⟨h1, h2, h3, h4⟩ := h
  refine ⟨h1, by rw [size_setCells]; exact h2, ?_, fun i => (frozen_setCells _ _ _ _ _).trans (h4 i)⟩
  rcases h3 with h3 | ⟨o, e, hc⟩
  · exact .inl h3
  · simp only [Option.some.injEq, Addr.mk.injEq, and_true, true_and] at e
    subst e
    refine .inr ⟨off, rfl, fun i hi j v hv => ?_⟩
    have hjm : j < m := by rw [← hm (if i = k then x else f i)]; exact (List.getElem?_eq_some_iff.1 hv).1
    by_cases hik : i = k
    · subst hik
      simp only [if_true] at hv
      refine cell_setCells_in b (C x) (off + i * m) w (fun j hj => ?_) j v hv
      rw [hm] at hj
      have hj' : j < (C (f i)).length := by rw [hm]; exact hj
      rw [hc i hi j _ (List.getElem?_eq_getElem hj')]
      rfl
    · simp only [if_neg hik] at hv
      rw [cell_setCells_other b (C x) (off + k * m) w _ ?_]
      · exact hc i hi j v hv
      · rw [hm]
        rcases Nat.lt_or_gt_of_ne hik with h3 | h3
        · have : (i + 1) * m ≤ k * m := Nat.mul_le_mul_right m h3
          rw [Nat.succ_mul] at this
          right; left; show off + i * m + j < off + k * m; omega
        · have : (k + 1) * m ≤ i * m := Nat.mul_le_mul_right m h3
          rw [Nat.succ_mul] at this
          right; right; show off + k * m + m ≤ off + i * m + j; omega
theorem OwnE.congr {α : Type} {C : α → List Value} {m : Nat} {w : World} {B b : Nat} {a : Option Addr} {n : Nat} {f g : Nat → α} (h : OwnE C m w B b a n f) (e : ∀ i, i < n → f i = g i) : OwnE C m w B b a n g := ⟨h.1, h.2.1, h.2.2.1.congr e, h.2.2.2⟩
/-- the piece, the side that is marked from number x on -/
def mkP (x : Int) : Pc := ⟨x, x + 1, x + 1 + 1, x + 1 + 1 + 1, x + 1 + 1 + 1 + 1, x + 1 + 1 + 1 + 1 + 1, x + 1 + 1 + 1 + 1 + 1 + 1, x + 1 + 1 + 1 + 1 + 1 + 1 + 1, x + 1 + 1 + 1 + 1 + 1 + 1 + 1 + 1, x + 1 + 1 + 1 + 1 + 1 + 1 + 1 + 1 + 1, x + 1 + 1 + 1 + 1 + 1 + 1 + 1 + 1 + 1 + 1, (x + 1 + 1 + 1 + 1 + 1 + 1 + 1 + 1 + 1 + 1 + 1) % 3 == 0, (x + 1 + 1 + 1 + 1 + 1 + 1 + 1 + 1 + 1 + 1 + 1 + 1) % 3 == 0⟩
def mkD (x : Int) : Sd := ⟨x, x + 1, (x + 1 + 1) % 3 == 0⟩
set_option maxHeartbeats 4000000 in
theorem markSideS_any (a : Option Addr) (b n c : Nat) (k0 : Int) (f : Nat → Sd) (w : World) {B : Nat} (hn : n ≤ 1048577) (hk0 : 0 ≤ k0) (hk1 : k0 ≤ 140737488351232) (h : OwnE sdC 3 w B b a n f) :
    Calls Try.prog 66 #[.slice a n c, .int .i64 k0] w fun e w' => e = .returned (.int .i64 (k0 + 3 * n)) ∧ Only b w w' ∧ OwnE sdC 3 w' B b a n (fun i => mkD (k0 + 3 * i)) := by
  go_enter Try.func66, Try.ntmps66
  go_wp2
  go_loopw [1, 5] (fun m i wr => ∃ k : Nat, k ≤ n ∧ i = .int .i64 k ∧ m = .int .i64 (k0 + 3 * k) ∧ Only b w wr ∧ OwnE sdC 3 wr B b a n (tilE k (fun i => mkD (k0 + 3 * i)) f)) (fun _ i _ => n - (intOf i).toNat)
  case atStart => exact ⟨0, Nat.zero_le _, rfl, by simp, Only.refl _ _, by rw [tilE_zero]; exact h⟩
  case round =>
    obtain ⟨k, hk, rfl, rfl, hb, hr⟩ := hrel
    by_cases hlt : k < n
    · rcases hr.rd with h3 | ⟨o1, rfl, h3⟩
      · omega
      obtain ⟨c0, c1, c2⟩ : At3 wr b (o1 + k * 3) _ := At3_of (h3 k hlt)
      clear h3 h
      have z0 := hr.2.2.2 (o1 + k * 3)
      have z1 := hr.2.2.2 (o1 + k * 3 + 1)
      have z2 := hr.2.2.2 (o1 + k * 3 + 2)
      have R := hr.putE sdC_len k hlt (mkD (k0 + 3 * k))
      rw [tilE_step k (fun i => mkD (k0 + 3 * i))] at R
      have hb2 := Only.setCells (sdC (mkD (k0 + 3 * k))) (o1 + k * 3) wr hb
      have HX : Hid (k0 + 3 * ((k + 1 : Nat) : Int) = k0 + 3 * k + 3) := by show _ = _; omega
      obtain ⟨x, hx⟩ : ∃ x, k0 + 3 * (k : Int) = x := ⟨_, rfl⟩
      have x1 : 0 ≤ x := by omega
      have x2 : x ≤ 140737588351232 := by omega
      have y1 : (0 : Int) ≤ (k : Int) := by omega
      have y2 : (k : Int) < (n : Int) := by omega
      rw [hx] at HX R hb2 ⊢
      have HC : Hid (wr.setCells b (o1 + k * 3) (sdC (mkD x)) = (((wr.setCell ⟨b, o1 + k * 3, none⟩ (.int .i64 x)).setCell ⟨b, o1 + k * 3 + 1, none⟩ (.int .i64 (x + 1))).setCell ⟨b, o1 + k * 3 + 2, none⟩ (.bool ((x + 1 + 1) % 3 == 0)))) := show _ = _ from rfl
      rw [HC.out] at R hb2
      have HR : Hid (Only b w (((wr.setCell ⟨b, o1 + k * 3, none⟩ (.int .i64 x)).setCell ⟨b, o1 + k * 3 + 1, none⟩ (.int .i64 (x + 1))).setCell ⟨b, o1 + k * 3 + 2, none⟩ (.bool ((x + 1 + 1) % 3 == 0)))) := hb2
      have HO : Hid (OwnE sdC 3 (((wr.setCell ⟨b, o1 + k * 3, none⟩ (.int .i64 x)).setCell ⟨b, o1 + k * 3 + 1, none⟩ (.int .i64 (x + 1))).setCell ⟨b, o1 + k * 3 + 2, none⟩ (.bool ((x + 1 + 1) % 3 == 0))) B b (some ⟨b, o1, none⟩) n (tilE (k + 1) (fun i => mkD (k0 + 3 * i)) f)) := R
      clear hr R hb2 HC hx
      go_wp2
      go_roundw
      case rel => exact ⟨k + 1, by omega, by go_num, by rw [HX.out]; go_num, HR.out, HO.out⟩
      case measure => simp [intOf]; omega
    · obtain rfl : k = n := by omega
      have hr2 := hr.congr (tilE_all (fun i => mkD (k0 + 3 * i)) _ (Nat.le_refl _))
      go_wp2
      go_ret
      exact ⟨rfl, hb, hr2⟩
set_option maxHeartbeats 4000000 in
theorem markPieceS_any (a : Option Addr) (b n c : Nat) (k0 : Int) (f : Nat → Pc) (w : World) {B : Nat} (hn : n ≤ 1048577) (hk0 : 0 ≤ k0) (hk1 : k0 ≤ 140737488351232) (h : OwnE pcC 13 w B b a n f) :
    Calls Try.prog 65 #[.slice a n c, .int .i64 k0] w fun e w' => e = .returned (.int .i64 (k0 + 13 * n)) ∧ Only b w w' ∧ OwnE pcC 13 w' B b a n (fun i => mkP (k0 + 13 * i)) := by
  go_enter Try.func65, Try.ntmps65
  go_wp2
  go_loopw [1, 5] (fun m i wr => ∃ k : Nat, k ≤ n ∧ i = .int .i64 k ∧ m = .int .i64 (k0 + 13 * k) ∧ Only b w wr ∧ OwnE pcC 13 wr B b a n (tilE k (fun i => mkP (k0 + 13 * i)) f)) (fun _ i _ => n - (intOf i).toNat)
  case atStart => exact ⟨0, Nat.zero_le _, rfl, by simp, Only.refl _ _, by rw [tilE_zero]; exact h⟩
  case round =>
    obtain ⟨k, hk, rfl, rfl, hb, hr⟩ := hrel
    by_cases hlt : k < n
    · rcases hr.rd with h3 | ⟨o1, rfl, h3⟩
      · omega
      obtain ⟨c0, c1, c2, c3, c4, c5, c6, c7, c8, c9, c10, c11, c12⟩ : At13 wr b (o1 + k * 13) _ := At13_of (h3 k hlt)
      clear h3 h
      have z0 := hr.2.2.2 (o1 + k * 13)
      have z1 := hr.2.2.2 (o1 + k * 13 + 1)
      have z2 := hr.2.2.2 (o1 + k * 13 + 2)
      have z3 := hr.2.2.2 (o1 + k * 13 + 3)
      have z4 := hr.2.2.2 (o1 + k * 13 + 4)
      have z5 := hr.2.2.2 (o1 + k * 13 + 5)
      have z6 := hr.2.2.2 (o1 + k * 13 + 6)
      have z7 := hr.2.2.2 (o1 + k * 13 + 7)
      have z8 := hr.2.2.2 (o1 + k * 13 + 8)
      have z9 := hr.2.2.2 (o1 + k * 13 + 9)
      have z10 := hr.2.2.2 (o1 + k * 13 + 10)
      have z11 := hr.2.2.2 (o1 + k * 13 + 11)
      have z12 := hr.2.2.2 (o1 + k * 13 + 12)
      have R := hr.putE pcC_len k hlt (mkP (k0 + 13 * k))
      rw [tilE_step k (fun i => mkP (k0 + 13 * i))] at R
      have hb2 := Only.setCells (pcC (mkP (k0 + 13 * k))) (o1 + k * 13) wr hb
      have HX : Hid (k0 + 13 * ((k + 1 : Nat) : Int) = k0 + 13 * k + 13) := by show _ = _; omega
      obtain ⟨x, hx⟩ : ∃ x, k0 + 13 * (k : Int) = x := ⟨_, rfl⟩
      have x1 : 0 ≤ x := by omega
      have x2 : x ≤ 140737588351232 := by omega
      have y1 : (0 : Int) ≤ (k : Int) := by omega
      have y2 : (k : Int) < (n : Int) := by omega
      rw [hx] at HX R hb2 ⊢
      have HC : Hid (wr.setCells b (o1 + k * 13) (pcC (mkP x)) = (((((((((((((wr.setCell ⟨b, o1 + k * 13, none⟩ (.int .i64 (x))).setCell ⟨b, o1 + k * 13 + 1, none⟩ (.int .i64 (x + 1))).setCell ⟨b, o1 + k * 13 + 2, none⟩ (.int .i64 (x + 1 + 1))).setCell ⟨b, o1 + k * 13 + 3, none⟩ (.int .i64 (x + 1 + 1 + 1))).setCell ⟨b, o1 + k * 13 + 4, none⟩ (.int .i64 (x + 1 + 1 + 1 + 1))).setCell ⟨b, o1 + k * 13 + 5, none⟩ (.int .i64 (x + 1 + 1 + 1 + 1 + 1))).setCell ⟨b, o1 + k * 13 + 6, none⟩ (.int .i64 (x + 1 + 1 + 1 + 1 + 1 + 1))).setCell ⟨b, o1 + k * 13 + 7, none⟩ (.int .i64 (x + 1 + 1 + 1 + 1 + 1 + 1 + 1))).setCell ⟨b, o1 + k * 13 + 8, none⟩ (.int .i64 (x + 1 + 1 + 1 + 1 + 1 + 1 + 1 + 1))).setCell ⟨b, o1 + k * 13 + 9, none⟩ (.int .i64 (x + 1 + 1 + 1 + 1 + 1 + 1 + 1 + 1 + 1))).setCell ⟨b, o1 + k * 13 + 10, none⟩ (.int .i64 (x + 1 + 1 + 1 + 1 + 1 + 1 + 1 + 1 + 1 + 1))).setCell ⟨b, o1 + k * 13 + 11, none⟩ (.bool ((x + 1 + 1 + 1 + 1 + 1 + 1 + 1 + 1 + 1 + 1 + 1) % 3 == 0))).setCell ⟨b, o1 + k * 13 + 12, none⟩ (.bool ((x + 1 + 1 + 1 + 1 + 1 + 1 + 1 + 1 + 1 + 1 + 1 + 1) % 3 == 0)))) := show _ = _ from rfl
      rw [HC.out] at R hb2
      have HR : Hid (Only b w (((((((((((((wr.setCell ⟨b, o1 + k * 13, none⟩ (.int .i64 (x))).setCell ⟨b, o1 + k * 13 + 1, none⟩ (.int .i64 (x + 1))).setCell ⟨b, o1 + k * 13 + 2, none⟩ (.int .i64 (x + 1 + 1))).setCell ⟨b, o1 + k * 13 + 3, none⟩ (.int .i64 (x + 1 + 1 + 1))).setCell ⟨b, o1 + k * 13 + 4, none⟩ (.int .i64 (x + 1 + 1 + 1 + 1))).setCell ⟨b, o1 + k * 13 + 5, none⟩ (.int .i64 (x + 1 + 1 + 1 + 1 + 1))).setCell ⟨b, o1 + k * 13 + 6, none⟩ (.int .i64 (x + 1 + 1 + 1 + 1 + 1 + 1))).setCell ⟨b, o1 + k * 13 + 7, none⟩ (.int .i64 (x + 1 + 1 + 1 + 1 + 1 + 1 + 1))).setCell ⟨b, o1 + k * 13 + 8, none⟩ (.int .i64 (x + 1 + 1 + 1 + 1 + 1 + 1 + 1 + 1))).setCell ⟨b, o1 + k * 13 + 9, none⟩ (.int .i64 (x + 1 + 1 + 1 + 1 + 1 + 1 + 1 + 1 + 1))).setCell ⟨b, o1 + k * 13 + 10, none⟩ (.int .i64 (x + 1 + 1 + 1 + 1 + 1 + 1 + 1 + 1 + 1 + 1))).setCell ⟨b, o1 + k * 13 + 11, none⟩ (.bool ((x + 1 + 1 + 1 + 1 + 1 + 1 + 1 + 1 + 1 + 1 + 1) % 3 == 0))).setCell ⟨b, o1 + k * 13 + 12, none⟩ (.bool ((x + 1 + 1 + 1 + 1 + 1 + 1 + 1 + 1 + 1 + 1 + 1 + 1) % 3 == 0)))) := hb2
      have HO : Hid (OwnE pcC 13 (((((((((((((wr.setCell ⟨b, o1 + k * 13, none⟩ (.int .i64 (x))).setCell ⟨b, o1 + k * 13 + 1, none⟩ (.int .i64 (x + 1))).setCell ⟨b, o1 + k * 13 + 2, none⟩ (.int .i64 (x + 1 + 1))).setCell ⟨b, o1 + k * 13 + 3, none⟩ (.int .i64 (x + 1 + 1 + 1))).setCell ⟨b, o1 + k * 13 + 4, none⟩ (.int .i64 (x + 1 + 1 + 1 + 1))).setCell ⟨b, o1 + k * 13 + 5, none⟩ (.int .i64 (x + 1 + 1 + 1 + 1 + 1))).setCell ⟨b, o1 + k * 13 + 6, none⟩ (.int .i64 (x + 1 + 1 + 1 + 1 + 1 + 1))).setCell ⟨b, o1 + k * 13 + 7, none⟩ (.int .i64 (x + 1 + 1 + 1 + 1 + 1 + 1 + 1))).setCell ⟨b, o1 + k * 13 + 8, none⟩ (.int .i64 (x + 1 + 1 + 1 + 1 + 1 + 1 + 1 + 1))).setCell ⟨b, o1 + k * 13 + 9, none⟩ (.int .i64 (x + 1 + 1 + 1 + 1 + 1 + 1 + 1 + 1 + 1))).setCell ⟨b, o1 + k * 13 + 10, none⟩ (.int .i64 (x + 1 + 1 + 1 + 1 + 1 + 1 + 1 + 1 + 1 + 1))).setCell ⟨b, o1 + k * 13 + 11, none⟩ (.bool ((x + 1 + 1 + 1 + 1 + 1 + 1 + 1 + 1 + 1 + 1 + 1) % 3 == 0))).setCell ⟨b, o1 + k * 13 + 12, none⟩ (.bool ((x + 1 + 1 + 1 + 1 + 1 + 1 + 1 + 1 + 1 + 1 + 1 + 1) % 3 == 0))) B b (some ⟨b, o1, none⟩) n (tilE (k + 1) (fun i => mkP (k0 + 13 * i)) f)) := R
      clear hr R hb2 HC hx
      go_wp2
      go_roundw
      case rel => exact ⟨k + 1, by omega, by go_num, by rw [HX.out]; go_num, HR.out, HO.out⟩
      case measure => simp [intOf]; omega
    · obtain rfl : k = n := by omega
      have hr2 := hr.congr (tilE_all (fun i => mkP (k0 + 13 * i)) _ (Nat.le_refl _))
      go_wp2
      go_ret
      exact ⟨rfl, hb, hr2⟩
end Go.Proofs.Ytodfdfncdoliiau
