/-
  The contract of l1Bend: bytes as they were handed, or with one turned, cut, or one more. Own work.
-/
import Derived.Test.YtnlnledijpcjpabDrawL
import Derived.Deep.RegionLaw
namespace Go.Proofs.Ytnlnledijpcjpab
open Go.ChangeShapes Go.WideShapes Go.ChangeAt Go.RowKit
set_option maxRecDepth 100000

/-- a call of a Go function, met by its contract, as one step of a region that draws its order -/
theorem step_call2 {P : Program} {ops : Array Oper} {o : Oper} {a : Act} {w : World} {K : Act → World → Prop} {Q : Exit → Act → World → Prop} {E : Prop} (hgd : o.guard = none) (F : FuncId) (x y : Operand) (t u : TypeId)
    (ho : o.op = .call { callee := .value (.func F), args := #[x, y], argTypes := #[t, u] }) (v v' : Value) (hx : a.eval x = v) (hy : a.eval y = v') (hcf : (callFunc F #[v, v']).run P w = .ok (.enter F #[v, v']) w) {R : Ending → World → Prop} (hc : Calls P F #[v, v'] w R)
    (h : ∀ e w', R e w' → ∃ r, e = .returned r ∧ K (a.put o.dst r) w') : if Region.wanted o (yielded ops a.tmps) = true then Oper.wp P o a w K Q else E := by
  have hw : Region.wanted o (yielded ops a.tmps) = true := by simp [Region.wanted, hgd]
  rw [if_pos hw]
  have hrun : (execOp a.eval o).run P w = .ok (.enter F #[v, v']) w := by
    have hF : a.eval (.func F) = .func (.func F) #[] #[] := rfl
    simp [execOp, ho, resolve, invoke, hx, hy, hF, Deferred.ofValue, hcf]
  unfold Oper.wp
  rw [hrun, Oper.upon_enter]
  refine hc.mono ?_
  intro e w' hR
  obtain ⟨r, rfl, hk⟩ := h e w' hR
  exact hk
theorem below_in (v : Array Value) (w : World) : (callFunc 79 v).run Try.prog w = .ok (.enter 79 v) w := by kernel_rfl
theorem xor_rng (a b : Int) : 0 ≤ bits .xor .u8 a b ∧ bits .xor .u8 a b ≤ 255 := by
  have e : bits .xor .u8 a b = IntKind.u8.wrap ((BitVec.ofInt 8 a ^^^ BitVec.ofInt 8 b).toNat : Int) := rfl
  rw [e, IntKind.wrap_u8']
  omega
theorem Own.put0 {k : IntKind} {w : World} {B b : Nat} {n : Nat} {f : Nat → Int} (h : Own k w B b (some ⟨b, 0, none⟩) n f) (j : Nat) (x : Int) : Own k (w.setCell ⟨b, j, none⟩ (.int k x)) B b (some ⟨b, 0, none⟩) n (fun i => if i = j then x else f i) := by
  have := h.put j x
  rwa [Nat.zero_add] at this
theorem U8.put {n : Nat} {f : Nat → Int} (hu : U8 n f) (j : Nat) {x : Int} (hx : 0 ≤ x ∧ x ≤ 255) : U8 n (fun i => if i = j then x else f i) := fun i hi => by
  show 0 ≤ (if i = j then x else f i) ∧ (if i = j then x else f i) ≤ 255
  split
  · exact hx
  · exact hu i hi
theorem U8.less {n m : Nat} {f : Nat → Int} (hu : U8 n f) (h : m ≤ n) : U8 m f := fun i hi => hu i (by omega)
theorem Own.less {k : IntKind} {w : World} {B b : Nat} {a : Option Addr} {n m : Nat} {f : Nat → Int} (h : Own k w B b a n f) (hm : m ≤ n) : Own k w B b a m f := ⟨h.1, h.2.1, h.2.2.1.first hm, h.2.2.2⟩
/-- bytes that were drawn, beside a cursor -/
def Bent (p : Nat) (a : Option Addr) (len cap : Nat) (w : World) (most : Nat) (e : Ending) (w' : World) : Prop :=
  ∃ q c n f, e = .returned (.slice (some ⟨q, 0, none⟩) n c) ∧ n ≤ most ∧ n ≤ c ∧ U8 n f ∧ Own .u8 w' w.heap.size q (some ⟨q, 0, none⟩) n f ∧ Only p w w' ∧ Cur w' p a len cap
set_option maxHeartbeats 2000000 in
theorem l1Bend_any (p : Nat) (a : Option Addr) (len cap : Nat) (w : World) {B : Nat} (hc : Code w a len B) (hB : B ≤ p) (hcur : Cur w p a len cap) (ad : Addr) (b n c : Nat) (f : Nat → Int) (hn : n ≤ 2000) (hu : U8 n f) (hr : Rd .u8 w b (some ad) n f) :
    Calls Try.prog 93 #[.pointer (some ⟨p, 0, none⟩), .slice (some ad) n c] w fun e w' => Bent p a len cap w (n + 1) e w' := by
  obtain ⟨i0, hi, hz0, hz1, hz2⟩ := info_parts Try.infoU8
  have hp : p < w.heap.size := hcur.1
  have hb0 : Below w.heap.size w (w.alloc (.cells #[] 5)) := (Below.refl _ _).alloc (Nat.le_refl _) _
  have hown0 : (w.alloc (.cells #[] 5)).ownsRow w.heap.size 5 1 (.slice (some ⟨w.heap.size, 0, none⟩) 0 0) 0 [] := World.ownsRow_lit w #[] 0 (Nat.le_refl _) (by decide) rfl
  have hnews := (hr.grew hb0).news
  go_enter Try.func93, Try.ntmps93
  go_wp2_with (at_builtin; refine wpList_append_own _ rfl (.tmp 7) (.tmp 8) 22 rfl w.heap.size 5 i0 (.int .u8 0) 1 1 Try.underlying22 hi hz0 hz1 hz2 rfl (by decide) _ _ _ rfl hown0 ad n c (vals .u8 n f) rfl (by rw [vals_len, Nat.mul_one]) hnews (vals_one _ _ _) (by unfold maxLen; omega) (by omega) hb0.size ?_)
  intro v1 w1 hown1 hgr1 hnil1
  have hb1 : Below w.heap.size w w1 := hb0.grown hgr1 hb0.size (by intro k hk; simp [Value.ownBlock] at hk; omega)
  have ho1 : Only p w w1 := Only.kept hb1
  have hk1 : Cur w1 p a len cap := hcur.same (hb1.block p hp) hb1.size
  have hnil2 : v1 ≠ .slice none 0 0 := hnil1
  clear hown0 hgr1 hnews hr hb0 hcur hnil1 hb1
  go_wp2_with fail
  refine (l1Below_any p a len cap _ _ (hc.only ho1 hB) hB hk1).mono ?_
  rintro e w2 ⟨y, hy0, hy1, rfl, ho, hk2⟩
  have hy2 := hy1 (by omega)
  have hown2 := owns_only hown1 ho hp
  have ho2 := ho1.trans ho
  have hc2 := hc.only ho2 hB
  clear hown1 ho1 ho hk1 hy1
  have hcases : y = 0 ∨ y = 1 ∨ y = 2 ∨ 2 < y := by omega
  rcases hcases with rfl | rfl | rfl | hy
  · obtain ⟨q, cp, rfl, hcp, hoq⟩ := own_of_cap hown2 hnil2
    have hqp : p < q := by have := hoq.1; omega
    clear hown2 hnil2
    by_cases hn0 : 0 < n
    · go_wp2_with fail
      refine (l1Below_any p a len cap _ _ hc2 hB hk2).mono ?_
      rintro e w3 ⟨x, hx0, hx1, rfl, ho, hk3⟩
      have hx2 := hx1 (by omega)
      obtain ⟨i, rfl⟩ := Int.eq_ofNat_of_zero_le hx0
      have hi3 : i < n := by omega
      have hoq3 := hoq.only ho (by omega)
      have ho3 := ho2.trans ho
      have hc3 : Code w3.drew a len B := hc.only ho3.drew hB
      have hk3' : Cur w3.drew p a len cap := hk3
      have e1 := hoq3.cell i hi3
      have e2 := hoq3.2.2.2 i
      simp only [Nat.zero_add] at e1
      have hoq3' : Own .u8 w3.drew w.heap.size q (some ⟨q, 0, none⟩) n f := by
        have h1 := hoq3.1
        exact ⟨h1, hoq3.2⟩
      clear hoq ho hk2 hc2 hx1 ho2 hoq3
      go_wp2
      go_region_law (first | (refine step_call2 rfl 79 (.tmp 27) (.const (.int .i64 255)) 77 3 rfl (.pointer (some ⟨p, 0, none⟩)) (.int .i64 255) rfl rfl (below_in _ _) (l1Below_any p a len cap 255 _ hc3 hB hk3') ?_; rintro e w4 ⟨z, hz0, hz1, rfl, ho4, hk4⟩; refine ⟨_, rfl, ?_⟩; have x1 : IntKind.i64.wrap (1 + z) = 1 + z := IntWalk.i64_in _ (by have := hz1 (by omega); omega); have e3 := (hoq3'.only ho4 (by omega)).cell i hi3; have e4 := (hoq3'.only ho4 (by omega)).2.2.2 i; rw [Nat.zero_add] at e3) | fail)
      all_goals
        have hoq4 := hoq3'.only ho4 (by omega)
        have ho4' := ho3.drew.trans ho4
        have hq0 := hoq3'.1
        clear e1 e2 e3 e4 hc3 hk3 hk3' ho4 hz1 hoq3' ho3
        go_wp2
        go_ret
        exact ⟨q, cp, n, _, rfl, by omega, hcp, hu.put i (xor_rng _ _), hoq4.put0 i _, ho4'.setCell (.inr hq0) _, hk4.same (Below.heap_setCell _ _ _ _ (by simp; omega)) (by simp [World.setCell])⟩
    · obtain rfl : n = 0 := by omega
      go_wp2
      go_ret
      exact ⟨q, cp, 0, f, rfl, by omega, hcp, hu, hoq, ho2, hk2⟩
  · obtain ⟨q, cp, rfl, hcp, hoq⟩ := own_of_cap hown2 hnil2
    have hqp : p < q := by have := hoq.1; omega
    clear hown2 hnil2
    by_cases hn0 : 0 < n
    · go_wp2_with fail
      refine (l1Below_any p a len cap _ _ hc2 hB hk2).mono ?_
      rintro e w3 ⟨x, hx0, hx1, rfl, ho, hk3⟩
      have hx2 := hx1 (by omega)
      obtain ⟨i, rfl⟩ := Int.eq_ofNat_of_zero_le hx0
      have hi3 : i < n := by omega
      have hoq3 := hoq.only ho (by omega)
      have ho3 := ho2.trans ho
      clear hoq ho hk2 hc2 hx1 ho2
      go_wp2
      go_ret
      exact ⟨q, cp, i, f, rfl, by omega, by omega, hu.less (by omega), hoq3.less (by omega), ho3, hk3⟩
    · obtain rfl : n = 0 := by omega
      go_wp2
      go_ret
      exact ⟨q, cp, 0, f, rfl, by omega, hcp, hu, hoq, ho2, hk2⟩
  · go_wp2_with fail
    refine (l1Byte_any p a len cap _ hc2 hB hk2).mono ?_
    rintro e w3 ⟨x, hx0, hx1, rfl, ho, hk3⟩
    have hown3 := owns_only hown2 ho hp
    have ho3 := ho2.trans ho
    have hs3 : w.heap.size ≤ w3.heap.size := ho3.size
    clear hown2 ho2 ho hk2 hc2
    go_wp2_with (at_builtin; refine wpList_append_own _ rfl (.tmp 46) (.tmp 50) 22 rfl w.heap.size 5 i0 (.int .u8 0) 1 1 Try.underlying22 hi hz0 hz1 hz2 rfl (by decide) _ _ _ rfl (hown3.alloc _) ⟨w3.heap.size, 0, none⟩ 1 1 [_] rfl rfl (cells_new _ _ _) (by intro u hu; simp at hu; subst hu; rfl) (by unfold maxLen; omega) (by omega) (by simp; omega) ?_)
    intro v4 w4 hown4 hgr4 hnil4
    have ho4 : Only p w w4 := (ho3.alloc _).grown hgr4 (fun k hk => (hown3.lt k hk).1)
    have hown5 : w4.ownsRow w.heap.size 5 1 v4 (n + 1) (vals .u8 (n + 1) (fun j => if j = n then x else f j)) := by
      rw [vals_one_snoc', vals_congr (g := f) (fun i hi => by rw [if_neg (by omega)]), if_pos rfl]
      exact hown4
    have hu5 : U8 (n + 1) (fun j => if j = n then x else f j) := fun i hi => by
      show 0 ≤ (if i = n then x else f i) ∧ (if i = n then x else f i) ≤ 255
      split
      · exact ⟨hx0, hx1⟩
      · exact hu i (by omega)
    have hcu4 : Cur w4 p a len cap := hk3.same ((hgr4.block p (by simp; have := hk3.1; omega) (fun e => by have := (hown3.lt p e.symm).1; omega)).trans (Below.heap_alloc w3 _ p hk3.1)) (by have := hgr4.size; simp at this; omega)
    have hnil5 : v4 ≠ .slice none 0 0 := hnil4
    obtain ⟨q, cp, rfl, hcp, hoq⟩ := own_of_cap hown5 hnil5
    clear hown4 hgr4 hown3 hnil4 hnil2 hk3 ho3 hown5 hnil5 hu
    go_wp2
    go_ret
    exact ⟨q, cp, n + 1, _, rfl, Nat.le_refl _, hcp, hu5, hoq, ho4, hcu4⟩
  · have y0 : (y == 0) = false := by simp; omega
    have y1 : (y == 1) = false := by simp; omega
    have y2 : (y == 2) = false := by simp; omega
    obtain ⟨q, cp, rfl, hcp, hoq⟩ := own_of_cap hown2 hnil2
    clear hown2 hnil2
    go_wp2
    go_ret
    exact ⟨q, cp, n, f, rfl, by omega, hcp, hu, hoq, ho2, hk2⟩
end Go.Proofs.Ytnlnledijpcjpab
