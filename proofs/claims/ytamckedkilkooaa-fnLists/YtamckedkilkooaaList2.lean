/-
  Contracts of chapter 2's PutList: the program's. Own work.
-/
import Derived.Test.YtamckedkilkooaaList1
import Derived.Deep.RegionLaw
namespace Go.Proofs.Ytamckedkilkooaa
open Go.ChangeShapes Go.WideShapes Go.ChangeAt Go.RowKit

/-- a call of a function of one argument, met by its contract, as one step of a region that draws its order -/
theorem step_call1 {P : Program} {ops : Array Oper} {o : Oper} {a : Act} {w : World} {K : Act → World → Prop} {Q : Exit → Act → World → Prop} {E : Prop} (hgd : o.guard = none) (F : FuncId) (x : Operand) (t : TypeId)
    (ho : o.op = .call { callee := .value (.func F), args := #[x], argTypes := #[t] }) (v : Value) (hx : a.eval x = v) (hcf : (callFunc F #[v]).run P w = .ok (.enter F #[v]) w) {R : Ending → World → Prop} (hc : Calls P F #[v] w R)
    (h : ∀ e w', R e w' → ∃ r, e = .returned r ∧ K (a.put o.dst r) w') : if Region.wanted o (yielded ops a.tmps) = true then Oper.wp P o a w K Q else E := by
  have hw : Region.wanted o (yielded ops a.tmps) = true := by simp [Region.wanted, hgd]
  rw [if_pos hw]
  have hrun : (execOp a.eval o).run P w = .ok (.enter F #[v]) w := by
    have hF : a.eval (.func F) = .func (.func F) #[] #[] := rfl
    simp [execOp, ho, resolve, invoke, hx, hF, Deferred.ofValue, hcf]
  unfold Oper.wp
  rw [hrun, Oper.upon_enter]
  refine hc.mono ?_
  intro e w' hR
  obtain ⟨r, rfl, hk⟩ := h e w' hR
  exact hk
theorem numBytes_in (v : Value) (w : World) : (callFunc 45 #[v]).run Try.prog w = .ok (.enter 45 #[v]) w := by kernel_rfl
theorem row_put {k : IntKind} {w : World} {g : Nat} {t : TypeId} {n : Nat} {f : Nat → Int} (h : w.heap[g]? = some (.cells (vals k n f).toArray t (0, 0))) (j : Nat) (x : Int) (hj : j < n) :
    (w.setCell ⟨g, j, none⟩ (.int k x)).heap[g]? = some (.cells (vals k n (fun i => if i = j then x else f i)).toArray t (0, 0)) := by
  rw [heap_setCell_same w g j _ t _ h]
  congr 2
  apply Array.ext'
  rw [Array.toList_setIfInBounds]
  refine vals_ext (by simp [vals_len]) (fun i hi => ?_)
  show ((vals k n f).set j (.int k x))[i]? = some (.int k (if i = j then x else f i))
  by_cases hij : i = j
  · subst hij; rw [if_pos rfl, List.getElem?_set_self (by rw [vals_len]; exact hi)]
  · rw [if_neg hij, List.getElem?_set_ne (by omega), vals_get, if_pos hi]
theorem encL_put (m k : Nat) (l : Nat → Int) : ∀ i, i < 1 + 4 * m → spl (til (1 + 4 * k) (encL m l) (fun _ => 0)) (1 + 4 * k) 4 (enc (l k)) i = til (1 + 4 * (k + 1)) (encL m l) (fun _ => 0) i := by
  intro i hi
  unfold spl til
  by_cases h : 1 + 4 * k ≤ i ∧ i < 1 + 4 * k + 4
  · rw [if_pos h, if_pos (by omega)]
    unfold encL
    rw [if_neg (by omega), show (i - 1) / 4 = k by omega, show (i - 1) % 4 = i - (1 + 4 * k) by omega]
  · rw [if_neg h]
    by_cases h2 : i < 1 + 4 * k
    · rw [if_pos h2, if_pos (by omega)]
    · rw [if_neg h2, if_neg (by omega)]
theorem encL_first (m : Nat) (l : Nat → Int) : ∀ i, i < 1 + 4 * m → (if i = 0 then (m : Int) else (0 : Int)) = til (1 + 4 * 0) (encL m l) (fun _ => 0) i := by
  intro i _
  unfold til
  by_cases h : i = 0
  · subst h; rw [if_pos rfl, if_pos (by omega)]; rfl
  · rw [if_neg h, if_neg (by omega)]

set_option maxHeartbeats 2000000 in
theorem implPutList_cap (a al : Option Addr) (b bl n c m cl : Nat) (f g : Nat → Int) (w : World) (hn : n ≤ 140737488350000) (hm : m ≤ 255) (h : Rd .u8 w b a n f) (hg : Rd .i64 w bl al m g) :
    Calls Try.prog 37 #[.slice a n c, .slice al m cl] w fun e w' => ∃ q cap, e = .returned (.slice (some ⟨q, 0, none⟩) (n + (1 + 4 * m)) cap) ∧ n + (1 + 4 * m) ≤ cap ∧ Below w.heap.size w w' ∧ Own .u8 w' w.heap.size q (some ⟨q, 0, none⟩) (n + (1 + 4 * m)) (cat n f (encL m g)) := by
  obtain ⟨i0, hi, hz0, hz1, hz2⟩ := info_parts Try.infoU8
  obtain ⟨N, hN⟩ : ∃ N, N = 1 + 4 * m := ⟨_, rfl⟩
  have HN : Hid (N = 1 + 4 * m) := hN
  have hN1 : 0 < N := by omega
  have hN2 : N ≤ 1021 := by omega
  clear hN
  go_enter Try.func37, Try.ntmps37
  go_wp2_with (at_make; refine wpList_make_full _ rfl _ _ 22 rfl w.heap.size 5 i0 (.int .u8 0) 1 Try.underlying22 hi hz0 hz1 _ _ _ _ N rfl rfl (by have := HN.out; omega) (by have := HN.out; omega) (by rw [hz2]; omega) (by unfold maxLen; omega) (Nat.le_refl _) ?_)
  intro w1 hown hgr
  rw [made_vals] at hown
  have hrow := row_made hown
  have hb1 : Below w.heap.size w w1 := (Below.refl _ _).grown hgr (Nat.le_refl _) (by simp)
  have o1 := own_row (B := w.heap.size) hrow (Nat.le_refl _)
  have e2 := o1.cell 0 hN1
  have e3 := o1.2.2.2 0
  have HR : Hid ((w1.setCell ⟨w.heap.size, 0, none⟩ (.int .u8 m)).heap[w.heap.size]? = _) := row_put hrow 0 m hN1
  have HR2 : Hid ((w1.setCell ⟨w.heap.size, 0, none⟩ (.int .u8 m)).heap[w.heap.size]? = some (.cells (vals .u8 N (til (1 + 4 * 0) (encL m g) (fun _ => 0))).toArray 5 (0, 0))) := by
    have e := HR.out
    rw [vals_congr (fun i hi => encL_first m g i (by have := HN.out; omega))] at e
    exact e
  have hb2 := hb1.setCell (p := ⟨w.heap.size, 0, none⟩) (Nat.le_refl _) (.int .u8 m)
  clear hown hgr hrow o1 HR
  simp only [Nat.zero_add] at e2
  go_wp2
  go_loopw [26] (fun i wr => ∃ k : Nat, k ≤ m ∧ i = .int .i64 k ∧ Below w.heap.size w wr ∧ Hid (wr.heap[w.heap.size]? = some (.cells (vals .u8 N (til (1 + 4 * k) (encL m g) (fun _ => 0))).toArray 5 (0, 0)))) (fun i _ => m - (intOf i).toNat)
  case atStart => exact ⟨0, Nat.zero_le _, rfl, hb2, HR2⟩
  case round =>
    clear hb2 HR2 hb1 e2 e3
    obtain ⟨k, hk, rfl, hb, hr⟩ := hrel
    by_cases hlt : k < m
    · rcases hg.grew hb with h3 | ⟨o1, rfl, h3⟩
      · omega
      have e1 := h3 k hlt
      clear h3
      have hkN : 1 + 4 * k + 4 ≤ N := by have := HN.out; omega
      have x1 : IntKind.i64.wrap (4 * (k : Int)) = 4 * (k : Int) := IntWalk.i64_in _ (by omega)
      have x2 : IntKind.i64.wrap (1 + 4 * (k : Int)) = 1 + 4 * (k : Int) := IntWalk.i64_in _ (by omega)
      have x3 : (0 : Int) ≤ 1 + 4 * (k : Int) := by omega
      have x4 : (1 : Int) + 4 * (k : Int) ≤ (N : Int) := by omega
      have x5 : (1 + 4 * (k : Int)).toNat = 1 + 4 * k := by omega
      have x6 : ¬ N = 1 + 4 * k := by omega
      have hg3 := (Below.heap_alloc wr (.cells (vals .u8 4 (enc (g k))).toArray 5) w.heap.size (lt_row hr.out)).trans hr.out
      have HG3 : Hid ((wr.alloc (.cells (vals .u8 4 (enc (g k))).toArray 5)).heap[w.heap.size]? = some (.cells (vals .u8 N (til (1 + 4 * k) (encL m g) (fun _ => 0))).toArray 5 (0, 0))) := hg3
      have hb3 : Below w.heap.size w (wr.alloc (.cells (vals .u8 4 (enc (g k))).toArray 5)).drew := (hb.alloc hb.size _).drew
      have HC3 : Hid (∀ j v, (vals .u8 4 (enc (g k)))[j]? = some v → (wr.alloc (.cells (vals .u8 4 (enc (g k))).toArray 5)).drew.cell? ((⟨wr.heap.size, 0, none⟩ : Addr).add j) = some v) := cells_new wr _ _
      have H1 : Hid ((vals .u8 4 (enc (g k))).length = Nat.min 4 (N - (1 + 4 * k))) := show _ = _ by rw [vals_len]; exact (Nat.min_eq_left (by omega)).symm
      have H3 : Hid ((1 + 4 * k) + (vals .u8 4 (enc (g k))).length ≤ (vals .u8 N (til (1 + 4 * k) (encL m g) (fun _ => 0))).length) := show _ ≤ _ by rw [vals_len, vals_len]; omega
      clear hg3
      go_wp2
      go_region_law (first | (refine step_call1 rfl 45 (.tmp 36) 3 rfl _ rfl (numBytes_in _ _) (numBytes_any _ _) ?_; rintro e w3 ⟨rfl, rfl⟩; refine ⟨_, rfl, ?_⟩) | (refine step_copy_splice rfl (.tmp 35) (.tmp 37) 22 22 rfl 5 Try.underlying22 sizeU8 _ _ _ _ _ _ rfl rfl w.heap.size (1 + 4 * k) (vals .u8 N (til (1 + 4 * k) (encL m g) (fun _ => 0))) 5 HG3.out (vals .u8 4 (enc (g k))) H1.out (fun _ => ⟨rfl, ⟨wr.heap.size, 0, none⟩, rfl, HC3.out⟩) H3.out (vals_one _ _ _) w.heap.size w hb3 (Nat.le_refl _) ?_; intro w4 hr4 hb4))
      rw [vals_spl _ _ _ _ _ _ (by omega)] at hr4
      have hr5 : Hid (w4.heap[w.heap.size]? = some (.cells (vals .u8 N (til (1 + 4 * (k + 1)) (encL m g) (fun _ => 0))).toArray 5 (0, 0))) := by
        have e := hr4.out
        rw [vals_congr (fun i hi => encL_put m k g i (by have := HN.out; omega))] at e
        exact e
      clear hr4 hr HG3 HC3 H1 H3 hb3 hb e1
      go_wp2
      go_roundw
      case rel => exact ⟨k + 1, by omega, by go_num, hb4, hr5⟩
      case measure => simp [intOf]; omega
    · obtain rfl : k = m := by omega
      have rp : Rd .u8 wr w.heap.size (some ⟨w.heap.size, 0, none⟩) N (encL k g) := (rd_row hr.out).congr (til_all (encL k g) _ (by have := HN.out; omega))
      have ra := h.grew hb
      have hs1 : w.heap.size ≤ wr.heap.size := hb.size
      clear hr
      obtain ⟨w2, hw2⟩ : ∃ w2, w2 = wr.alloc (.cells #[.slice a n c, .slice (some ⟨w.heap.size, 0, none⟩) N N] 22) := ⟨_, rfl⟩
      have hb2 : Below wr.heap.size wr w2 := by rw [hw2]; exact below_new _ _
      have q0 : w2.cell? ⟨wr.heap.size, 0, none⟩ = some (.slice a n c) := by rw [hw2]; simp
      have q1 : w2.cell? ⟨wr.heap.size, 1, none⟩ = some (.slice (some ⟨w.heap.size, 0, none⟩) N N) := by rw [hw2]; simp
      have hs2 : wr.heap.size < w2.heap.size := by rw [hw2]; simp
      have HW : Hid (w2 = _) := hw2
      clear hw2
      have hbs := below_app hb hb2 hb.size
      replace ra := ra.grew hb2
      replace rp := rp.grew hb2
      go_wp2_with fail
      rw [← HW.out]
      clear HW
      refine (joined2_any wr.heap.size a _ b w.heap.size n N (n + N) c N f (encL k g) w2 hs2 rfl (by omega) q0 q1 ra rp).mono ?_
      rintro e w3 ⟨rfl, hb3, ho⟩
      clear q0 q1 ra rp hb2 hb
      go_wp2
      go_ret
      have hN := HN.out
      subst hN
      exact ⟨_, _, rfl, Nat.le_refl _, below_app hbs hb3 hbs.size, ⟨by omega, ho.2⟩⟩
theorem implPutList_any (a al : Option Addr) (b bl n c m cl : Nat) (f g : Nat → Int) (w : World) (hn : n ≤ 140737488350000) (hm : m ≤ 255) (h : Rd .u8 w b a n f) (hg : Rd .i64 w bl al m g) :
    Calls Try.prog 37 #[.slice a n c, .slice al m cl] w fun e w' => ∃ q cap, e = .returned (.slice (some ⟨q, 0, none⟩) (n + (1 + 4 * m)) cap) ∧ Below w.heap.size w w' ∧ Own .u8 w' w.heap.size q (some ⟨q, 0, none⟩) (n + (1 + 4 * m)) (cat n f (encL m g)) :=
  (implPutList_cap a al b bl n c m cl f g w hn hm h hg).mono (by rintro e w' ⟨q, cap, h1, _, h2, h3⟩; exact ⟨q, cap, h1, h2, h3⟩)
set_option maxHeartbeats 1000000 in
theorem joined1_any (q : Nat) (a1 : Option Addr) (b1 n1 c1 : Nat) (f1 : Nat → Int) (w : World) (hq : q < w.heap.size) (hs : n1 ≤ 140737488351232)
    (h0 : w.cell? ⟨q, 0, none⟩ = some (.slice a1 n1 c1)) (r1 : Rd .u8 w b1 a1 n1 f1) :
    Calls Try.prog 44 #[.slice (some ⟨q, 0, none⟩) 1 1] w fun e w' => e = .returned (.slice (some ⟨w.heap.size, 0, none⟩) n1 n1) ∧ Below w.heap.size w w' ∧ Own .u8 w' w.heap.size w.heap.size (some ⟨w.heap.size, 0, none⟩) n1 f1 := by
  obtain ⟨i0, hi, hz0, hz1, hz2⟩ := info_parts Try.infoU8
  go_enter Try.func44, Try.ntmps44
  go_wp2
  go_loop [3, 12] (fun t i => (i = .int .i64 0 ∧ t = .int .i64 0) ∨ (i = .int .i64 1 ∧ t = .int .i64 n1)) (fun _ i => 1 - (intOf i).toNat)
  case atStart => exact .inl ⟨rfl, rfl⟩
  case round =>
    rcases hrel with ⟨rfl, rfl⟩ | ⟨rfl, rfl⟩
    · go_wp2
      go_round
      case rel => exact .inr ⟨rfl, by go_num⟩
      case measure => simp [intOf]
    · go_wp2_with (at_make; refine wpList_make_full _ rfl _ _ 22 rfl w.heap.size 5 i0 (.int .u8 0) 1 Try.underlying22 hi hz0 hz1 _ _ _ _ n1 rfl rfl rfl rfl (by rw [hz2]; omega) (by unfold maxLen; omega) (Nat.le_refl _) ?_)
      intro w1 hown hgr
      rw [made_vals] at hown
      have hrow := row_made hown
      have HR : Hid (w1.heap[w.heap.size]? = some (.cells (vals .u8 n1 (fun _ => 0)).toArray 5 (0, 0))) := hrow
      have hb1 : Below w.heap.size w w1 := (Below.refl _ _).grown hgr (Nat.le_refl _) (by simp)
      clear hown hgr hrow
      go_wp2
      go_loopw [7, 25] (fun t i wr => Below w.heap.size w wr ∧ ((i = .int .i64 0 ∧ t = .int .i64 0 ∧ Hid (wr.heap[w.heap.size]? = some (.cells (vals .u8 n1 (fun _ => 0)).toArray 5 (0, 0)))) ∨
        (i = .int .i64 1 ∧ t = .int .i64 n1 ∧ Hid (wr.heap[w.heap.size]? = some (.cells (vals .u8 n1 (spl (fun _ => 0) 0 n1 f1)).toArray 5 (0, 0)))))) (fun _ i _ => 1 - (intOf i).toNat)
      case atStart => exact ⟨hb1, .inl ⟨rfl, rfl, HR⟩⟩
      case round =>
        obtain ⟨hb, hrel⟩ := hrel
        have g0 := (hb.cell (p := ⟨q, 0, none⟩) hq).trans h0
        rcases hrel with ⟨rfl, rfl, hr⟩ | ⟨rfl, rfl, hr⟩
        · have hsrc := (r1.grew hb).src
          go_wp2_with (refine wpList_copy_splice rfl (.tmp 32) (.tmp 33) 22 22 rfl 5 Try.underlying22 sizeU8 _ _ _ _ _ _ rfl rfl w.heap.size 0 (vals .u8 n1 (fun _ => 0)) 5 hr.out (vals .u8 n1 f1) ?_ ?_ ?_ (vals_one _ _ _) w.heap.size w hb (Nat.le_refl _) ?_)
          · rw [vals_len]; exact (Nat.min_self _).symm
          · rw [vals_len]; exact fun h => hsrc h
          · rw [vals_len, vals_len]; omega
          intro w2 hr2 hb2
          rw [vals_spl _ _ _ _ _ _ (by omega)] at hr2
          rw [vals_len]
          clear hsrc hr hb g0 HR hb1
          go_wp2
          go_roundw
          case rel => exact ⟨hb2, .inr ⟨rfl, by go_num, hr2⟩⟩
          case measure => simp [intOf]
        · go_wp2
          go_ret
          exact ⟨rfl, hb, (own_row hr.out (Nat.le_refl _)).congr (fun i hi => by unfold spl; rw [if_pos (by omega), Nat.sub_zero])⟩
set_option maxHeartbeats 1000000 in
theorem implPutList_long (a al : Option Addr) (b n c m cl : Nat) (f : Nat → Int) (w : World) (hn : n ≤ 140737488350000) (hm : (255 : Int) < (m : Int)) (h : Rd .u8 w b a n f) :
    Calls Try.prog 37 #[.slice a n c, .slice al m cl] w fun e w' => ∃ q cap, e = .returned (.slice (some ⟨q, 0, none⟩) n cap) ∧ Below w.heap.size w w' ∧ Own .u8 w' w.heap.size q (some ⟨q, 0, none⟩) n f := by
  obtain ⟨w2, hw2⟩ : ∃ w2, w2 = w.alloc (.cells #[.slice a n c] 22) := ⟨_, rfl⟩
  have hb2 : Below w.heap.size w w2 := by rw [hw2]; exact below_new _ _
  have q0 : w2.cell? ⟨w.heap.size, 0, none⟩ = some (.slice a n c) := by rw [hw2]; simp
  have hs2 : w.heap.size < w2.heap.size := by rw [hw2]; simp
  have HW : Hid (w2 = _) := hw2
  clear hw2
  have ra := h.grew hb2
  go_enter Try.func37, Try.ntmps37
  go_wp2_with fail
  rw [← HW.out]
  clear HW
  refine (joined1_any w.heap.size a b n c f w2 hs2 (by omega) q0 ra).mono ?_
  rintro e w3 ⟨rfl, hb3, ho⟩
  clear q0 ra h
  go_wp2
  go_ret
  exact ⟨_, _, rfl, below_app hb2 hb3 hb2.size, ⟨by omega, ho.2⟩⟩
set_option maxHeartbeats 1000000 in
theorem specPutList_long (ad : Addr) (al : Option Addr) (b n c m cl : Nat) (f : Nat → Int) (w : World) (hn : n ≤ 140737488350000) (hm : (255 : Int) < (m : Int)) (h : Rd .u8 w b (some ad) n f) :
    Calls Try.prog 38 #[.slice (some ad) n c, .slice al m cl] w fun e w' => ∃ q cap, e = .returned (.slice (some ⟨q, 0, none⟩) n cap) ∧ Below w.heap.size w w' ∧ Own .u8 w' w.heap.size q (some ⟨q, 0, none⟩) n f := by
  obtain ⟨i0, hi, hz0, hz1, hz2⟩ := info_parts Try.infoU8
  go_enter Try.func38, Try.ntmps38
  have hb0 : Below w.heap.size w (w.alloc (.cells #[] 5)) := (Below.refl _ _).alloc (Nat.le_refl _) _
  have hown0 : (w.alloc (.cells #[] 5)).ownsRow w.heap.size 5 1 (.slice (some ⟨w.heap.size, 0, none⟩) 0 0) 0 [] := World.ownsRow_lit w #[] 0 (Nat.le_refl _) (by decide) rfl
  have hnews := (h.grew hb0).news
  go_wp2_with (at_builtin; refine wpList_append_own _ rfl (.tmp 7) (.tmp 8) 22 rfl w.heap.size 5 i0 (.int .u8 0) 1 1 Try.underlying22 hi hz0 hz1 hz2 rfl (by decide) _ _ _ rfl hown0 ad n c (vals .u8 n f) rfl (by rw [vals_len, Nat.mul_one]) hnews (vals_one _ _ _) (by unfold maxLen; omega) (by omega) hb0.size ?_)
  intro v1 w1 hown1 hgr1 hnil1
  have hb1 : Below w.heap.size w w1 := hb0.grown hgr1 hb0.size (by intro k hk; simp [Value.ownBlock] at hk; omega)
  obtain ⟨q, cap, rfl, ho⟩ := own_of hown1 hnil1
  clear hown0 hgr1 hnews h hown1 hnil1
  go_wp2
  go_ret
  exact ⟨q, cap, rfl, hb1, ho⟩
/-- how many bytes PutList answers, and which -/
def plN (n m : Nat) : Nat := if m ≤ 255 then n + (1 + 4 * m) else n
def plF (n m : Nat) (f g : Nat → Int) : Nat → Int := if m ≤ 255 then cat n f (encL m g) else f
theorem plN_le (n m : Nat) : plN n m ≤ n + 1021 := by unfold plN; split <;> omega
theorem specPutList_all (ad : Addr) (al : Option Addr) (b bl n c m cl : Nat) (f g : Nat → Int) (w : World) (hn : n ≤ 140737488350000) (h : Rd .u8 w b (some ad) n f) (hg : Rd .i64 w bl al m g) :
    Calls Try.prog 38 #[.slice (some ad) n c, .slice al m cl] w fun e w' => ∃ q cap, e = .returned (.slice (some ⟨q, 0, none⟩) (plN n m) cap) ∧ Below w.heap.size w w' ∧ Own .u8 w' w.heap.size q (some ⟨q, 0, none⟩) (plN n m) (plF n m f g) := by
  unfold plN plF
  by_cases hm : m ≤ 255
  · rw [if_pos hm, if_pos hm, ← Nat.add_assoc]
    exact specPutList_any ad al b bl n c m cl f g w hn hm h hg
  · rw [if_neg hm, if_neg hm]
    exact specPutList_long ad al b n c m cl f w hn (by omega) h
theorem implPutList_all (a al : Option Addr) (b bl n c m cl : Nat) (f g : Nat → Int) (w : World) (hn : n ≤ 140737488350000) (h : Rd .u8 w b a n f) (hg : Rd .i64 w bl al m g) :
    Calls Try.prog 37 #[.slice a n c, .slice al m cl] w fun e w' => ∃ q cap, e = .returned (.slice (some ⟨q, 0, none⟩) (plN n m) cap) ∧ Below w.heap.size w w' ∧ Own .u8 w' w.heap.size q (some ⟨q, 0, none⟩) (plN n m) (plF n m f g) := by
  unfold plN plF
  by_cases hm : m ≤ 255
  · rw [if_pos hm, if_pos hm]
    exact implPutList_any a al b bl n c m cl f g w hn hm h hg
  · rw [if_neg hm, if_neg hm]
    exact implPutList_long a al b n c m cl f w hn (by omega) h
end Go.Proofs.Ytamckedkilkooaa
