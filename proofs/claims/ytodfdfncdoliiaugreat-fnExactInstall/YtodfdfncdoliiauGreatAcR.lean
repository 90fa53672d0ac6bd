/-
  Chapter 9: words for rows of things. Written by tools/ac.gen.py. Own work.
-/
import Derived.Test.YtodfdfncdoliiauGreatGEvA3
import Derived.Test.YtodfdfncdoliiauGreatStHeld
namespace Go.Proofs.YtodfdfncdoliiauGreat
open Go.ChangeShapes Go.WideShapes Go.ChangeAt Go.RowKit
set_option maxRecDepth 100000
set_option linter.unusedVariables false
set_option linter.unusedSimpArgs false

/-- the cells of one -/
def evC (p : Ev) : List Value := [.int .i64 p.kd, .int .i64 p.sr, .int .i64 p.pi, .int .i64 p.si, .int .i64 p.nn, .int .i64 p.zo, .bool p.be]
theorem evC_ne (p : Ev) : evC p ≠ [] := by unfold evC; simp
theorem evC_len (p : Ev) : (evC p).length = 7 := rfl
theorem evC_one (n : Nat) (f : Nat → Ev) : ∀ u ∈ valsE evC n f, u.oneCell' = true := by
  intro u hu
  unfold valsE at hu
  obtain ⟨i, _, hi⟩ := List.mem_flatMap.1 hu
  simp only [evC, List.mem_cons, List.mem_nil_iff, or_false] at hi
  rcases hi with rfl | rfl | rfl | rfl | rfl | rfl | rfl <;> rfl
theorem Tryz.infoEv : (Tryz.prog.info? 102).map (fun i => (i.zero, i.size, i.bytes)) = some (some (.agg #[.int .i64 0, .int .i64 0, .int .i64 0, .int .i64 0, .int .i64 0, .int .i64 0, .bool false]), 7, 56) := by kernel_rfl
def zE : Ev := ⟨0, 0, 0, 0, 0, 0, false⟩
theorem made_event (n : Nat) : (madeCells #[.int .i64 0, .int .i64 0, .int .i64 0, .int .i64 0, .int .i64 0, .int .i64 0, .bool false] (n * 7)).toList = valsE evC n (fun _ => zE) := by
  refine valsE_ext evC_len (by simp [madeCells]) (fun i j hi hj => ?_)
  unfold madeCells
  have hlt : i * 7 + j < n * 7 := by omega
  simp only [Array.toList_map, Array.toList_range, List.getElem?_map, List.getElem?_range hlt, Option.map_some, List.size_toArray, List.length_cons, List.length_nil]
  rw [show (i * 7 + j) % (0 + 1 + 1 + 1 + 1 + 1 + 1 + 1) = j by omega]
  have : j = 0 ∨ j = 1 ∨ j = 2 ∨ j = 3 ∨ j = 4 ∨ j = 5 ∨ j = 6 := by omega
  rcases this with rfl | rfl | rfl | rfl | rfl | rfl | rfl <;> rfl
def AtEv (w : World) (b o : Nat) (p : Ev) : Prop := w.cell? ⟨b, o, none⟩ = some (.int .i64 p.kd) ∧ w.cell? ⟨b, o + 1, none⟩ = some (.int .i64 p.sr) ∧ w.cell? ⟨b, o + 2, none⟩ = some (.int .i64 p.pi) ∧ w.cell? ⟨b, o + 3, none⟩ = some (.int .i64 p.si) ∧ w.cell? ⟨b, o + 4, none⟩ = some (.int .i64 p.nn) ∧ w.cell? ⟨b, o + 5, none⟩ = some (.int .i64 p.zo) ∧ w.cell? ⟨b, o + 6, none⟩ = some (.bool p.be)
theorem AtEv_of {w : World} {b o : Nat} {p : Ev} (h : ∀ j v, (evC p)[j]? = some v → w.cell? ⟨b, o + j, none⟩ = some v) : AtEv w b o p := ⟨h 0 _ rfl, h 1 _ rfl, h 2 _ rfl, h 3 _ rfl, h 4 _ rfl, h 5 _ rfl, h 6 _ rfl⟩
theorem event_of_cells {H : Type} {enc : TypeId × Value → H} {w : World} {base : Nat} {spare : TypeId → Bool} {held : Bool} {cs : List Value} {x : DataW H × List MemPlace} {fuel : Nat} (h : DataW.trod enc Tryz.prog w base spare held fuel 107 cs = some x) (hl : cs.length = 7) : ∃ q : Ev, cs = evC q ∧ q.wf := by
  have hf := open_cells1 Tryz.underlying107 (by kernel_rfl) h
  obtain ⟨c0, c1, c2, c3, c4, c5, c6, rfl⟩ := list7 (l := cs) hl
  obtain ⟨n0, y0, t0⟩ := hf 0 _ c0 rfl rfl
  obtain ⟨a0, e0, _, u0⟩ := DataW.trod_int Tryz.underlying3 t0
  obtain ⟨n1, y1, t1⟩ := hf 1 _ c1 rfl rfl
  obtain ⟨a1, e1, _, u1⟩ := DataW.trod_int Tryz.underlying3 t1
  obtain ⟨n2, y2, t2⟩ := hf 2 _ c2 rfl rfl
  obtain ⟨a2, e2, _, u2⟩ := DataW.trod_int Tryz.underlying3 t2
  obtain ⟨n3, y3, t3⟩ := hf 3 _ c3 rfl rfl
  obtain ⟨a3, e3, _, u3⟩ := DataW.trod_int Tryz.underlying3 t3
  obtain ⟨n4, y4, t4⟩ := hf 4 _ c4 rfl rfl
  obtain ⟨a4, e4, _, u4⟩ := DataW.trod_int Tryz.underlying3 t4
  obtain ⟨n5, y5, t5⟩ := hf 5 _ c5 rfl rfl
  obtain ⟨a5, e5, _, u5⟩ := DataW.trod_int Tryz.underlying3 t5
  obtain ⟨n6, y6, t6⟩ := hf 6 _ c6 rfl rfl
  obtain ⟨a6, e6, _⟩ := DataW.trod_bool Tryz.underlying4 t6
  simp only [List.cons.injEq, and_true] at e0 e1 e2 e3 e4 e5 e6
  subst e0 e1 e2 e3 e4 e5 e6
  refine ⟨⟨a0, a1, a2, a3, a4, a5, a6⟩, rfl, fun x hx => ?_⟩
  simp only [List.mem_cons, List.mem_nil_iff, or_false] at hx
  rcases hx with rfl | rfl | rfl | rfl | rfl | rfl <;> assumption
theorem open_events {H : Type} {enc : TypeId × Value → H} {w : World} {base : Nat} {spare : TypeId → Bool} {held : Bool} {v : Value} {x : DataW H × List MemPlace} {fuel : Nat} (h : DataW.trod enc Tryz.prog w base spare held fuel 27 [v] = some x) :
    ∃ (a : Option Addr) (len cap b : Nat) (f : Nat → Ev), v = .slice a len cap ∧ len ≤ cap ∧ cap ≤ maxLen ∧ RdE evC 7 w b a len f ∧ (∀ i, i < len → (f i).wf) ∧ (a = none → len = 0) := by
  rcases Deep.open_slice Tryz.underlying27 h with ⟨hcs, _⟩ | ⟨a, len, cap, m, k, D, Pl, hcs, _, hl, hm, hmm, _, hx⟩
  · simp at hcs
    exact ⟨none, 0, 0, 0, fun _ => ⟨0, 0, 0, 0, 0, 0, false⟩, hcs, Nat.le_refl _, Nat.zero_le _, .inl rfl, fun i hi => by omega, fun _ => rfl⟩
  · simp at hcs
    have hce : (Tryz.prog).cellsOf 107 = 7 := by kernel_rfl
    have hlm : len ≤ m := by rw [hmm]; split <;> omega
    have each : ∀ i, i < m → ∃ q : Ev, (∀ j u, (evC q)[j]? = some u → w.cell? ((a.add (i * 7)).add j) = some u) ∧ q.wf := by
      intro i hi
      obtain ⟨cs', h1, h2⟩ := hx i hi
      rw [hce] at h1
      obtain ⟨_, hlen, hcell⟩ := World.cells?_some h1
      obtain ⟨q, rfl, hq⟩ := event_of_cells h2 hlen
      refine ⟨q, fun j u hu => ?_, hq⟩
      have hj : j < 7 := by rw [← hlen]; exact (List.getElem?_eq_some_iff.1 hu).1
      rw [hcell j hj]; exact hu
    have hin : Inhabited Ev := ⟨⟨0, 0, 0, 0, 0, 0, false⟩⟩
    obtain ⟨q, hq⟩ := Deep.choose_lt each
    by_cases h0 : len = 0
    · exact ⟨some a, len, cap, 0, q, hcs, hl, hm, .inl h0, fun i hi => by omega, fun e => by cases e⟩
    · obtain ⟨b, off, spot⟩ := a
      have c0 := (hq 0 (by omega)).1 0 _ rfl
      have hspot : spot = none := by
        have := World.cell?_spot c0
        simpa [Addr.add] using this
      subst hspot
      refine ⟨some ⟨b, off, none⟩, len, cap, b, q, hcs, hl, hm, .inr ⟨off, rfl, fun i hi j u hu => ?_⟩, fun i hi => (hq i (by omega)).2, fun e => by cases e⟩
      have := (hq i (by omega)).1 j u hu
      rw [Go.WideShapes.add_plain, Go.WideShapes.add_plain] at this
      exact this
set_option maxHeartbeats 2000000 in
theorem toEventS_any (a : Option Addr) (b n c : Nat) (f : Nat → Ev) (w : World) (hn : n ≤ 1048576) (h : RdE evC 7 w b a n f) :
    Calls Tryz.prog 41 #[.slice a n c] w fun e w' => e = .returned (.slice (some ⟨w.heap.size, 0, none⟩) n n) ∧ Below w.heap.size w w' ∧ OwnE evC 7 w' w.heap.size w.heap.size (some ⟨w.heap.size, 0, none⟩) n f := by
  obtain ⟨i0, hi, hz0, hz1, hz2⟩ := info_parts Tryz.infoEv
  go_enter Tryz.func41, Tryz.ntmps41
  go_wp2_with (at_make; refine wpList_make_full _ rfl _ _ 40 rfl w.heap.size 102 i0 _ 7 Tryz.underlying40 hi hz0 hz1 _ _ _ _ n rfl rfl rfl rfl (by rw [hz2]; omega) (by unfold maxLen; omega) (Nat.le_refl _) ?_)
  intro w1 hown hgr
  have hown' : w1.ownsRow w.heap.size 102 7 (.slice (some ⟨w.heap.size, 0, none⟩) n n) n (valsE evC n (fun _ => zE)) := by rw [← made_event]; exact hown
  have hrow := row_madeE hown'
  have HR : Hid (w1.heap[w.heap.size]? = some (.cells (valsE evC n (tilE 0 f (fun _ => zE))).toArray 102 (0, 0))) := by rw [tilE_zero]; exact hrow
  have hb1 : Below w.heap.size w w1 := (Below.refl _ _).grown hgr (Nat.le_refl _) (by simp)
  clear hown hown' hgr hrow
  go_wp2
  go_loopw [4] (fun i wr => ∃ k : Nat, k ≤ n ∧ i = .int .i64 k ∧ Below w.heap.size w wr ∧ Hid (wr.heap[w.heap.size]? = some (.cells (valsE evC n (tilE k f (fun _ => zE))).toArray 102 (0, 0)))) (fun i _ => n - (intOf i).toNat)
  case atStart => exact ⟨0, Nat.zero_le _, rfl, hb1, HR⟩
  case round =>
    clear HR hb1
    obtain ⟨k, hk, rfl, hb, hr⟩ := hrel
    by_cases hlt : k < n
    · have hrd := h.grew evC_ne hb
      rcases hrd with h3 | ⟨o1, rfl, h3⟩
      · omega
      obtain ⟨k0, k1, k2, k3, k4, k5, k6⟩ : AtEv wr b (o1 + k * 7) (f k) := AtEv_of (h3 k hlt)
      have HF : Hid (tilE (k + 1) f (fun _ => zE) = fun i => if i = k then f k else tilE k f (fun _ => zE) i) := (tilE_step k f _).symm
      generalize f k = x at k0 k1 k2 k3 k4 k5 k6 HF
      clear h h3
      go_wp2_with fail
      refine (toEvent_any x _).mono ?_
      rintro e w2 ⟨rfl, hb2⟩
      have hr2 := (hb2.block _ (lt_row hr.out)).trans hr.out
      have ht : w2.there w.heap.size (k * 7) 7 := there_row hr2 (by simp [valsE_len evC_len]; omega)
      have hput := row_putE evC_len hr2 k x hlt
      rw [← HF.out] at hput
      have hB2 := below_app hb hb2 hb.size
      have hB3 := below_setCells' (Nat.le_refl w.heap.size) (evC x) (k * 7) w2 hB2
      clear k0 k1 k2 k3 k4 k5 k6 hr hr2 hb hb2 HF hB2
      go_wp2_with (refine wpList_store_mid rfl 102 (.tmp 21) (.tmp 20) rfl w.heap.size (k * 7) #[.int .i64 x.kd, .int .i64 x.sr, .int .i64 x.pi, .int .i64 x.si, .int .i64 x.nn, .int .i64 x.zo, .bool x.be] (by first | rfl | simp [Act.eval]) rfl ht (by kernel_rfl) (by simp [Value.oneCell']) ?_; generalize hV : w2.setCells w.heap.size (k * 7) _ = V; rw [show w2.setCells w.heap.size (k * 7) (evC x) = V from hV] at hput hB3; clear hV ht)
      have HR2 : Hid (V.heap[w.heap.size]? = some (.cells (valsE evC n (tilE (k + 1) f (fun _ => zE))).toArray 102 (0, 0))) := hput
      clear hput
      go_roundw
      case rel => first | exact ⟨k + 1, by omega, by go_num, hB3, HR2⟩ | ((repeat apply Exists.intro); exact ⟨⟨k + 1, by omega, by go_num, hB3, HR2⟩, rfl⟩)
      case measure => simp [intOf]; omega
    · have hr2 := hr.out
      rw [valsE_congr evC_len (tilE_all f (fun _ => zE) (show n ≤ k by omega))] at hr2
      have ho := ownE_row evC_len hr2 (Nat.le_refl w.heap.size)
      clear hr hr2
      go_wp2
      go_ret
      exact ⟨rfl, hb, ho⟩
theorem eqEvent_self (x : Ev) (w : World) : Calls Tryz.prog 71 #[.agg #[.int .i64 x.kd, .int .i64 x.sr, .int .i64 x.pi, .int .i64 x.si, .int .i64 x.nn, .int .i64 x.zo, .bool x.be], .agg #[.int .i64 x.kd, .int .i64 x.sr, .int .i64 x.pi, .int .i64 x.si, .int .i64 x.nn, .int .i64 x.zo, .bool x.be]] w fun e w' => e = .returned (.bool true) ∧ Below w.heap.size w w' := by
  have := eqEvent_any x x w
  rw [smE_self] at this
  exact this
set_option maxHeartbeats 4000000 in
theorem eqEventS_same (a1 a2 : Option Addr) (b1 b2 n c1 c2 : Nat) (f : Nat → Ev) (w : World) (hn : n ≤ 9223372036854775807) (h1 : RdE evC 7 w b1 a1 n f) (h2 : RdE evC 7 w b2 a2 n f) :
    Calls Tryz.prog 54 #[.slice a1 n c1, .slice a2 n c2] w fun e w' => e = .returned (.bool true) ∧ Below w.heap.size w w' := by
  go_enter Tryz.func54, Tryz.ntmps54
  go_wp2
  go_loopw [5] (fun i wr => ∃ k : Nat, k ≤ n ∧ i = .int .i64 k ∧ Below w.heap.size w wr) (fun i _ => n - (intOf i).toNat)
  case atStart => exact ⟨0, Nat.zero_le _, rfl, Below.refl _ _⟩
  case round =>
    obtain ⟨k, hk, rfl, hb⟩ := hrel
    by_cases hlt : k < n
    · rcases h1.grew evC_ne hb with g1 | ⟨o1, rfl, g1⟩
      · omega
      rcases h2.grew evC_ne hb with g2 | ⟨o2, rfl, g2⟩
      · omega
      obtain ⟨k0, k1, k2, k3, k4, k5, k6⟩ : AtEv wr b1 (o1 + k * 7) (f k) := AtEv_of (g1 k hlt)
      obtain ⟨j0, j1, j2, j3, j4, j5, j6⟩ : AtEv wr b2 (o2 + k * 7) (f k) := AtEv_of (g2 k hlt)
      generalize f k = x at k0 k1 k2 k3 k4 k5 k6 j0 j1 j2 j3 j4 j5 j6
      have hne := bw_ne wr
      have p0 := fun u : BW wr => u.cell k0
      have q0 := fun u : BW wr => u.cell j0
      have p1 := fun u : BW wr => u.cell k1
      have q1 := fun u : BW wr => u.cell j1
      have p2 := fun u : BW wr => u.cell k2
      have q2 := fun u : BW wr => u.cell j2
      have p3 := fun u : BW wr => u.cell k3
      have q3 := fun u : BW wr => u.cell j3
      have p4 := fun u : BW wr => u.cell k4
      have q4 := fun u : BW wr => u.cell j4
      have p5 := fun u : BW wr => u.cell k5
      have q5 := fun u : BW wr => u.cell j5
      have p6 := fun u : BW wr => u.cell k6
      have q6 := fun u : BW wr => u.cell j6
      clear k0 k1 k2 k3 k4 k5 k6 j0 j1 j2 j3 j4 j5 j6 g1 g2 h1 h2
      have y1 : (0 : Int) ≤ (k : Int) := by omega
      have y2 : (k : Int) < (n : Int) := by omega
      go_wp2_with fail
      refine wp_region_below_lit (W := wr) 10 (by kernel_rfl) (by kernel_rfl) (by decide) (Below.refl _ _) (by intro c d v a w h; cases d <;> exact h) ?_
      simp only [List.take_succ_cons, List.take_zero, List.drop_succ_cons, List.drop_zero]
      repeat (go_big_quiet_step ((go_at_call 71; refine quiet_below (eqEvent_self x _))))
      refine wpQuiet_nil ?_
      rintro _ ⟨u, rfl⟩
      have hB := below_app hb u.h hb.size
      clear hne p0 p1 p2 p3 p4 p5 p6 q0 q1 q2 q3 q4 q5 q6 hb
      go_wp2
      go_roundw
      case rel => first | exact ⟨k + 1, by omega, by go_num, hB⟩ | ((repeat apply Exists.intro); exact ⟨⟨k + 1, by omega, by go_num, hB⟩, rfl⟩)
      case measure => simp [intOf]; omega
    · go_wp2
      go_ret
      exact ⟨rfl, hb⟩
theorem szEventS_any (a : Option Addr) (n c : Nat) (x : Int) (w : World) (hn : n ≤ 9223372036854775807) (hx : 0 ≤ x ∧ x ≤ 1048576) : Calls Tryz.prog 38 #[.slice a n c, .int .i64 x] w fun e w' => e = .returned (.int .i64 (szN n x)) ∧ w' = w := by
  obtain ⟨x1, x2⟩ := hx
  by_cases h : x - n < 0
  · have HS : Hid (szN n x = -1) := by show szN n x = -1; unfold szN; rw [if_pos h]
    go_enter Tryz.func38, Tryz.ntmps38
    go_wp2
    go_ret
    exact ⟨ret_int HS.out.symm, rfl⟩
  · have HS : Hid (szN n x = x - n) := by show szN n x = x - n; unfold szN; rw [if_neg h]
    have h' : 0 ≤ x - (n : Int) := by omega
    clear h
    go_enter Tryz.func38, Tryz.ntmps38
    go_wp2
    go_ret
    exact ⟨ret_int HS.out.symm, rfl⟩
/-- the one that is marked from number x on -/
def mkE (x : Int) : Ev := ⟨x, x + 1, x + 1 + 1, x + 1 + 1 + 1, x + 1 + 1 + 1 + 1, x + 1 + 1 + 1 + 1 + 1, (x + 1 + 1 + 1 + 1 + 1 + 1) % 3 == 0⟩
set_option maxHeartbeats 4000000 in
theorem markEventS_any (a : Option Addr) (b n c : Nat) (k0 : Int) (f : Nat → Ev) (w : World) {B : Nat} (hn : n ≤ 1048577) (hk0 : 0 ≤ k0) (hk1 : k0 ≤ 140737488351232) (h : OwnE evC 7 w B b a n f) :
    Calls Tryz.prog 35 #[.slice a n c, .int .i64 k0] w fun e w' => e = .returned (.int .i64 (k0 + 7 * n)) ∧ Only b w w' ∧ OwnE evC 7 w' B b a n (fun i => mkE (k0 + 7 * i)) := by
  go_enter Tryz.func35, Tryz.ntmps35
  go_wp2
  go_loopw [1, 5] (fun m i wr => ∃ k : Nat, k ≤ n ∧ i = .int .i64 k ∧ m = .int .i64 (k0 + 7 * k) ∧ Only b w wr ∧ OwnE evC 7 wr B b a n (tilE k (fun i => mkE (k0 + 7 * i)) f)) (fun _ i _ => n - (intOf i).toNat)
  case atStart => exact ⟨0, Nat.zero_le _, rfl, by simp, Only.refl _ _, by rw [tilE_zero]; exact h⟩
  case round =>
    obtain ⟨k, hk, rfl, rfl, hb, hr⟩ := hrel
    by_cases hlt : k < n
    · rcases hr.rd with h3 | ⟨o1, rfl, h3⟩
      · omega
      obtain ⟨c0, c1, c2, c3, c4, c5, c6⟩ : AtEv wr b (o1 + k * 7) _ := AtEv_of (h3 k hlt)
      clear h3 h
      have z0 := hr.2.2.2 (o1 + k * 7)
      have z1 := hr.2.2.2 (o1 + k * 7 + 1)
      have z2 := hr.2.2.2 (o1 + k * 7 + 2)
      have z3 := hr.2.2.2 (o1 + k * 7 + 3)
      have z4 := hr.2.2.2 (o1 + k * 7 + 4)
      have z5 := hr.2.2.2 (o1 + k * 7 + 5)
      have z6 := hr.2.2.2 (o1 + k * 7 + 6)
      have R := hr.putE evC_len k hlt (mkE (k0 + 7 * k))
      rw [tilE_step k (fun i => mkE (k0 + 7 * i))] at R
      have hb2 := Only.setCells (evC (mkE (k0 + 7 * k))) (o1 + k * 7) wr hb
      have HX : Hid (k0 + 7 * ((k + 1 : Nat) : Int) = k0 + 7 * k + 7) := by show _ = _; omega
      obtain ⟨x, hx⟩ : ∃ x, k0 + 7 * (k : Int) = x := ⟨_, rfl⟩
      have x1 : 0 ≤ x := by omega
      have x2 : x ≤ 140737588351232 := by omega
      have y1 : (0 : Int) ≤ (k : Int) := by omega
      have y2 : (k : Int) < (n : Int) := by omega
      rw [hx] at HX R hb2 ⊢
      have HC : Hid (wr.setCells b (o1 + k * 7) (evC (mkE x)) = (((((((wr.setCell ⟨b, o1 + k * 7, none⟩ (.int .i64 (x))).setCell ⟨b, o1 + k * 7 + 1, none⟩ (.int .i64 (x + 1))).setCell ⟨b, o1 + k * 7 + 2, none⟩ (.int .i64 (x + 1 + 1))).setCell ⟨b, o1 + k * 7 + 3, none⟩ (.int .i64 (x + 1 + 1 + 1))).setCell ⟨b, o1 + k * 7 + 4, none⟩ (.int .i64 (x + 1 + 1 + 1 + 1))).setCell ⟨b, o1 + k * 7 + 5, none⟩ (.int .i64 (x + 1 + 1 + 1 + 1 + 1))).setCell ⟨b, o1 + k * 7 + 6, none⟩ (.bool ((x + 1 + 1 + 1 + 1 + 1 + 1) % 3 == 0)))) := show _ = _ from rfl
      rw [HC.out] at R hb2
      have HR : Hid (Only b w (((((((wr.setCell ⟨b, o1 + k * 7, none⟩ (.int .i64 (x))).setCell ⟨b, o1 + k * 7 + 1, none⟩ (.int .i64 (x + 1))).setCell ⟨b, o1 + k * 7 + 2, none⟩ (.int .i64 (x + 1 + 1))).setCell ⟨b, o1 + k * 7 + 3, none⟩ (.int .i64 (x + 1 + 1 + 1))).setCell ⟨b, o1 + k * 7 + 4, none⟩ (.int .i64 (x + 1 + 1 + 1 + 1))).setCell ⟨b, o1 + k * 7 + 5, none⟩ (.int .i64 (x + 1 + 1 + 1 + 1 + 1))).setCell ⟨b, o1 + k * 7 + 6, none⟩ (.bool ((x + 1 + 1 + 1 + 1 + 1 + 1) % 3 == 0)))) := hb2
      have HO : Hid (OwnE evC 7 (((((((wr.setCell ⟨b, o1 + k * 7, none⟩ (.int .i64 (x))).setCell ⟨b, o1 + k * 7 + 1, none⟩ (.int .i64 (x + 1))).setCell ⟨b, o1 + k * 7 + 2, none⟩ (.int .i64 (x + 1 + 1))).setCell ⟨b, o1 + k * 7 + 3, none⟩ (.int .i64 (x + 1 + 1 + 1))).setCell ⟨b, o1 + k * 7 + 4, none⟩ (.int .i64 (x + 1 + 1 + 1 + 1))).setCell ⟨b, o1 + k * 7 + 5, none⟩ (.int .i64 (x + 1 + 1 + 1 + 1 + 1))).setCell ⟨b, o1 + k * 7 + 6, none⟩ (.bool ((x + 1 + 1 + 1 + 1 + 1 + 1) % 3 == 0))) B b (some ⟨b, o1, none⟩) n (tilE (k + 1) (fun i => mkE (k0 + 7 * i)) f)) := R
      clear hr R hb2 HC hx
      go_wp2
      go_roundw
      case rel => exact ⟨k + 1, by omega, by go_num, by rw [HX.out]; go_num, HR.out, HO.out⟩
      case measure => simp [intOf]; omega
    · obtain rfl : k = n := by omega
      have hr2 := hr.congr (tilE_all (fun i => mkE (k0 + 7 * i)) _ (Nat.le_refl _))
      go_wp2
      go_ret
      exact ⟨rfl, hb, hr2⟩
set_option maxHeartbeats 4000000 in
theorem heldEventS_any (a : Option Addr) (b n c : Nat) (k0 : Int) (w : World) (hn : n ≤ 1048577) (hk0 : 0 ≤ k0) (hk1 : k0 ≤ 140737488351232) (h : RdE evC 7 w b a n (fun i => mkE (k0 + 7 * i))) :
    Calls Tryz.prog 37 #[.slice a n c, .int .i64 k0] w fun e w' => e = .returned (.int .i64 (k0 + 7 * n)) ∧ Below w.heap.size w w' := by
  go_enter Tryz.func37, Tryz.ntmps37
  go_wp2
  go_loopw [1, 5] (fun m i wr => ∃ k : Nat, k ≤ n ∧ i = .int .i64 k ∧ m = .int .i64 (k0 + 7 * k) ∧ Below w.heap.size w wr) (fun _ i _ => n - (intOf i).toNat)
  case atStart => exact ⟨0, Nat.zero_le _, rfl, by simp, Below.refl _ _⟩
  case round =>
    obtain ⟨k, hk, rfl, rfl, hb⟩ := hrel
    by_cases hlt : k < n
    · rcases h.grew evC_ne hb with h3 | ⟨o1, rfl, h3⟩
      · omega
      obtain ⟨c0, c1, c2, c3, c4, c5, c6⟩ : AtEv wr b (o1 + k * 7) (mkE (k0 + 7 * k)) := AtEv_of (h3 k hlt)
      clear h3 h
      have HX : Hid (k0 + 7 * ((k + 1 : Nat) : Int) = k0 + 7 * k + 7) := by show _ = _; omega
      obtain ⟨x, hx⟩ : ∃ x, k0 + 7 * (k : Int) = x := ⟨_, rfl⟩
      have x1 : 0 ≤ x := by omega
      have x2 : x ≤ 140737588351232 := by omega
      have y1 : (0 : Int) ≤ (k : Int) := by omega
      have y2 : (k : Int) < (n : Int) := by omega
      rw [hx] at HX c0 c1 c2 c3 c4 c5 c6 ⊢
      simp only [mkE] at c0 c1 c2 c3 c4 c5 c6
      clear hx
      go_wp2
      go_roundw
      case rel => exact ⟨k + 1, by omega, by go_num, by rw [HX.out]; go_num, hb⟩
      case measure => simp [intOf]; omega
    · obtain rfl : k = n := by omega
      go_wp2
      go_ret
      exact ⟨rfl, hb⟩
end Go.Proofs.YtodfdfncdoliiauGreat
