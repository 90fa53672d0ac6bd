/-
  Chapter 5: the program's rowAt, sameSides, SameState. Own work.
-/
import Derived.Test.YtnlnledijpcjpabStSame
import Derived.Test.YtnlnledijpcjpabRegs
namespace Go.Proofs.Ytnlnledijpcjpab
open Go.ChangeShapes Go.WideShapes Go.ChangeAt Go.RowKit
set_option maxRecDepth 100000
set_option linter.unusedVariables false
theorem run_copy_rowE {P : Program} (w : World) (dT sT ty elem : TypeId) (g o dLen dCap m : Nat) (a : Addr) (sLen sCap : Nat) (cur : Array Value) (t : TypeId) (cs : List Value)
    (hu : P.underlying dT = some (.slice elem)) (hs : (P.info? elem).map (·.size) = some m)
    (hg : w.heap[g]? = some (.cells cur t (0, 0))) (hn : cs.length = Nat.min sLen dLen * m)
    (hsrc : ∀ j v, cs[j]? = some v → w.cell? (a.add j) = some v) (hfit : o + cs.length ≤ cur.size) (h1 : ∀ v ∈ cs, v.oneCell' = true) :
    (Builtin.copy_ #[dT, sT] ty #[.slice (some ⟨g, o, none⟩) dLen dCap, .slice (some a) sLen sCap]).run P w =
      .ok (goInt (Nat.min sLen dLen)) (w.setRow g (cur.toList.take o ++ cs ++ cur.toList.drop (o + cs.length)).toArray) := by
  have hl := run_loadCells_list (P := P) w a cs hsrc
  have hst := run_storeCells_at P g o t cs 0 cur w hg (by simpa using hfit) h1
  cases hq : P.info? elem with
  | none => simp [hq] at hs
  | some i =>
    have hi : i.size = m := by simpa [hq] using hs
    simp [Builtin.copy_, run_underlying hu, Builtin.lenOf, Builtin.firstCells, sizeOf, typeInfo, hq, hi, ← hn, hl, hst]
def z9 : Array Value := #[.int .i64 0, .int .i64 0, .bool false, .int .i64 0, .int .i64 0, .bool false, .int .i64 0, .int .i64 0, .bool false]
/-- the side at a place, or none -/
def elS (n : Nat) (f : Nat → Sd) (j : Nat) : Sd := if j < n then f j else zS
/-- so many sides from place i on, laid over three that are zero -/
theorem row9 (n i : Nat) (f : Nat → Sd) (hi : i < n) : (z9.toList.take 0 ++ valsE sdC (Nat.min (n - i) 3) (fun j => f (i + j)) ++ z9.toList.drop (0 + (valsE sdC (Nat.min (n - i) 3) (fun j => f (i + j))).length)).toArray = (rwC (elS n f i) (elS n f (i + 1)) (elS n f (i + 2))).toArray := by
  rw [valsE_len sdC_len]
  have h0 : elS n f i = f i := by unfold elS; rw [if_pos hi]
  rw [h0]
  have hm : Nat.min (n - i) 3 = 1 ∨ Nat.min (n - i) 3 = 2 ∨ Nat.min (n - i) 3 = 3 := by
    show min (n - i) 3 = 1 ∨ min (n - i) 3 = 2 ∨ min (n - i) 3 = 3
    omega
  rcases hm with h | h | h
  · have e1 : elS n f (i + 1) = zS := by unfold elS; rw [if_neg]; have h' : min (n - i) 3 = 1 := h; omega
    have e2 : elS n f (i + 2) = zS := by unfold elS; rw [if_neg]; have h' : min (n - i) 3 = 1 := h; omega
    rw [h, e1, e2]; rfl
  · have e1 : elS n f (i + 1) = f (i + 1) := by unfold elS; rw [if_pos]; have h' : min (n - i) 3 = 2 := h; omega
    have e2 : elS n f (i + 2) = zS := by unfold elS; rw [if_neg]; have h' : min (n - i) 3 = 2 := h; omega
    rw [h, e1, e2]; rfl
  · have e1 : elS n f (i + 1) = f (i + 1) := by unfold elS; rw [if_pos]; have h' : min (n - i) 3 = 3 := h; omega
    have e2 : elS n f (i + 2) = f (i + 2) := by unfold elS; rw [if_pos]; have h' : min (n - i) 3 = 3 := h; omega
    rw [h, e1, e2]; rfl
theorem sizeSd : (Try.prog.info? 68).map (·.size) = some 3 := by kernel_rfl
theorem RdE.newsAt {b off n i : Nat} {f : Nat → Sd} {w : World} (h : RdE sdC 3 w b (some ⟨b, off, none⟩) n f) (hi : i < n) : ∀ j u, (valsE sdC (Nat.min (n - i) 3) (fun j => f (i + j)))[j]? = some u → w.cell? ((⟨b, off + i * 3, none⟩ : Addr).add j) = some u := by
  refine RdE.newsE (b := b) sdC_len (.inr ⟨off + i * 3, rfl, fun k hk j v hv => ?_⟩)
  have hk' : k < n - i := Nat.lt_of_lt_of_le hk (Nat.min_le_left _ _)
  rcases h with h | ⟨o, e, hc⟩
  · omega
  · simp only [Option.some.injEq, Addr.mk.injEq, and_true, true_and] at e
    subst e
    have := hc (i + k) (by omega) j v hv
    rwa [show off + (i + k) * 3 + j = off + i * 3 + k * 3 + j by omega] at this
set_option maxHeartbeats 1000000 in
theorem rowAt_any (b off n c i : Nat) (f : Nat → Sd) (w : World) (hn : n ≤ 1048577) (hc : n ≤ c) (hi : i < n) (h : RdE sdC 3 w b (some ⟨b, off, none⟩) n f) :
    Calls Try.prog 136 #[.slice (some ⟨b, off, none⟩) n c, .int .i64 i] w fun e w' => e = .returned (.agg (rwC (elS n f i) (elS n f (i + 1)) (elS n f (i + 2))).toArray) ∧ Below w.heap.size w w' := by
  have hb0 := ((Below.refl _ w).alloc (Nat.le_refl _) (.cells z9 144)).alloc (by simp) (.cells z9 144)
  have x1 := (boxR_new w 144 z9).alloc (.cells z9 144)
  have x2 : BoxR ((w.alloc (.cells z9 144)).alloc (.cells z9 144)) (w.heap.size + 1) 144 z9 := heap_alloc2_new _ _ _
  have hrd := h.grew sdC_ne hb0
  unfold z9 at hb0 x1 x2 hrd
  have y1 : (0 : Int) ≤ (i : Int) := by omega
  have y2 : (i : Int) ≤ (n : Int) := by omega
  have hsub : n - i ≤ n := by omega
  have hrow : Hid ((z9.toList.take 0 ++ valsE sdC (Nat.min (n - i) 3) (fun j => f (i + j)) ++ z9.toList.drop (0 + (valsE sdC (Nat.min (n - i) 3) (fun j => f (i + j))).length)).toArray = (rwC (elS n f i) (elS n f (i + 1)) (elS n f (i + 2))).toArray) := row9 n i f hi
  go_enter Try.func136, Try.ntmps136
  go_wp2
  generalize (w.alloc (.cells #[.int .i64 0, .int .i64 0, .bool false, .int .i64 0, .int .i64 0, .bool false, .int .i64 0, .int .i64 0, .bool false] 144)).alloc (.cells #[.int .i64 0, .int .i64 0, .bool false, .int .i64 0, .int .i64 0, .bool false, .int .i64 0, .int .i64 0, .bool false] 144) = W at hb0 x1 x2 hrd ⊢
  refine wp_region_tail_lit 4 (by kernel_rfl) (by kernel_rfl) (by decide) (by intro c d v a w h; cases d <;> exact h) ?_
  simp only [List.take_succ_cons, List.take_zero, List.drop_succ_cons, List.drop_zero]
  repeat (go_big_quiet_step (fail))
  refine wpQuiet_nil ?_
  rintro _ ⟨nq, rfl⟩
  have hbU := below_drewN hb0 nq
  have z1 : BoxR (W.drewN nq) w.heap.size 144 z9 := x1
  have z2 : BoxR (W.drewN nq) (w.heap.size + 1) 144 z9 := x2
  have hrd2 : RdE sdC 3 (W.drewN nq) b (some ⟨b, off, none⟩) n f := hrd
  generalize W.drewN nq = U at hbU z1 z2 hrd2 ⊢
  have hr := fun ty => run_copy_rowE (P := Try.prog) U 54 54 ty 68 (w.heap.size + 1) 0 3 3 3 ⟨b, off + i * 3, none⟩ (n - i) (c - i) z9 144 (valsE sdC (Nat.min (n - i) 3) (fun j => f (i + j))) Try.underlying54 sizeSd z2 (by rw [valsE_len sdC_len]) (hrd2.newsAt hi) (by rw [valsE_len sdC_len]; have : Nat.min (n - i) 3 ≤ 3 := Nat.min_le_right _ _; show 0 + Nat.min (n - i) 3 * 3 ≤ 9; omega) (sdC_one _ _)
  rw [hrow.out] at hr
  generalize hx : elS n f i = x at hr
  generalize hy : elS n f (i + 1) = y at hr
  generalize hz : elS n f (i + 2) = z at hr
  have bV : BoxR (U.setRow (w.heap.size + 1) (rwC x y z).toArray) (w.heap.size + 1) 144 (rwC x y z).toArray := setRow_heap _ _ _ _ _ _ z2
  have bR : BoxR (U.setRow (w.heap.size + 1) (rwC x y z).toArray) w.heap.size 144 z9 := (by unfold World.setRow; simp only [Array.getElem?_modify]; rw [if_neg (by omega)] : (U.setRow (w.heap.size + 1) (rwC x y z).toArray).heap[w.heap.size]? = U.heap[w.heap.size]?).trans z1
  have hbV := below_setRow hbU (show w.heap.size ≤ w.heap.size + 1 by omega) (rwC x y z).toArray
  generalize hV : U.setRow (w.heap.size + 1) (rwC x y z).toArray = V at hr bV bR hbV
  clear hV hrow hrd hrd2 x1 x2 z1 z2 hbU hb0 h
  have m0 : V.cell? ⟨w.heap.size + 1, 0, none⟩ = some (.int .i64 x.li) := bV.cell 0
  have m1 : V.cell? ⟨w.heap.size + 1, 1, none⟩ = some (.int .i64 x.po) := bV.cell 1
  have m2 : V.cell? ⟨w.heap.size + 1, 2, none⟩ = some (.bool x.lo) := bV.cell 2
  have m3 : V.cell? ⟨w.heap.size + 1, 3, none⟩ = some (.int .i64 y.li) := bV.cell 3
  have m4 : V.cell? ⟨w.heap.size + 1, 4, none⟩ = some (.int .i64 y.po) := bV.cell 4
  have m5 : V.cell? ⟨w.heap.size + 1, 5, none⟩ = some (.bool y.lo) := bV.cell 5
  have m6 : V.cell? ⟨w.heap.size + 1, 6, none⟩ = some (.int .i64 z.li) := bV.cell 6
  have m7 : V.cell? ⟨w.heap.size + 1, 7, none⟩ = some (.int .i64 z.po) := bV.cell 7
  have m8 : V.cell? ⟨w.heap.size + 1, 8, none⟩ = some (.bool z.lo) := bV.cell 8
  go_wp2_with first | (at_builtin; refine Lib.wpList_copy_run _ rfl (.tmp 7) (.tmp 10) _ _ rfl _ _ rfl rfl (hr _) ?_) | (refine wpList_store_row rfl 144 (.tmp 4) _ rfl w.heap.size _ (by rfl) (by rfl) _ _ bR (by kernel_rfl) (by rfl) (by simp [Value.oneCell']) ?_)
  (try simp only [Exit.inBlock, Exit.then]); refine bodyPost_ret (results_cell_row rfl _ _ w.heap.size _ _ _ _ rfl (setRow_heap _ _ _ _ _ _ bR) Try.underlying144 rfl (by kernel_rfl)) rfl ?_
  exact ⟨by rw [hx, hy, hz]; rfl, below_setRow hbV (Nat.le_refl _) _⟩
theorem row_sameD {n : Nat} {f g : Nat → Sd} {i : Nat} (h : (smD (elS n f i) (elS n g i) && smD (elS n f (i + 1)) (elS n g (i + 1)) && smD (elS n f (i + 2)) (elS n g (i + 2))) = true) : ∀ j, i ≤ j → j < i + 3 → j < n → smD (f j) (g j) = true := by
  intro j h1 h2 h3
  simp only [Bool.and_eq_true] at h
  have : j = i ∨ j = i + 1 ∨ j = i + 2 := by omega
  have e : ∀ q : Nat → Sd, elS n q j = q j := fun q => by unfold elS; rw [if_pos h3]
  rw [← e f, ← e g]
  rcases this with rfl | rfl | rfl
  · exact h.1.1
  · exact h.1.2
  · exact h.2
theorem row_diff {n : Nat} {f g : Nat → Sd} {i : Nat} (h : (smD (elS n f i) (elS n g i) && smD (elS n f (i + 1)) (elS n g (i + 1)) && smD (elS n f (i + 2)) (elS n g (i + 2))) = false) : eqD n n f g = false := by
  unfold eqD
  have key : ∀ j, smD (elS n f j) (elS n g j) = false → (List.range n).all (fun i => smD (f i) (g i)) = false := by
    intro j hj
    by_cases hn : j < n
    · refine allf_no hn ?_
      unfold elS at hj
      rwa [if_pos hn, if_pos hn] at hj
    · unfold elS at hj
      rw [if_neg hn, if_neg hn, smD_self] at hj
      cases hj
  cases h0 : smD (elS n f i) (elS n g i) with
  | false => rw [key i h0]; simp
  | true =>
    cases h1 : smD (elS n f (i + 1)) (elS n g (i + 1)) with
    | false => rw [key _ h1]; simp
    | true => rw [h0, h1] at h; rw [key (i + 2) (by simpa using h)]; simp
set_option maxHeartbeats 1000000 in
theorem sameSides_any (a1 a2 : Option Addr) (b1 b2 n m c1 c2 : Nat) (f g : Nat → Sd) (w : World) (hn : n ≤ 1048577) (hm : m ≤ 1048577) (hc1 : n ≤ c1) (hc2 : m ≤ c2) (h1 : RdE sdC 3 w b1 a1 n f) (h2 : RdE sdC 3 w b2 a2 m g) :
    Calls Try.prog 103 #[.slice a1 n c1, .slice a2 m c2] w fun e w' => e = .returned (.bool (eqD n m f g)) ∧ Below w.heap.size w w' := by
  by_cases hnm : n = m
  rotate_left
  · have HN : Hid (eqD n m f g = false) := by show eqD n m f g = false; unfold eqD; rw [decide_eq_false hnm]; rfl
    have q1 : ((n : Int) == (m : Int)) = false := by simp; omega
    have q2 : ((n : Int) != (m : Int)) = true := by simp; omega
    clear hnm
    go_enter Try.func103, Try.ntmps103
    go_wp2
    go_ret
    exact ⟨ret_bool' HN.out.symm, Below.refl _ _⟩
  subst hnm
  go_enter Try.func103, Try.ntmps103
  go_wp2
  go_loopw [5] (fun i wr => ∃ k : Nat, k ≤ n + 2 ∧ i = .int .i64 k ∧ Below w.heap.size w wr ∧ Hid (∀ j, j < k → j < n → smD (f j) (g j) = true)) (fun i _ => n + 2 - (intOf i).toNat)
  case atStart => exact ⟨0, Nat.zero_le _, rfl, Below.refl _ _, fun j hj => by omega⟩
  case round =>
    obtain ⟨k, hk, rfl, hb, hall⟩ := hrel
    by_cases hlt : k < n
    · have g1 := h1.grew sdC_ne hb
      rcases g1 with g1 | ⟨o1, rfl, g1⟩
      · omega
      have g2 := h2.grew sdC_ne hb
      rcases g2 with g2 | ⟨o2, rfl, g2⟩
      · omega
      have g1' := h1.grew sdC_ne hb
      have y1 : (0 : Int) ≤ (k : Int) := by omega
      have y2 : (k : Int) < (n : Int) := by omega
      clear g1 g2
      go_wp2_with fail
      refine (rowAt_any b1 o1 n c1 k f _ hn hc1 hlt g1').mono ?_
      rintro e w1 ⟨rfl, hb1⟩
      have hB1 := below_app hb hb1 hb.size
      have g2' := h2.grew sdC_ne hB1
      go_wp2_with fail
      refine (rowAt_any b2 o2 n c2 k g _ hn hc2 hlt g2').mono ?_
      rintro e w2 ⟨rfl, hb2⟩
      have hB2 := below_app hB1 hb2 hB1.size
      have heq0 := run_eq_row (elS n f k) (elS n f (k + 1)) (elS n f (k + 2)) (elS n g k) (elS n g (k + 1)) (elS n g (k + 2))
      clear g1' g2' hb hb1 hB1 hb2
      cases hs : (smD (elS n f k) (elS n g k) && smD (elS n f (k + 1)) (elS n g (k + 1)) && smD (elS n f (k + 2)) (elS n g (k + 2))) with
      | true =>
        have HA : Hid (∀ j, j < k + 3 → j < n → smD (f j) (g j) = true) := fun j hj hjn => by
          by_cases e : j < k
          · exact hall.out j e hjn
          · exact row_sameD hs j (by omega) hj hjn
        rw [hs] at heq0
        generalize (rwC (elS n f k) (elS n f (k + 1)) (elS n f (k + 2))).toArray = X at heq0 ⊢
        generalize (rwC (elS n g k) (elS n g (k + 1)) (elS n g (k + 2))).toArray = Y at heq0 ⊢
        clear hall hs
        go_wp2
        go_roundw
        case rel => first | exact ⟨k + 3, by omega, by go_num, hB2, HA⟩ | ((repeat apply Exists.intro); exact ⟨⟨k + 3, by omega, by go_num, hB2, HA⟩, rfl⟩)
        case measure => simp [intOf]; omega
      | false =>
        have HN : Hid (eqD n n f g = false) := row_diff hs
        rw [hs] at heq0
        generalize (rwC (elS n f k) (elS n f (k + 1)) (elS n f (k + 2))).toArray = X at heq0 ⊢
        generalize (rwC (elS n g k) (elS n g (k + 1)) (elS n g (k + 2))).toArray = Y at heq0 ⊢
        clear hall hs
        go_wp2
        go_ret
        exact ⟨ret_bool' HN.out.symm, hB2⟩
    · have HN : Hid (eqD n n f g = true) := by show eqD n n f g = true; unfold eqD; rw [allf_yes (f := fun i => smD (f i) (g i)) (fun j hj => hall.out j (by omega) hj)]; simp
      clear hall
      go_wp2
      go_ret
      exact ⟨ret_bool' HN.out.symm, hb⟩
set_option maxHeartbeats 2000000 in
theorem implSameState_any (s t : Stt) (w : World) (hs : s.ok w) (ht : t.ok w) (hn : s.pn ≤ 1048577) (hn2 : s.sn ≤ 1048577) (hm : t.pn ≤ 1048577) (hm2 : t.sn ≤ 1048577) : Calls Try.prog 52 #[(.agg #[.slice s.pa s.pn s.pcap, .slice s.sa s.sn s.scap, .int .i64 s.ac, .int .i64 s.cl]), (.agg #[.slice t.pa t.pn t.pcap, .slice t.sa t.sn t.scap, .int .i64 t.ac, .int .i64 t.cl])] w fun e w' => e = .returned (.bool (smS s t)) ∧ Below w.heap.size w w' := by
  obtain ⟨_, _, r1, r2c, _, r2, _⟩ := hs
  obtain ⟨_, _, u1, u2c, _, u2, _⟩ := ht
  have hb0 := ((Below.refl _ w).alloc (Nat.le_refl _) (.cells #[.slice s.pa s.pn s.pcap, .slice s.sa s.sn s.scap, .int .i64 s.ac, .int .i64 s.cl] 56)).alloc (by simp) (.cells #[.slice t.pa t.pn t.pcap, .slice t.sa t.sn t.scap, .int .i64 t.ac, .int .i64 t.cl] 56)
  have x1 := (boxR_new w 56 #[.slice s.pa s.pn s.pcap, .slice s.sa s.sn s.scap, .int .i64 s.ac, .int .i64 s.cl]).alloc (.cells #[.slice t.pa t.pn t.pcap, .slice t.sa t.sn t.scap, .int .i64 t.ac, .int .i64 t.cl] 56)
  have x2 : BoxR ((w.alloc (.cells #[.slice s.pa s.pn s.pcap, .slice s.sa s.sn s.scap, .int .i64 s.ac, .int .i64 s.cl] 56)).alloc (.cells #[.slice t.pa t.pn t.pcap, .slice t.sa t.sn t.scap, .int .i64 t.ac, .int .i64 t.cl] 56)) (w.heap.size + 1) 56 #[.slice t.pa t.pn t.pcap, .slice t.sa t.sn t.scap, .int .i64 t.ac, .int .i64 t.cl] := heap_alloc2_new _ _ _
  generalize hW : (w.alloc (.cells #[.slice s.pa s.pn s.pcap, .slice s.sa s.sn s.scap, .int .i64 s.ac, .int .i64 s.cl] 56)).alloc (.cells #[.slice t.pa t.pn t.pcap, .slice t.sa t.sn t.scap, .int .i64 t.ac, .int .i64 t.cl] 56) = W at hb0 x1 x2
  have c0 := x1.cell 0
  have c1 := x1.cell 1
  have c2 := x1.cell 2
  have c3 := x1.cell 3
  have d0 := x2.cell 0
  have d1 := x2.cell 1
  have d2 := x2.cell 2
  have d3 := x2.cell 3
  simp at c0 c1 c2 c3 d0 d1 d2 d3
  by_cases e3 : s.ac = t.ac
  rotate_left
  · have HN : Hid (smS s t = false) := by show smS s t = false; unfold smS; rw [decide_eq_false e3]; simp
    have q5 : (s.ac == t.ac) = false := by simpa using e3
    clear e3
    go_enter Try.func52, Try.ntmps52
    try simp only [List.append_eq, List.cons_append, List.nil_append]
    go_wp2
    go_ret
    exact ⟨ret_bool' HN.out.symm, hb0⟩
  have q5 : (s.ac == t.ac) = true := by simpa using e3
  by_cases e4 : s.cl = t.cl
  rotate_left
  · have HN : Hid (smS s t = false) := by show smS s t = false; unfold smS; rw [decide_eq_false e4]; simp
    have q7 : (s.cl == t.cl) = false := by simpa using e4
    clear e3 e4
    go_enter Try.func52, Try.ntmps52
    try simp only [List.append_eq, List.cons_append, List.nil_append]
    go_wp2
    go_ret
    exact ⟨ret_bool' HN.out.symm, hb0⟩
  have q7 : (s.cl == t.cl) = true := by simpa using e4
  have HH : Hid (smS s t = (eqD s.sn t.sn s.ss t.ss && eqR s.pn t.pn s.ps t.ps)) := by show smS s t = _; unfold smS; rw [decide_eq_true e3, decide_eq_true e4]; rfl
  clear e3 e4
  have HD := sameSides_any s.sa t.sa s.sb t.sb s.sn t.sn s.scap t.scap s.ss t.ss W hn2 hm2 r2c u2c (r2.grew sdC_ne hb0) (u2.grew sdC_ne hb0)
  cases hd : eqD s.sn t.sn s.ss t.ss with
  | false =>
    have HN : Hid (smS s t = false) := by show smS s t = false; rw [HH.out, hd]; rfl
    rw [hd] at HD
    have HD' : Hid (Calls Try.prog 103 #[.slice s.sa s.sn s.scap, .slice t.sa t.sn t.scap] W fun e w' => e = .returned (.bool false) ∧ Below W.heap.size W w') := HD
    clear HD
    go_enter Try.func52, Try.ntmps52
    try simp only [List.append_eq, List.cons_append, List.nil_append]
    go_wp2_with (go_at_call 103; refine HD'.out.mono ?_; rintro e w1 ⟨rfl, hb1⟩)
    go_ret
    exact ⟨ret_bool' HN.out.symm, below_app hb0 hb1 hb0.size⟩
  | true =>
    have HN : Hid (smS s t = eqR s.pn t.pn s.ps t.ps) := by show smS s t = _; rw [HH.out, hd]; rfl
    rw [hd] at HD
    have HD' : Hid (Calls Try.prog 103 #[.slice s.sa s.sn s.scap, .slice t.sa t.sn t.scap] W fun e w' => e = .returned (.bool true) ∧ Below W.heap.size W w') := HD
    have HR : Hid (∀ u, Below W.heap.size W u → Calls Try.prog 104 #[.slice s.pa s.pn s.pcap, .slice t.pa t.pn t.pcap] u fun e w' => e = .returned (.bool (eqR s.pn t.pn s.ps t.ps)) ∧ Below u.heap.size u w') := fun u hu => equalPc_any s.pa t.pa s.pb t.pb s.pn t.pn s.pcap t.pcap s.ps t.ps u (by omega) (by omega) (r1.grew pcC_ne (below_app hb0 hu hb0.size)) (u1.grew pcC_ne (below_app hb0 hu hb0.size))
    clear HD
    go_enter Try.func52, Try.ntmps52
    try simp only [List.append_eq, List.cons_append, List.nil_append]
    go_wp2_with first | (go_at_call 103; refine HD'.out.mono ?_; rintro e w1 ⟨rfl, hb1⟩; have z1 := x1.grew hb1; have z2 := x2.grew hb1; have c0' := z1.cell 0; have d0' := z2.cell 0; simp at c0' d0'; clear c0 c1 c2 c3 d0 d1 d2 d3 hW) | (go_at_call 104; refine (HR.out w1 hb1).mono ?_; rintro e w2 ⟨rfl, hb2⟩)
    go_ret
    exact ⟨ret_bool' HN.out.symm, below_app hb0 (below_app hb1 hb2 hb1.size) hb0.size⟩
end Go.Proofs.Ytnlnledijpcjpab
