/-
  Chapter 11, the program: slices.Insert of one mark into a row without room. Written by tools/tai.gen.py. Own work.
-/
import Derived.Test.YtodfdfncdoliiauGreatGMaB3
import Derived.Lib.AppendZeros
import Derived.Lib.AppendZerosOnto
import Derived.Deep.DeepCutAuto
import Derived.Deep.CutBlock
import Derived.Deep.RegionHeld
import Derived.Deep.RegionHeldLaw
import Derived.Deep.MidRow
import Derived.Laws.OwnMore
namespace Go.Proofs.YtodfdfncdoliiauGreat
open Go.ChangeShapes Go.WideShapes Go.ChangeAt Go.RowKit
set_option maxRecDepth 100000
set_option linter.unusedVariables false
set_option linter.unusedSimpArgs false

theorem World.cellN {w w' : World} {a : Addr} {v : Value} (h : w.cell? a = some v) (hb : Below w.heap.size w w') : w'.cell? a = some v := (World.cell?_of_block (w := w) (a := a) (hb.block a.block (World.block_lt_of_cell? w _ h))).trans h
/-- 'copy(d, s)', its run known, at the operation -/
theorem wp_copyM {P : Program} {w : World} {o : Oper} {a : Act} {K' : Act → World → Prop} {Q : Exit → Act → World → Prop} (d x : Operand) (t : TypeId)
    (hop : o.op = Op.call { callee := Callee.builtin Builtin.copy, args := #[d, x], argTypes := #[t, t] }) (vd vx : Value) (hd : a.eval d = vd) (hx : a.eval x = vx) {v' : Value} {w' : World}
    (hr : (Builtin.copy_ #[t, t] o.type #[vd, vx]).run P w = .ok v' w') (hK : K' (a.put o.dst v') w') : o.wp P a w K' Q := by
  unfold Oper.wp
  simp only [execOp, hop, resolve, invoke, builtin, Sem.run_bind, Sem.run_pure, Result.andThen_ok, List.map_toArray, List.map_cons, List.map_nil, hd, hx, hr]
  exact hK
theorem wpList_copyM {P : Program} {w : World} {ops : Array Oper} {rest : List Oper} {o : Oper} {a : Act} {Q : Exit → Act → World → Prop} (hg : o.guard = none) (d x : Operand) (t : TypeId)
    (hop : o.op = Op.call { callee := Callee.builtin Builtin.copy, args := #[d, x], argTypes := #[t, t] }) (vd vx : Value) (hd : a.eval d = vd) (hx : a.eval x = vx) {v' : Value} {w' : World}
    (hr : (Builtin.copy_ #[t, t] o.type #[vd, vx]).run P w = .ok v' w') (hK : wpList P ops Q rest (a.put o.dst v') w') : wpList P ops Q (o :: rest) a w :=
  wpList_plain hg fun K' hK' => wp_copyM d x t hop vd vx hd hx hr (hK' _ _ hK)
theorem run_copy_rowM {P : Program} (w : World) (dT sT ty elem : TypeId) (g o dLen dCap m : Nat) (a : Addr) (sLen sCap : Nat) (cur : Array Value) (t : TypeId) (cs : List Value)
    (hu : P.underlying dT = some (.slice elem)) (hs : (P.info? elem).map (·.size) = some m)
    (hg : w.heap[g]? = some (.cells cur t (0, 0))) (hn : cs.length = Nat.min sLen dLen * m)
    (hsrc : ∀ j v, cs[j]? = some v → w.cell? (a.add j) = some v) (hfit : o + cs.length ≤ cur.size) (h1 : ∀ v ∈ cs, v.oneCell' = true) :
    (Builtin.copy_ #[dT, sT] ty #[.slice (some ⟨g, o, none⟩) dLen dCap, .slice (some a) sLen sCap]).run P w =
      .ok (goInt (Nat.min sLen dLen)) (w.setRow g (cur.toList.take o ++ cs ++ cur.toList.drop (o + cs.length)).toArray) := by
  have hl := run_loadCells_list (P := P) w a cs hsrc
  have hst := run_storeCells_at P g o t cs 0 cur w hg (by simpa using hfit) h1
  cases hq : P.info? elem with
  | none => simp [hq] at hs
  | some i =>
    have hi : i.size = m := by simpa [hq] using hs
    simp [Builtin.copy_, run_underlying hu, Builtin.lenOf, Builtin.firstCells, sizeOf, typeInfo, hq, hi, ← hn, hl, hst]
def z9 : Array Value := #[.int .i64 0, .int .i64 0, .bool false, .int .i64 0, .int .i64 0, .bool false, .int .i64 0, .int .i64 0, .bool false]
theorem rdE_prefix {w : World} {q t N : Nat} {L tail : List Value} {F : Nat → Int × Int} (h : w.heap[q]? = some (.cells L.toArray t (0, 0))) (hL : L = valsE mkC N F ++ tail) : RdE mkC 2 w q (some ⟨q, 0, none⟩) N F := by
  refine .inr ⟨0, rfl, fun i hi j v hv => ?_⟩
  have hj : j < 2 := by
    have := (List.getElem?_eq_some_iff.1 hv).1
    rw [mkC_len] at this
    exact this
  have hc := cell_of_row w q (0 + i * 2 + j) _ t (0, 0) h
  rw [hc, hL]
  simp only [List.getElem?_toArray, Nat.zero_add]
  rw [List.getElem?_append_left (by rw [valsE_len mkC_len]; omega), valsE_get mkC_len N F i j hi hj]
  exact hv
theorem valsE_ins (n K : Nat) (g : Nat → Int × Int) (m : Int × Int) (hK : K ≤ n) : valsE mkC K g ++ mkC m ++ valsE mkC (n - K) (fun j => g (K + j)) = valsE mkC (n + 1) (insG K g m) := by
  refine valsE_ext mkC_len (by rw [List.length_append, List.length_append, valsE_len mkC_len, valsE_len mkC_len, mkC_len]; omega) (fun i j hi hj => ?_)
  have hl : (valsE mkC K g).length = K * 2 := valsE_len mkC_len K g
  unfold insG
  by_cases c1 : i < K
  · simp only [if_pos c1]
    rw [List.append_assoc, List.getElem?_append_left (by rw [hl]; omega), valsE_get mkC_len K g i j c1 hj]
  · by_cases c2 : i = K
    · subst c2
      simp only [if_neg c1, if_true]
      rw [List.getElem?_append_left (by rw [List.length_append, hl, mkC_len]; omega), List.getElem?_append_right (by rw [hl]; omega), hl, show i * 2 + j - i * 2 = j by omega]
    · simp only [if_neg c1, if_neg c2]
      rw [List.getElem?_append_right (by rw [List.length_append, hl, mkC_len]; omega), List.length_append, hl, mkC_len, show i * 2 + j - (K * 2 + 2) = (i - 1 - K) * 2 + j by omega, valsE_get mkC_len _ _ (i - 1 - K) j (by omega) hj]
      simp only [show K + (i - 1 - K) = i - 1 by omega]
set_option maxHeartbeats 8000000 in
theorem insert_any (ob n K vb : Nat) (g : Nat → Int × Int) (m : Int × Int) (w : World) (ho : RdE mkC 2 w ob (some ⟨ob, 0, none⟩) n g) (hob : ob < w.heap.size) (hK : K ≤ n) (hn : n ≤ 4) (hv : ∀ j v, (mkC m)[j]? = some v → w.cell? ((⟨vb, 0, none⟩ : Addr).add j) = some v) (hvb : vb < w.heap.size) :
    Calls Tryz.prog 30 #[.slice (some ⟨ob, 0, none⟩) n n, .int .i64 (K : Int), .slice (some ⟨vb, 0, none⟩) 1 1] w fun e w' => ∃ q c : Nat, e = .returned (.slice (some ⟨q, 0, none⟩) (n + 1) c) ∧ Below w.heap.size w w' ∧ RdE mkC 2 w' q (some ⟨q, 0, none⟩) (n + 1) (insG K g m) ∧ w.heap.size ≤ q := by
  have m_ : Tryz.prog.follows Departure.mixedOrders = true := by kernel_rfl
  obtain ⟨im, him, hm0, hm1, hm2⟩ := info_parts Tryz.infoMk
  have hsz : (Tryz.prog.info? 66).map (·.size) = some 2 := by rw [him]; simp [hm1]
  have hnews := RdE.newsE mkC_len ho
  have hl := valsE_len (n := n) (f := g) mkC_len
  by_cases hKn : K = n
  case pos =>
    subst hKn
    have hsp := valsE_ins K K g m (Nat.le_refl _)
    rw [Nat.sub_self, show valsE mkC 0 (fun j => g (K + j)) = [] from rfl, List.append_nil] at hsp
    have hra : ∀ ty, (Builtin.append_ #[59, 59] ty #[.slice (some ⟨ob, 0, none⟩) K K, .slice (some ⟨vb, 0, none⟩) 1 1]).run Tryz.prog w = _ := fun ty => run_append_grow w 59 ty 66 im _ Tryz.underlying59 him hm0 ⟨ob, 0, none⟩ K K (valsE mkC K g) (by rw [hl, hm1]) hnews ⟨vb, 0, none⟩ 1 1 (mkC m) (by rw [mkC_len, hm1]) hv (by omega) (by omega) (by rw [hm2]; exact growslice_fits (by omega) (by omega))
    generalize hG : grownCap w (K + 1) K 66 = G at hra
    clear hG hnews hl
    go_enter Tryz.func30, Tryz.ntmps30
    go_wp2_with (at_builtin; refine Lib.wpList_append_run _ rfl _ _ _ _ rfl _ _ rfl rfl _ _ (hra _) ?_)
    go_ret
    refine ⟨w.heap.size, G, rfl, (Below.refl _ w).drew.alloc (Nat.le_refl _) _, rdE_prefix (t := 66) (tail := (Builtin.zeroCells #[.int .i64 0, .int .i64 0] (G - (K + 1))).toList) (L := valsE mkC (K + 1) (insG K g m) ++ (Builtin.zeroCells #[.int .i64 0, .int .i64 0] (G - (K + 1))).toList) ?_ rfl, Nat.le_refl _⟩
    rw [show (valsE mkC (K + 1) (insG K g m) ++ (Builtin.zeroCells #[.int .i64 0, .int .i64 0] (G - (K + 1))).toList).toArray = (valsE mkC (K + 1) (insG K g m)).toArray ++ Builtin.zeroCells #[.int .i64 0, .int .i64 0] (G - (K + 1)) from Array.toList_inj.1 (by simp)]
    exact heap_alloc_new w _
  case neg =>
    have hlt : K < n := by omega
    have hlK := valsE_len mkC_len K g
    have hlD := valsE_len mkC_len (n - K) (fun j => g (K + j))
    have hsp : Hid (valsE mkC K g ++ mkC m ++ valsE mkC (n - K) (fun j => g (K + j)) = valsE mkC (n + 1) (insG K g m)) := valsE_ins n K g m hK
    have hold : (Builtin.firstCells im.size K (.slice (some ⟨ob, 0, none⟩) K n)).run Tryz.prog w.drew = .ok (valsE mkC K g).toArray w.drew := by
      rw [hm1]
      exact run_firstCells_some w.drew 2 K ⟨ob, 0, none⟩ K n (valsE mkC K g) hlK (fun j v hj => RdE.newsE mkC_len (ho.first (Nat.le_of_lt hlt)) j v hj)
    have hra : ∀ ty, (Builtin.append_ #[59, 3] ty #[.slice (some ⟨ob, 0, none⟩) K n, .int .i64 ((n : Int) + 1 - (K : Int))]).run Tryz.prog w = .ok (.slice (some ⟨w.heap.size, 0, none⟩) (n + 1) (grownCap w (n + 1) n 66)) (w.drew.alloc (.cells ((valsE mkC K g).toArray ++ Builtin.zeroCells #[.int .i64 0, .int .i64 0] (n + 1 - K) ++ Builtin.zeroCells #[.int .i64 0, .int .i64 0] (grownCap w (n + 1) n 66 - (n + 1))) 66)) := fun ty => by
      have h := Lib.run_append_grow_zeros w 59 3 ty 66 im _ .i64 .i64 Tryz.underlying59 Tryz.underlying3 him hm0 (some ⟨ob, 0, none⟩) K n (valsE mkC K g) hold (n + 1 - K) (by omega) (by omega) (by omega) (by omega) (by rw [hm2]; omega) (by rw [hm2, show K + (n + 1 - K) = n + 1 by omega]; exact growslice_fits (by omega) (by omega))
      rw [show K + (n + 1 - K) = n + 1 by omega] at h
      rw [show (n : Int) + 1 - (K : Int) = ((n + 1 - K : Nat) : Int) by omega]
      exact h
    have hGn : n + 1 ≤ grownCap w (n + 1) n 66 := grownCap_ge w _ _ _
    generalize hG : grownCap w (n + 1) n 66 = G at hra hGn
    clear hG hold
    obtain ⟨ROW, hROW⟩ : ∃ ROW : Array Value, ROW = (valsE mkC K g).toArray ++ Builtin.zeroCells #[.int .i64 0, .int .i64 0] (n + 1 - K) ++ Builtin.zeroCells #[.int .i64 0, .int .i64 0] (G - (n + 1)) := ⟨_, rfl⟩
    rw [← hROW] at hra
    have hRs : (n + 1) * 2 ≤ ROW.size := by rw [hROW]; simp [Builtin.zeroCells, hlK]; omega
    have hRt : ROW.toList.take (K * 2) = valsE mkC K g := by rw [hROW]; simp [hlK]
    obtain ⟨W1, hW1⟩ : ∃ W1, W1 = w.alloc (.cells ROW 66) := ⟨_, rfl⟩
    have x1 : BoxR W1 w.heap.size 66 ROW := by rw [hW1]; exact boxR_new _ _ _
    have b1 : Below w.heap.size w W1 := by rw [hW1]; exact (Below.refl _ w).alloc (Nat.le_refl _) _
    replace hra : ∀ ty, (Builtin.append_ #[59, 3] ty #[.slice (some ⟨ob, 0, none⟩) K n, .int .i64 ((n : Int) + 1 - (K : Int))]).run Tryz.prog w = .ok (.slice (some ⟨w.heap.size, 0, none⟩) (n + 1) G) W1.drew := fun ty => by rw [hra ty, hW1]; rfl
    have hvW : ∀ j v, (mkC m)[j]? = some v → W1.drew.cell? ((⟨vb, 0, none⟩ : Addr).add j) = some v := fun j v hj => World.cellN (hv j v hj) b1.drew
    have hmin1 : Nat.min 1 (n + 1 - K) = 1 := by simp only [Nat.min_def]; split <;> omega
    have hminD : Nat.min (n - K) (n + 1 - (K + 1)) = n - K := by simp only [Nat.min_def]; split <;> omega
    have hcA : ∀ ty dc, (Builtin.copy_ #[59, 59] ty #[.slice (some ⟨w.heap.size, K * 2, none⟩) (n + 1 - K) dc, .slice (some ⟨vb, 0, none⟩) 1 1]).run Tryz.prog W1.drew = .ok (goInt 1) (W1.drew.setRow w.heap.size (valsE mkC K g ++ mkC m ++ ROW.toList.drop (K * 2 + 2)).toArray) := fun ty dc => by
      have h := run_copy_rowM (P := Tryz.prog) W1.drew 59 59 ty 66 w.heap.size (K * 2) (n + 1 - K) dc 2 ⟨vb, 0, none⟩ 1 1 ROW 66 (mkC m) Tryz.underlying59 hsz x1 (by rw [hmin1, mkC_len]) hvW (by rw [mkC_len]; omega) (fun v hv => by simp only [mkC, List.mem_cons, List.mem_nil_iff, or_false] at hv; rcases hv with rfl | rfl <;> rfl)
      rw [hmin1, hRt, mkC_len] at h
      exact h
    obtain ⟨ROW2, hROW2⟩ : ∃ ROW2 : Array Value, ROW2 = (valsE mkC K g ++ mkC m ++ ROW.toList.drop (K * 2 + 2)).toArray := ⟨_, rfl⟩
    rw [← hROW2] at hcA
    have hR2s : (n + 1) * 2 ≤ ROW2.size := by rw [hROW2]; simp [hlK, mkC_len]; omega
    have hR2t : ROW2.toList.take ((K + 1) * 2) = valsE mkC K g ++ mkC m := by
      rw [hROW2]
      exact List.take_left' (by rw [List.length_append, hlK, mkC_len]; omega)
    obtain ⟨W2, hW2⟩ : ∃ W2, W2 = W1.setRow w.heap.size ROW2 := ⟨_, rfl⟩
    have x2 : BoxR W2 w.heap.size 66 ROW2 := by rw [hW2]; exact setRow_heap _ _ _ _ _ _ x1
    have b2 : Below w.heap.size w W2 := by rw [hW2]; exact below_setRow b1 (Nat.le_refl _) _
    replace hcA : ∀ ty dc, (Builtin.copy_ #[59, 59] ty #[.slice (some ⟨w.heap.size, K * 2, none⟩) (n + 1 - K) dc, .slice (some ⟨vb, 0, none⟩) 1 1]).run Tryz.prog W1.drew = .ok (goInt 1) W2.drew := fun ty dc => by rw [hcA ty dc, hW2]; rfl
    have hsrc : ∀ U : World, Below w.heap.size w U → ∀ j v, (valsE mkC (n - K) (fun j => g (K + j)))[j]? = some v → U.cell? ((⟨ob, K * 2, none⟩ : Addr).add j) = some v := fun U hU j v hj => by
      rcases ho with h0 | ⟨o1, e1, h1⟩
      · omega
      · simp only [Option.some.injEq, Addr.mk.injEq, and_true, true_and] at e1
        subst e1
        have hjl := (List.getElem?_eq_some_iff.1 hj).1
        rw [hlD] at hjl
        have hj2 : j = (j / 2) * 2 + j % 2 := by omega
        rw [hj2, valsE_get mkC_len _ _ (j / 2) (j % 2) (by omega) (by omega)] at hj
        have := World.cellN (h1 (K + j / 2) (by omega) (j % 2) v hj) hU
        rw [show ((⟨ob, K * 2, none⟩ : Addr).add j) = ⟨ob, 0 + (K + j / 2) * 2 + j % 2, none⟩ by simp only [Addr.add_lit]; congr 1; omega]
        exact this
    have hcB : ∀ (U : World), Below w.heap.size w U → BoxR U w.heap.size 66 ROW2 → ∀ ty dc sc, (Builtin.copy_ #[59, 59] ty #[.slice (some ⟨w.heap.size, (K + 1) * 2, none⟩) (n + 1 - (K + 1)) dc, .slice (some ⟨ob, K * 2, none⟩) (n - K) sc]).run Tryz.prog U = .ok (goInt ((n - K : Nat) : Int)) (U.setRow w.heap.size (valsE mkC (n + 1) (insG K g m) ++ ROW2.toList.drop ((K + 1) * 2 + (n - K) * 2)).toArray) := fun U hU xU ty dc sc => by
      have h := run_copy_rowM (P := Tryz.prog) U 59 59 ty 66 w.heap.size ((K + 1) * 2) (n + 1 - (K + 1)) dc 2 ⟨ob, K * 2, none⟩ (n - K) sc ROW2 66 (valsE mkC (n - K) (fun j => g (K + j))) Tryz.underlying59 hsz xU (by rw [hminD, hlD]) (hsrc U hU) (by rw [hlD]; omega) (fun v hv => mkC_one _ _ v hv)
      rw [hminD, hR2t, hlD, hsp.out] at h
      exact h
    clear hRt hR2t hsrc hvW hROW hROW2 hW1 hW2 hnews hl hlK hlD hsz ho hv
    have hz2 : ¬ ((K : Int) = (n : Int)) := by omega
    have hz3 : (n : Int) < (n : Int) + 1 := by omega
    have hGi : ¬ (G = K) := by omega
    have hGim : ¬ (G = K + 1) := by omega
    have hci : ¬ (n = K) := by omega
    have hw1 : IntKind.i64.wrap ((K : Int) + 1) = (K : Int) + 1 := by rw [IntKind.wrap_i64]; omega
    have hb1 : (0 : Int) ≤ (K : Int) + 1 := by omega
    have htn : ((K : Int) + 1).toNat = K + 1 := by omega
    have hb3 : (K : Int) ≤ (n : Int) := by omega
    go_enter Tryz.func30, Tryz.ntmps30
    go_upto_region 11 with first | (at_builtin; refine Lib.wpList_append_run _ rfl _ _ _ _ rfl _ _ rfl rfl _ _ (hra _) ?_) | (at_builtin; refine wpList_copyM rfl _ _ 59 rfl _ _ rfl rfl (hcA _ _) ?_)
    refine wp_region_held_drew (S := fun u : World => True) (by kernel_rfl) trivial (fun hHeld => ?_)
    have x3 : BoxR W2.drew.drew w.heap.size 66 ROW2 := x2
    have b3 : Below w.heap.size w W2.drew.drew := b2.drew.drew
    generalize W2.drew.drew = U at x3 b3 hHeld ⊢
    clear hra hcA x1 x2 b1 b2
    refine wpAnyH_take (i := 0) (oi := ⟨some 46, _, _, _, _, _⟩) (v := .slice (some ⟨w.heap.size, 0, none⟩) (n + 1) G) rfl (by kernel_rfl) (by kernel_rfl) (by kernel_rfl) (fun _ _ _ h => h) (Or.inl ⟨by kernel_rfl, fun u hSu => by clear hSu; go_simp⟩) hHeld ?_
    try simp only [Act.put, List.setIfInBounds_toArray, List.set_cons_zero, List.set_cons_succ]
    refine wpAnyH_take (i := 1) (oi := ⟨some 47, _, _, _, _, _⟩) (v := .int .i64 (K : Int)) rfl (by kernel_rfl) (by kernel_rfl) (by kernel_rfl) (fun _ _ _ h => h) (Or.inl ⟨by kernel_rfl, fun u hSu => by clear hSu; go_simp⟩) hHeld ?_
    try simp only [Act.put, List.setIfInBounds_toArray, List.set_cons_zero, List.set_cons_succ]
    refine wpAnyH_take (i := 2) (oi := ⟨some 48, _, _, _, _, _⟩) (v := .int .i64 1) rfl (by kernel_rfl) (by kernel_rfl) (by kernel_rfl) (fun _ _ _ h => h) (Or.inl ⟨by kernel_rfl, fun u hSu => by clear hSu; go_simp⟩) hHeld ?_
    try simp only [Act.put, List.setIfInBounds_toArray, List.set_cons_zero, List.set_cons_succ]
    refine wpAnyH_take (i := 3) (oi := ⟨some 49, _, _, _, _, _⟩) (v := .int .i64 ((K : Int) + 1)) rfl (by kernel_rfl) (by kernel_rfl) (by kernel_rfl) (fun _ _ _ h => h) (Or.inl ⟨by kernel_rfl, fun u hSu => by clear hSu; go_simp⟩) hHeld ?_
    try simp only [Act.put, List.setIfInBounds_toArray, List.set_cons_zero, List.set_cons_succ]
    refine wpAnyH_take (i := 4) (oi := ⟨some 50, _, _, _, _, _⟩) (v := .slice (some ⟨w.heap.size, (K + 1) * 2, none⟩) (n + 1 - (K + 1)) (G - (K + 1))) rfl (by kernel_rfl) (by kernel_rfl) (by kernel_rfl) (fun _ _ _ h => h) (Or.inl ⟨by kernel_rfl, fun u hSu => by clear hSu; go_simp⟩) hHeld ?_
    try simp only [Act.put, List.setIfInBounds_toArray, List.set_cons_zero, List.set_cons_succ]
    refine wpAnyH_take (i := 5) (oi := ⟨some 51, _, _, _, _, _⟩) (v := .slice (some ⟨ob, 0, none⟩) n n) rfl (by kernel_rfl) (by kernel_rfl) (by kernel_rfl) (fun _ _ _ h => h) (Or.inl ⟨by kernel_rfl, fun u hSu => by clear hSu; go_simp⟩) hHeld ?_
    try simp only [Act.put, List.setIfInBounds_toArray, List.set_cons_zero, List.set_cons_succ]
    refine wpAnyH_take (i := 6) (oi := ⟨some 52, _, _, _, _, _⟩) (v := .int .i64 (K : Int)) rfl (by kernel_rfl) (by kernel_rfl) (by kernel_rfl) (fun _ _ _ h => h) (Or.inl ⟨by kernel_rfl, fun u hSu => by clear hSu; go_simp⟩) hHeld ?_
    try simp only [Act.put, List.setIfInBounds_toArray, List.set_cons_zero, List.set_cons_succ]
    refine wpAnyH_take (i := 7) (oi := ⟨some 53, _, _, _, _, _⟩) (v := .slice (some ⟨ob, K * 2, none⟩) (n - K) (n - K)) rfl (by kernel_rfl) (by kernel_rfl) (by kernel_rfl) (fun _ _ _ h => h) (Or.inl ⟨by kernel_rfl, fun u hSu => by clear hSu; go_simp⟩) hHeld ?_
    try simp only [Act.put, List.setIfInBounds_toArray, List.set_cons_zero, List.set_cons_succ]
    refine wpAnyH_ready (rs := [8]) (by kernel_rfl) (by simp) ?_
    refine AllReadyH.cons (o := ⟨some 54, _, _, _, _, _⟩) rfl (fun K' hK' => ?_) AllReadyH.nil
    rw [if_pos (by kernel_rfl)]
    refine wp_copyM (.tmp 50) (.tmp 53) 59 rfl _ _ rfl rfl (hcB U b3 x3 _ _ _) ?_
    have x4 : BoxR (U.setRow w.heap.size (valsE mkC (n + 1) (insG K g m) ++ ROW2.toList.drop ((K + 1) * 2 + (n - K) * 2)).toArray) w.heap.size 66 (valsE mkC (n + 1) (insG K g m) ++ ROW2.toList.drop ((K + 1) * 2 + (n - K) * 2)).toArray := setRow_heap _ _ _ _ _ _ x3
    have b4 := below_setRow b3 (Nat.le_refl w.heap.size) (valsE mkC (n + 1) (insG K g m) ++ ROW2.toList.drop ((K + 1) * 2 + (n - K) * 2)).toArray
    generalize U.setRow w.heap.size (valsE mkC (n + 1) (insG K g m) ++ ROW2.toList.drop ((K + 1) * 2 + (n - K) * 2)).toArray = V at x4 b4 ⊢
    refine hK'.out _ _ trivial (fun hHeld => ?_)
    try simp only [Act.put, List.setIfInBounds_toArray, List.set_cons_zero, List.set_cons_succ]
    refine wpAnyH_done (by kernel_rfl) ?_ _
    clear hHeld hK' hcB x3 b3
    have hR := rdE_prefix x4 rfl
    clear x4
    go_wp2
    go_ret
    exact ⟨w.heap.size, G, rfl, b4, hR, Nat.le_refl _⟩
end Go.Proofs.YtodfdfncdoliiauGreat
