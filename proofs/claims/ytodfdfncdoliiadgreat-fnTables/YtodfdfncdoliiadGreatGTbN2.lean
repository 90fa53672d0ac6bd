/-
  Chapter 11, the program: slices.Insert of one mark into a row without room. Written by tools/tai.gen.py. Chapter 11, the program: Install. Written by tools/tai.gen.py. Own work.
-/
import Derived.Test.YtodfdfncdoliiadGreatGEfC3
import Derived.Lib.AppendZeros
import Derived.Lib.AppendZerosOnto
import Derived.Deep.DeepCutAuto
import Derived.Deep.CutBlock
import Derived.Deep.RegionHeld
import Derived.Deep.RegionHeldLaw
import Derived.Deep.MidRow
import Derived.Laws.OwnMore
import Derived.Test.YtodfdfncdoliiadGreatGTbC5
import Derived.Test.YtodfdfncdoliiadGreatTbE
import Derived.Test.YtodfdfncdoliiadGreatGTaJ4
import Derived.Test.YtodfdfncdoliiadGreatTbM
namespace Go.Proofs.YtodfdfncdoliiadGreat
open Go.ChangeShapes Go.WideShapes Go.ChangeAt Go.RowKit
set_option maxRecDepth 100000
set_option linter.unusedVariables false
set_option linter.unusedSimpArgs false

theorem World.cellN {w w' : World} {a : Addr} {v : Value} (h : w.cell? a = some v) (hb : Below w.heap.size w w') : w'.cell? a = some v := (World.cell?_of_block (w := w) (a := a) (hb.block a.block (World.block_lt_of_cell? w _ h))).trans h
/-- 'copy(d, s)', its run known, at the operation -/
theorem wp_copyM {P : Program} {w : World} {o : Oper} {a : Act} {K' : Act → World → Prop} {Q : Exit → Act → World → Prop} (d x : Operand) (t : TypeId)
    (hop : o.op = Op.call { callee := Callee.builtin Builtin.copy, args := #[d, x], argTypes := #[t, t] }) (vd vx : Value) (hd : a.eval d = vd) (hx : a.eval x = vx) {v' : Value} {w' : World}
    (hr : (Builtin.copy_ #[t, t] o.type #[vd, vx]).run P w = .ok v' w') (hK : K' (a.put o.dst v') w') : o.wp P a w K' Q := by
  unfold Oper.wp
  simp only [execOp, hop, resolve, invoke, builtin, Sem.run_bind, Sem.run_pure, Result.andThen_ok, List.map_toArray, List.map_cons, List.map_nil, hd, hx, hr]
  exact hK
theorem wpList_copyM {P : Program} {w : World} {ops : Array Oper} {rest : List Oper} {o : Oper} {a : Act} {Q : Exit → Act → World → Prop} (hg : o.guard = none) (d x : Operand) (t : TypeId)
    (hop : o.op = Op.call { callee := Callee.builtin Builtin.copy, args := #[d, x], argTypes := #[t, t] }) (vd vx : Value) (hd : a.eval d = vd) (hx : a.eval x = vx) {v' : Value} {w' : World}
    (hr : (Builtin.copy_ #[t, t] o.type #[vd, vx]).run P w = .ok v' w') (hK : wpList P ops Q rest (a.put o.dst v') w') : wpList P ops Q (o :: rest) a w :=
  wpList_plain hg fun K' hK' => wp_copyM d x t hop vd vx hd hx hr (hK' _ _ hK)
theorem run_copy_rowM {P : Program} (w : World) (dT sT ty elem : TypeId) (g o dLen dCap m : Nat) (a : Addr) (sLen sCap : Nat) (cur : Array Value) (t : TypeId) (cs : List Value)
    (hu : P.underlying dT = some (.slice elem)) (hs : (P.info? elem).map (·.size) = some m)
    (hg : w.heap[g]? = some (.cells cur t (0, 0))) (hn : cs.length = Nat.min sLen dLen * m)
    (hsrc : ∀ j v, cs[j]? = some v → w.cell? (a.add j) = some v) (hfit : o + cs.length ≤ cur.size) (h1 : ∀ v ∈ cs, v.oneCell' = true) :
    (Builtin.copy_ #[dT, sT] ty #[.slice (some ⟨g, o, none⟩) dLen dCap, .slice (some a) sLen sCap]).run P w =
      .ok (goInt (Nat.min sLen dLen)) (w.setRow g (cur.toList.take o ++ cs ++ cur.toList.drop (o + cs.length)).toArray) := by
  have hl := run_loadCells_list (P := P) w a cs hsrc
  have hst := run_storeCells_at P g o t cs 0 cur w hg (by simpa using hfit) h1
  cases hq : P.info? elem with
  | none => simp [hq] at hs
  | some i =>
    have hi : i.size = m := by simpa [hq] using hs
    simp [Builtin.copy_, run_underlying hu, Builtin.lenOf, Builtin.firstCells, sizeOf, typeInfo, hq, hi, ← hn, hl, hst]
def z9 : Array Value := #[.int .i64 0, .int .i64 0, .bool false, .int .i64 0, .int .i64 0, .bool false, .int .i64 0, .int .i64 0, .bool false]
theorem rdE_prefix {w : World} {q t N : Nat} {L tail : List Value} {F : Nat → Int × Int} (h : w.heap[q]? = some (.cells L.toArray t (0, 0))) (hL : L = valsE mkC N F ++ tail) : RdE mkC 2 w q (some ⟨q, 0, none⟩) N F := by
  refine .inr ⟨0, rfl, fun i hi j v hv => ?_⟩
  have hj : j < 2 := by
    have := (List.getElem?_eq_some_iff.1 hv).1
    rw [mkC_len] at this
    exact this
  have hc := cell_of_row w q (0 + i * 2 + j) _ t (0, 0) h
  rw [hc, hL]
  simp only [List.getElem?_toArray, Nat.zero_add]
  rw [List.getElem?_append_left (by rw [valsE_len mkC_len]; omega), valsE_get mkC_len N F i j hi hj]
  exact hv
theorem valsE_ins (n K : Nat) (g : Nat → Int × Int) (m : Int × Int) (hK : K ≤ n) : valsE mkC K g ++ mkC m ++ valsE mkC (n - K) (fun j => g (K + j)) = valsE mkC (n + 1) (insG K g m) := by
  refine valsE_ext mkC_len (by rw [List.length_append, List.length_append, valsE_len mkC_len, valsE_len mkC_len, mkC_len]; omega) (fun i j hi hj => ?_)
  have hl : (valsE mkC K g).length = K * 2 := valsE_len mkC_len K g
  unfold insG
  by_cases c1 : i < K
  · simp only [if_pos c1]
    rw [List.append_assoc, List.getElem?_append_left (by rw [hl]; omega), valsE_get mkC_len K g i j c1 hj]
  · by_cases c2 : i = K
    · subst c2
      simp only [if_neg c1, if_true]
      rw [List.getElem?_append_left (by rw [List.length_append, hl, mkC_len]; omega), List.getElem?_append_right (by rw [hl]; omega), hl, show i * 2 + j - i * 2 = j by omega]
    · simp only [if_neg c1, if_neg c2]
      rw [List.getElem?_append_right (by rw [List.length_append, hl, mkC_len]; omega), List.length_append, hl, mkC_len, show i * 2 + j - (K * 2 + 2) = (i - 1 - K) * 2 + j by omega, valsE_get mkC_len _ _ (i - 1 - K) j (by omega) hj]
      simp only [show K + (i - 1 - K) = i - 1 by omega]
set_option maxHeartbeats 8000000 in
theorem insert_any (ob n K vb : Nat) (g : Nat → Int × Int) (m : Int × Int) (w : World) (ho : RdE mkC 2 w ob (some ⟨ob, 0, none⟩) n g) (hob : ob < w.heap.size) (hK : K ≤ n) (hn : n ≤ 4) (hv : ∀ j v, (mkC m)[j]? = some v → w.cell? ((⟨vb, 0, none⟩ : Addr).add j) = some v) (hvb : vb < w.heap.size) :
    Calls Tryz.prog 92 #[.slice (some ⟨ob, 0, none⟩) n n, .int .i64 (K : Int), .slice (some ⟨vb, 0, none⟩) 1 1] w fun e w' => ∃ q c : Nat, e = .returned (.slice (some ⟨q, 0, none⟩) (n + 1) c) ∧ Below w.heap.size w w' ∧ RdE mkC 2 w' q (some ⟨q, 0, none⟩) (n + 1) (insG K g m) ∧ w.heap.size ≤ q := by
  have m_ : Tryz.prog.follows Departure.mixedOrders = true := by kernel_rfl
  obtain ⟨im, him, hm0, hm1, hm2⟩ := info_parts Tryz.infoMk
  have hsz : (Tryz.prog.info? 117).map (·.size) = some 2 := by rw [him]; simp [hm1]
  have hnews := RdE.newsE mkC_len ho
  have hl := valsE_len (n := n) (f := g) mkC_len
  by_cases hKn : K = n
  case pos =>
    subst hKn
    have hsp := valsE_ins K K g m (Nat.le_refl _)
    rw [Nat.sub_self, show valsE mkC 0 (fun j => g (K + j)) = [] from rfl, List.append_nil] at hsp
    have hra : ∀ ty, (Builtin.append_ #[111, 111] ty #[.slice (some ⟨ob, 0, none⟩) K K, .slice (some ⟨vb, 0, none⟩) 1 1]).run Tryz.prog w = _ := fun ty => run_append_grow w 111 ty 117 im _ Tryz.underlying111 him hm0 ⟨ob, 0, none⟩ K K (valsE mkC K g) (by rw [hl, hm1]) hnews ⟨vb, 0, none⟩ 1 1 (mkC m) (by rw [mkC_len, hm1]) hv (by omega) (by omega) (by rw [hm2]; exact growslice_fits (by omega) (by omega))
    generalize hG : grownCap w (K + 1) K 117 = G at hra
    clear hG hnews hl
    go_enter Tryz.func92, Tryz.ntmps92
    go_wp2_with (at_builtin; refine Lib.wpList_append_run _ rfl _ _ _ _ rfl _ _ rfl rfl _ _ (hra _) ?_)
    go_ret
    refine ⟨w.heap.size, G, rfl, (Below.refl _ w).drew.alloc (Nat.le_refl _) _, rdE_prefix (t := 117) (tail := (Builtin.zeroCells #[.int .i64 0, .int .i64 0] (G - (K + 1))).toList) (L := valsE mkC (K + 1) (insG K g m) ++ (Builtin.zeroCells #[.int .i64 0, .int .i64 0] (G - (K + 1))).toList) ?_ rfl, Nat.le_refl _⟩
    rw [show (valsE mkC (K + 1) (insG K g m) ++ (Builtin.zeroCells #[.int .i64 0, .int .i64 0] (G - (K + 1))).toList).toArray = (valsE mkC (K + 1) (insG K g m)).toArray ++ Builtin.zeroCells #[.int .i64 0, .int .i64 0] (G - (K + 1)) from Array.toList_inj.1 (by simp)]
    exact heap_alloc_new w _
  case neg =>
    have hlt : K < n := by omega
    have hlK := valsE_len mkC_len K g
    have hlD := valsE_len mkC_len (n - K) (fun j => g (K + j))
    have hsp : Hid (valsE mkC K g ++ mkC m ++ valsE mkC (n - K) (fun j => g (K + j)) = valsE mkC (n + 1) (insG K g m)) := valsE_ins n K g m hK
    have hold : (Builtin.firstCells im.size K (.slice (some ⟨ob, 0, none⟩) K n)).run Tryz.prog w.drew = .ok (valsE mkC K g).toArray w.drew := by
      rw [hm1]
      exact run_firstCells_some w.drew 2 K ⟨ob, 0, none⟩ K n (valsE mkC K g) hlK (fun j v hj => RdE.newsE mkC_len (ho.first (Nat.le_of_lt hlt)) j v hj)
    have hra : ∀ ty, (Builtin.append_ #[111, 3] ty #[.slice (some ⟨ob, 0, none⟩) K n, .int .i64 ((n : Int) + 1 - (K : Int))]).run Tryz.prog w = .ok (.slice (some ⟨w.heap.size, 0, none⟩) (n + 1) (grownCap w (n + 1) n 117)) (w.drew.alloc (.cells ((valsE mkC K g).toArray ++ Builtin.zeroCells #[.int .i64 0, .int .i64 0] (n + 1 - K) ++ Builtin.zeroCells #[.int .i64 0, .int .i64 0] (grownCap w (n + 1) n 117 - (n + 1))) 117)) := fun ty => by
      have h := Lib.run_append_grow_zeros w 111 3 ty 117 im _ .i64 .i64 Tryz.underlying111 Tryz.underlying3 him hm0 (some ⟨ob, 0, none⟩) K n (valsE mkC K g) hold (n + 1 - K) (by omega) (by omega) (by omega) (by omega) (by rw [hm2]; omega) (by rw [hm2, show K + (n + 1 - K) = n + 1 by omega]; exact growslice_fits (by omega) (by omega))
      rw [show K + (n + 1 - K) = n + 1 by omega] at h
      rw [show (n : Int) + 1 - (K : Int) = ((n + 1 - K : Nat) : Int) by omega]
      exact h
    have hGn : n + 1 ≤ grownCap w (n + 1) n 117 := grownCap_ge w _ _ _
    generalize hG : grownCap w (n + 1) n 117 = G at hra hGn
    clear hG hold
    obtain ⟨ROW, hROW⟩ : ∃ ROW : Array Value, ROW = (valsE mkC K g).toArray ++ Builtin.zeroCells #[.int .i64 0, .int .i64 0] (n + 1 - K) ++ Builtin.zeroCells #[.int .i64 0, .int .i64 0] (G - (n + 1)) := ⟨_, rfl⟩
    rw [← hROW] at hra
    have hRs : (n + 1) * 2 ≤ ROW.size := by rw [hROW]; simp [Builtin.zeroCells, hlK]; omega
    have hRt : ROW.toList.take (K * 2) = valsE mkC K g := by rw [hROW]; simp [hlK]
    obtain ⟨W1, hW1⟩ : ∃ W1, W1 = w.alloc (.cells ROW 117) := ⟨_, rfl⟩
    have x1 : BoxR W1 w.heap.size 117 ROW := by rw [hW1]; exact boxR_new _ _ _
    have b1 : Below w.heap.size w W1 := by rw [hW1]; exact (Below.refl _ w).alloc (Nat.le_refl _) _
    replace hra : ∀ ty, (Builtin.append_ #[111, 3] ty #[.slice (some ⟨ob, 0, none⟩) K n, .int .i64 ((n : Int) + 1 - (K : Int))]).run Tryz.prog w = .ok (.slice (some ⟨w.heap.size, 0, none⟩) (n + 1) G) W1.drew := fun ty => by rw [hra ty, hW1]; rfl
    have hvW : ∀ j v, (mkC m)[j]? = some v → W1.drew.cell? ((⟨vb, 0, none⟩ : Addr).add j) = some v := fun j v hj => World.cellN (hv j v hj) b1.drew
    have hmin1 : Nat.min 1 (n + 1 - K) = 1 := by simp only [Nat.min_def]; split <;> omega
    have hminD : Nat.min (n - K) (n + 1 - (K + 1)) = n - K := by simp only [Nat.min_def]; split <;> omega
    have hcA : ∀ ty dc, (Builtin.copy_ #[111, 111] ty #[.slice (some ⟨w.heap.size, K * 2, none⟩) (n + 1 - K) dc, .slice (some ⟨vb, 0, none⟩) 1 1]).run Tryz.prog W1.drew = .ok (goInt 1) (W1.drew.setRow w.heap.size (valsE mkC K g ++ mkC m ++ ROW.toList.drop (K * 2 + 2)).toArray) := fun ty dc => by
      have h := run_copy_rowM (P := Tryz.prog) W1.drew 111 111 ty 117 w.heap.size (K * 2) (n + 1 - K) dc 2 ⟨vb, 0, none⟩ 1 1 ROW 117 (mkC m) Tryz.underlying111 hsz x1 (by rw [hmin1, mkC_len]) hvW (by rw [mkC_len]; omega) (fun v hv => by simp only [mkC, List.mem_cons, List.mem_nil_iff, or_false] at hv; rcases hv with rfl | rfl <;> rfl)
      rw [hmin1, hRt, mkC_len] at h
      exact h
    obtain ⟨ROW2, hROW2⟩ : ∃ ROW2 : Array Value, ROW2 = (valsE mkC K g ++ mkC m ++ ROW.toList.drop (K * 2 + 2)).toArray := ⟨_, rfl⟩
    rw [← hROW2] at hcA
    have hR2s : (n + 1) * 2 ≤ ROW2.size := by rw [hROW2]; simp [hlK, mkC_len]; omega
    have hR2t : ROW2.toList.take ((K + 1) * 2) = valsE mkC K g ++ mkC m := by
      rw [hROW2]
      exact List.take_left' (by rw [List.length_append, hlK, mkC_len]; omega)
    obtain ⟨W2, hW2⟩ : ∃ W2, W2 = W1.setRow w.heap.size ROW2 := ⟨_, rfl⟩
    have x2 : BoxR W2 w.heap.size 117 ROW2 := by rw [hW2]; exact setRow_heap _ _ _ _ _ _ x1
    have b2 : Below w.heap.size w W2 := by rw [hW2]; exact below_setRow b1 (Nat.le_refl _) _
    replace hcA : ∀ ty dc, (Builtin.copy_ #[111, 111] ty #[.slice (some ⟨w.heap.size, K * 2, none⟩) (n + 1 - K) dc, .slice (some ⟨vb, 0, none⟩) 1 1]).run Tryz.prog W1.drew = .ok (goInt 1) W2.drew := fun ty dc => by rw [hcA ty dc, hW2]; rfl
    have hsrc : ∀ U : World, Below w.heap.size w U → ∀ j v, (valsE mkC (n - K) (fun j => g (K + j)))[j]? = some v → U.cell? ((⟨ob, K * 2, none⟩ : Addr).add j) = some v := fun U hU j v hj => by
      rcases ho with h0 | ⟨o1, e1, h1⟩
      · omega
      · simp only [Option.some.injEq, Addr.mk.injEq, and_true, true_and] at e1
        subst e1
        have hjl := (List.getElem?_eq_some_iff.1 hj).1
        rw [hlD] at hjl
        have hj2 : j = (j / 2) * 2 + j % 2 := by omega
        rw [hj2, valsE_get mkC_len _ _ (j / 2) (j % 2) (by omega) (by omega)] at hj
        have := World.cellN (h1 (K + j / 2) (by omega) (j % 2) v hj) hU
        rw [show ((⟨ob, K * 2, none⟩ : Addr).add j) = ⟨ob, 0 + (K + j / 2) * 2 + j % 2, none⟩ by simp only [Addr.add_lit]; congr 1; omega]
        exact this
    have hcB : ∀ (U : World), Below w.heap.size w U → BoxR U w.heap.size 117 ROW2 → ∀ ty dc sc, (Builtin.copy_ #[111, 111] ty #[.slice (some ⟨w.heap.size, (K + 1) * 2, none⟩) (n + 1 - (K + 1)) dc, .slice (some ⟨ob, K * 2, none⟩) (n - K) sc]).run Tryz.prog U = .ok (goInt ((n - K : Nat) : Int)) (U.setRow w.heap.size (valsE mkC (n + 1) (insG K g m) ++ ROW2.toList.drop ((K + 1) * 2 + (n - K) * 2)).toArray) := fun U hU xU ty dc sc => by
      have h := run_copy_rowM (P := Tryz.prog) U 111 111 ty 117 w.heap.size ((K + 1) * 2) (n + 1 - (K + 1)) dc 2 ⟨ob, K * 2, none⟩ (n - K) sc ROW2 117 (valsE mkC (n - K) (fun j => g (K + j))) Tryz.underlying111 hsz xU (by rw [hminD, hlD]) (hsrc U hU) (by rw [hlD]; omega) (fun v hv => mkC_one _ _ v hv)
      rw [hminD, hR2t, hlD, hsp.out] at h
      exact h
    clear hRt hR2t hsrc hvW hROW hROW2 hW1 hW2 hnews hl hlK hlD hsz ho hv
    have hz2 : ¬ ((K : Int) = (n : Int)) := by omega
    have hz3 : (n : Int) < (n : Int) + 1 := by omega
    have hGi : ¬ (G = K) := by omega
    have hGim : ¬ (G = K + 1) := by omega
    have hci : ¬ (n = K) := by omega
    have hw1 : IntKind.i64.wrap ((K : Int) + 1) = (K : Int) + 1 := by rw [IntKind.wrap_i64]; omega
    have hb1 : (0 : Int) ≤ (K : Int) + 1 := by omega
    have htn : ((K : Int) + 1).toNat = K + 1 := by omega
    have hb3 : (K : Int) ≤ (n : Int) := by omega
    go_enter Tryz.func92, Tryz.ntmps92
    go_upto_region 11 with first | (at_builtin; refine Lib.wpList_append_run _ rfl _ _ _ _ rfl _ _ rfl rfl _ _ (hra _) ?_) | (at_builtin; refine wpList_copyM rfl _ _ 111 rfl _ _ rfl rfl (hcA _ _) ?_)
    refine wp_region_held_drew (S := fun u : World => True) (by kernel_rfl) trivial (fun hHeld => ?_)
    have x3 : BoxR W2.drew.drew w.heap.size 117 ROW2 := x2
    have b3 : Below w.heap.size w W2.drew.drew := b2.drew.drew
    generalize W2.drew.drew = U at x3 b3 hHeld ⊢
    clear hra hcA x1 x2 b1 b2
    refine wpAnyH_take (i := 0) (oi := ⟨some 46, _, _, _, _, _⟩) (v := .slice (some ⟨w.heap.size, 0, none⟩) (n + 1) G) rfl (by kernel_rfl) (by kernel_rfl) (by kernel_rfl) (fun _ _ _ h => h) (Or.inl ⟨by kernel_rfl, fun u hSu => by clear hSu; go_simp⟩) hHeld ?_
    try simp only [Act.put, List.setIfInBounds_toArray, List.set_cons_zero, List.set_cons_succ]
    refine wpAnyH_take (i := 1) (oi := ⟨some 47, _, _, _, _, _⟩) (v := .int .i64 (K : Int)) rfl (by kernel_rfl) (by kernel_rfl) (by kernel_rfl) (fun _ _ _ h => h) (Or.inl ⟨by kernel_rfl, fun u hSu => by clear hSu; go_simp⟩) hHeld ?_
    try simp only [Act.put, List.setIfInBounds_toArray, List.set_cons_zero, List.set_cons_succ]
    refine wpAnyH_take (i := 2) (oi := ⟨some 48, _, _, _, _, _⟩) (v := .int .i64 1) rfl (by kernel_rfl) (by kernel_rfl) (by kernel_rfl) (fun _ _ _ h => h) (Or.inl ⟨by kernel_rfl, fun u hSu => by clear hSu; go_simp⟩) hHeld ?_
    try simp only [Act.put, List.setIfInBounds_toArray, List.set_cons_zero, List.set_cons_succ]
    refine wpAnyH_take (i := 3) (oi := ⟨some 49, _, _, _, _, _⟩) (v := .int .i64 ((K : Int) + 1)) rfl (by kernel_rfl) (by kernel_rfl) (by kernel_rfl) (fun _ _ _ h => h) (Or.inl ⟨by kernel_rfl, fun u hSu => by clear hSu; go_simp⟩) hHeld ?_
    try simp only [Act.put, List.setIfInBounds_toArray, List.set_cons_zero, List.set_cons_succ]
    refine wpAnyH_take (i := 4) (oi := ⟨some 50, _, _, _, _, _⟩) (v := .slice (some ⟨w.heap.size, (K + 1) * 2, none⟩) (n + 1 - (K + 1)) (G - (K + 1))) rfl (by kernel_rfl) (by kernel_rfl) (by kernel_rfl) (fun _ _ _ h => h) (Or.inl ⟨by kernel_rfl, fun u hSu => by clear hSu; go_simp⟩) hHeld ?_
    try simp only [Act.put, List.setIfInBounds_toArray, List.set_cons_zero, List.set_cons_succ]
    refine wpAnyH_take (i := 5) (oi := ⟨some 51, _, _, _, _, _⟩) (v := .slice (some ⟨ob, 0, none⟩) n n) rfl (by kernel_rfl) (by kernel_rfl) (by kernel_rfl) (fun _ _ _ h => h) (Or.inl ⟨by kernel_rfl, fun u hSu => by clear hSu; go_simp⟩) hHeld ?_
    try simp only [Act.put, List.setIfInBounds_toArray, List.set_cons_zero, List.set_cons_succ]
    refine wpAnyH_take (i := 6) (oi := ⟨some 52, _, _, _, _, _⟩) (v := .int .i64 (K : Int)) rfl (by kernel_rfl) (by kernel_rfl) (by kernel_rfl) (fun _ _ _ h => h) (Or.inl ⟨by kernel_rfl, fun u hSu => by clear hSu; go_simp⟩) hHeld ?_
    try simp only [Act.put, List.setIfInBounds_toArray, List.set_cons_zero, List.set_cons_succ]
    refine wpAnyH_take (i := 7) (oi := ⟨some 53, _, _, _, _, _⟩) (v := .slice (some ⟨ob, K * 2, none⟩) (n - K) (n - K)) rfl (by kernel_rfl) (by kernel_rfl) (by kernel_rfl) (fun _ _ _ h => h) (Or.inl ⟨by kernel_rfl, fun u hSu => by clear hSu; go_simp⟩) hHeld ?_
    try simp only [Act.put, List.setIfInBounds_toArray, List.set_cons_zero, List.set_cons_succ]
    refine wpAnyH_ready (rs := [8]) (by kernel_rfl) (by simp) ?_
    refine AllReadyH.cons (o := ⟨some 54, _, _, _, _, _⟩) rfl (fun K' hK' => ?_) AllReadyH.nil
    rw [if_pos (by kernel_rfl)]
    refine wp_copyM (.tmp 50) (.tmp 53) 111 rfl _ _ rfl rfl (hcB U b3 x3 _ _ _) ?_
    have x4 : BoxR (U.setRow w.heap.size (valsE mkC (n + 1) (insG K g m) ++ ROW2.toList.drop ((K + 1) * 2 + (n - K) * 2)).toArray) w.heap.size 117 (valsE mkC (n + 1) (insG K g m) ++ ROW2.toList.drop ((K + 1) * 2 + (n - K) * 2)).toArray := setRow_heap _ _ _ _ _ _ x3
    have b4 := below_setRow b3 (Nat.le_refl w.heap.size) (valsE mkC (n + 1) (insG K g m) ++ ROW2.toList.drop ((K + 1) * 2 + (n - K) * 2)).toArray
    generalize U.setRow w.heap.size (valsE mkC (n + 1) (insG K g m) ++ ROW2.toList.drop ((K + 1) * 2 + (n - K) * 2)).toArray = V at x4 b4 ⊢
    refine hK'.out _ _ trivial (fun hHeld => ?_)
    try simp only [Act.put, List.setIfInBounds_toArray, List.set_cons_zero, List.set_cons_succ]
    refine wpAnyH_done (by kernel_rfl) ?_ _
    clear hHeld hK' hcB x3 b3
    have hR := rdE_prefix x4 rfl
    clear x4
    go_wp2
    go_ret
    exact ⟨w.heap.size, G, rfl, b4, hR, Nat.le_refl _⟩
end Go.Proofs.YtodfdfncdoliiadGreat
namespace Go.Proofs.YtodfdfncdoliiadGreat
open Go.ChangeShapes Go.WideShapes Go.ChangeAt Go.RowKit
set_option maxRecDepth 100000
set_option linter.unusedVariables false
set_option linter.unusedSimpArgs false

/-- a struct read by an operation with a guard that holds -/
theorem wpList_load_rowG {P : Program} {ops : Array Oper} {rest : List Oper} {o : Oper} {a : Act} {w : World} {Q : Exit → Act → World → Prop} (hw : Region.wanted o (yielded ops a.tmps) = true) (ty : TypeId) (x : Operand) (ho : o.op = .load ty x)
    (g : Nat) (hx : a.eval x = .pointer (some ⟨g, 0, none⟩)) (t : TypeId) (cs : Array Value) (fr : Nat × Nat) (d : TypeDesc) (hg : w.heap[g]? = some (.cells cs t fr))
    (hu : P.underlying ty = some d) (hd : (match d with | .struct _ | .array _ _ => true | _ => false) = true) (hi : (P.info? ty).map (·.size) = some cs.size)
    (h : wpList P ops Q rest (a.put o.dst (.agg cs)) w) : wpList P ops Q (o :: rest) a w :=
  wpList_step fun _ hK => by rw [if_pos hw]; exact wp_load_row ty x ho g hx t cs fr d hg hu hd hi (hK _ _ h)
set_option maxHeartbeats 8000000 in
theorem implInstall_any (t : Tb) (x : Ef) (w : World) (hok : t.okW w) (hn : t.n ≤ 1048576) (hx : x.okW w) (hxl : x.ac.ln ≤ 1048577) :
    Calls Tryz.prog 39 #[.slice t.p t.n t.cap, (.agg #[.int .i64 x.id, .int .i64 x.si, .int .i64 x.sr, .int .i64 x.cl, .int .i64 x.pt.kd, .int .i64 x.pt.wh, .int .i64 x.pt.sr, .int .i64 x.pt.tr, .int .i64 x.pt.pi, .int .i64 x.pt.le, .int .i64 x.pt.zo, .int .i64 x.gd.kd, .int .i64 x.gd.nn, .int .i64 x.ac.kd, .int .i64 x.ac.nn, .int .i64 x.ac.pi, .int .i64 x.ac.si, .int .i64 x.ac.zo, .bool x.ac.be, .slice x.ac.la x.ac.ln x.ac.lcap, .int .i64 x.un, .int .i64 x.le])] w fun e w' => ∃ q : Tb, e = .returned (.tuple #[.slice q.p q.n q.cap, .bool (inOk t.n t.f x)]) ∧ Below w.heap.size w w' ∧ AnsT w' w.heap.size q (inN t.n t.f x) (inF t.n t.f x) := by
  have hf := hok.2.2.2
  replace hn : t.n ≤ 1048577 := by omega
  have bx := boxR_new w 32 #[.int .i64 x.id, .int .i64 x.si, .int .i64 x.sr, .int .i64 x.cl, .int .i64 x.pt.kd, .int .i64 x.pt.wh, .int .i64 x.pt.sr, .int .i64 x.pt.tr, .int .i64 x.pt.pi, .int .i64 x.pt.le, .int .i64 x.pt.zo, .int .i64 x.gd.kd, .int .i64 x.gd.nn, .int .i64 x.ac.kd, .int .i64 x.ac.nn, .int .i64 x.ac.pi, .int .i64 x.ac.si, .int .i64 x.ac.zo, .bool x.ac.be, .slice x.ac.la x.ac.ln x.ac.lcap, .int .i64 x.un, .int .i64 x.le]
  have hb0 := below_new2'' w (.cells #[.int .i64 x.id, .int .i64 x.si, .int .i64 x.sr, .int .i64 x.cl, .int .i64 x.pt.kd, .int .i64 x.pt.wh, .int .i64 x.pt.sr, .int .i64 x.pt.tr, .int .i64 x.pt.pi, .int .i64 x.pt.le, .int .i64 x.pt.zo, .int .i64 x.gd.kd, .int .i64 x.gd.nn, .int .i64 x.ac.kd, .int .i64 x.ac.nn, .int .i64 x.ac.pi, .int .i64 x.ac.si, .int .i64 x.ac.zo, .bool x.ac.be, .slice x.ac.la x.ac.ln x.ac.lcap, .int .i64 x.un, .int .i64 x.le] 32)
  go_enter Tryz.func39, Tryz.ntmps39
  go_wp2_with fail
  generalize w.alloc (.cells #[.int .i64 x.id, .int .i64 x.si, .int .i64 x.sr, .int .i64 x.cl, .int .i64 x.pt.kd, .int .i64 x.pt.wh, .int .i64 x.pt.sr, .int .i64 x.pt.tr, .int .i64 x.pt.pi, .int .i64 x.pt.le, .int .i64 x.pt.zo, .int .i64 x.gd.kd, .int .i64 x.gd.nn, .int .i64 x.ac.kd, .int .i64 x.ac.nn, .int .i64 x.ac.pi, .int .i64 x.ac.si, .int .i64 x.ac.zo, .bool x.ac.be, .slice x.ac.la x.ac.ln x.ac.lcap, .int .i64 x.un, .int .i64 x.le] 32) = W0 at hb0 bx ⊢
  have hok0 := hok.grew hb0
  have hW0 := hb0.size
  have ntw0 := bx.lt
  refine (tableOf_any t W0 hok0 hn).mono ?_
  rintro e u1 ⟨mb, qb, rfl, hb1, M1, l1, nqm, o1⟩
  replace bx := bx.grew hb1
  have hB := below_app hb0 hb1 hb0.size
  have z0 := boxR_new u1 113 #[.map none, .slice none 0 0]
  have zb := below_setRow (below_new2'' u1 (.cells #[.map none, .slice none 0 0] 113)) (Nat.le_refl _) (#[.map (some mb), .slice (some ⟨qb, 0, none⟩) t.n t.n] : Array Value)
  have z1 : BoxR ((u1.alloc (.cells #[.map none, .slice none 0 0] 113)).setRow u1.heap.size #[.map (some mb), .slice (some ⟨qb, 0, none⟩) t.n t.n]) u1.heap.size 113 #[.map (some mb), .slice (some ⟨qb, 0, none⟩) t.n t.n] := setRow_heap _ _ _ _ _ _ z0
  have ntm := M1.lt
  have ntw := hB.size
  go_upto_region 2 with (refine wpList_store_row rfl 113 (.tmp 6) _ rfl u1.heap.size _ (by rfl) (by rfl) _ _ z0 (by kernel_rfl) (by rfl) (by simp [Value.oneCell']) ?_)
  generalize hU : (u1.alloc (.cells #[.map none, .slice none 0 0] 113)).setRow u1.heap.size #[.map (some mb), .slice (some ⟨qb, 0, none⟩) t.n t.n] = U at zb z1 ⊢
  replace M1 := M1.grew zb
  replace o1 := o1.grew zb
  replace bx := bx.grew zb
  replace hB := below_app hB zb hB.size
  replace ntm : u1.heap.size ≠ mb := by omega
  generalize u1.heap.size = tb at z1 ntm ntw ⊢
  clear z0 zb hU hb1 hb0
  replace l1 : w.heap.size ≤ mb := by omega
  replace o1 := o1.rebaseT hW0
  clear hok0 hW0 ntw0
  go_wp2_with fail
  refine (implTableOk_any t _ (hok.grew hB)).mono ?_
  rintro e u2 ⟨rfl, hb2⟩
  replace M1 := M1.grew hb2
  replace o1 := o1.grew hb2
  replace z1 := z1.grew hb2
  replace bx := bx.grew hb2
  replace hB := below_app hB hb2 hB.size
  clear hb2
  cases hT : okTb t.n t.f
  case false =>
    have HI : Hid (inOk t.n t.f x = false) := inOk_no (fun h => by rw [h.1] at hT; cases hT)
    have HN : Hid (inN t.n t.f x = t.n) := (by unfold inN; rw [HI.out]; rfl : inN t.n t.f x = t.n)
    have HF : Hid (inF t.n t.f x = t.f) := (by unfold inF; rw [HI.out]; rfl : inF t.n t.f x = t.f)
    have sel := sel_same (t.f 0) t.f t.n
    have hsel : ∀ i, i < t.n → ∀ y, tabM t.f t.n (mkAt t.f i) = some y → y.okW u2 ∧ y.ac.ln ≤ 1048577 := fun i hi y hy => by
      obtain ⟨j, hj, _, rfl⟩ := tabM_some t.f hy
      exact sel_ok hf hB j hj
    clear bx
    go_wp2_with (refine wpList_load_row rfl 113 _ rfl tb (by rfl) _ _ _ _ z1 Tryz.underlying113 rfl (by kernel_rfl) ?_)
    refine (list_any (tabM t.f t.n) (mkAt t.f) (t.f 0) mb qb (some ⟨qb, 0, none⟩) t.n t.n _ M1 o1.rd (by omega) hsel).mono ?_
    rintro e u9 ⟨v, g', rfl, hb9, B9⟩
    have hB9 := below_app hB hb9 hB.size
    have B8 := (B9.down hB.size).congr (g' := g') (f' := t.f) (fun i hi => rfl) (fun i hi => sel.2 i (by rw [← sel.1]; exact hi))
    rw [sel.1] at B8
    obtain ⟨q, rfl, hq⟩ := B8.ans
    clear M1 o1 z1 hsel B9 hb9
    go_wp2
    go_ret2
    rw [HI.out, HN.out, HF.out]
    exact ⟨q, rfl, hB9, hq⟩
  case true =>
    by_cases h5 : t.n < 5
    case neg =>
      have y5 : ¬ (t.n : Int) < 5 := by omega
      have HI : Hid (inOk t.n t.f x = false) := inOk_no (fun h => by exact h5 h.2.1)
      have HN : Hid (inN t.n t.f x = t.n) := (by unfold inN; rw [HI.out]; rfl : inN t.n t.f x = t.n)
      have HF : Hid (inF t.n t.f x = t.f) := (by unfold inF; rw [HI.out]; rfl : inF t.n t.f x = t.f)
      have sel := sel_same (t.f 0) t.f t.n
      have hsel : ∀ i, i < t.n → ∀ y, tabM t.f t.n (mkAt t.f i) = some y → y.okW u2 ∧ y.ac.ln ≤ 1048577 := fun i hi y hy => by
        obtain ⟨j, hj, _, rfl⟩ := tabM_some t.f hy
        exact sel_ok hf hB j hj
      clear bx
      go_wp2_with (refine wpList_load_row rfl 113 _ rfl tb (by rfl) _ _ _ _ z1 Tryz.underlying113 rfl (by kernel_rfl) ?_)
      refine (list_any (tabM t.f t.n) (mkAt t.f) (t.f 0) mb qb (some ⟨qb, 0, none⟩) t.n t.n _ M1 o1.rd (by omega) hsel).mono ?_
      rintro e u9 ⟨v, g', rfl, hb9, B9⟩
      have hB9 := below_app hB hb9 hB.size
      have B8 := (B9.down hB.size).congr (g' := g') (f' := t.f) (fun i hi => rfl) (fun i hi => sel.2 i (by rw [← sel.1]; exact hi))
      rw [sel.1] at B8
      obtain ⟨q, rfl, hq⟩ := B8.ans
      clear M1 o1 z1 hsel B9 hb9
      go_wp2
      go_ret2
      rw [HI.out, HN.out, HF.out]
      exact ⟨q, rfl, hB9, hq⟩
    case pos =>
      have y5 : (t.n : Int) < 5 := by omega
      go_wp2_with (refine wpList_load_rowG (by kernel_rfl) 32 _ rfl w.heap.size (by rfl) _ _ _ _ bx Tryz.underlying32 rfl (by kernel_rfl) ?_)
      refine (implEffectOk_any x _ (efw_grew hx hB) hxl).mono ?_
      rintro e u3 ⟨rfl, hb2⟩
      replace M1 := M1.grew hb2
      replace o1 := o1.grew hb2
      replace z1 := z1.grew hb2
      replace bx := bx.grew hb2
      replace hB := below_app hB hb2 hB.size
      clear hb2
      cases hE : okEf x
      case false =>
        have HI : Hid (inOk t.n t.f x = false) := inOk_no (fun h => by rw [h.2.2.1] at hE; cases hE)
        have HN : Hid (inN t.n t.f x = t.n) := (by unfold inN; rw [HI.out]; rfl : inN t.n t.f x = t.n)
        have HF : Hid (inF t.n t.f x = t.f) := (by unfold inF; rw [HI.out]; rfl : inF t.n t.f x = t.f)
        have sel := sel_same (t.f 0) t.f t.n
        have hsel : ∀ i, i < t.n → ∀ y, tabM t.f t.n (mkAt t.f i) = some y → y.okW u3 ∧ y.ac.ln ≤ 1048577 := fun i hi y hy => by
          obtain ⟨j, hj, _, rfl⟩ := tabM_some t.f hy
          exact sel_ok hf hB j hj
        clear bx
        go_wp2_with (refine wpList_load_row rfl 113 _ rfl tb (by rfl) _ _ _ _ z1 Tryz.underlying113 rfl (by kernel_rfl) ?_)
        refine (list_any (tabM t.f t.n) (mkAt t.f) (t.f 0) mb qb (some ⟨qb, 0, none⟩) t.n t.n _ M1 o1.rd (by omega) hsel).mono ?_
        rintro e u9 ⟨v, g', rfl, hb9, B9⟩
        have hB9 := below_app hB hb9 hB.size
        have B8 := (B9.down hB.size).congr (g' := g') (f' := t.f) (fun i hi => rfl) (fun i hi => sel.2 i (by rw [← sel.1]; exact hi))
        rw [sel.1] at B8
        obtain ⟨q, rfl, hq⟩ := B8.ans
        clear M1 o1 z1 hsel B9 hb9
        go_wp2
        go_ret2
        rw [HI.out, HN.out, HF.out]
        exact ⟨q, rfl, hB9, hq⟩
      case true =>
        have c0 : u3.cell? ⟨w.heap.size, 0, none⟩ = some (.int .i64 x.id) := by have := bx.cell 0; simpa using this
        go_wp2_with (refine wpList_load_rowG (by kernel_rfl) 113 _ rfl tb (by rfl) _ _ _ _ z1 Tryz.underlying113 rfl (by kernel_rfl) ?_)
        refine (has_any (tabM t.f t.n) mb _ _ _ x.id _ M1).mono ?_
        rw [has_eaN t.f x.id t.n]
        rintro e u4 ⟨rfl, hb2⟩
        replace M1 := M1.grew hb2
        replace o1 := o1.grew hb2
        replace z1 := z1.grew hb2
        replace bx := bx.grew hb2
        replace hB := below_app hB hb2 hB.size
        clear hb2 c0
        by_cases hh : 0 ≤ eaN t.f x.id t.n
        case pos =>
          rw [decide_eq_true hh]
          have HI : Hid (inOk t.n t.f x = false) := inOk_no (fun h => by exact h.2.2.2 hh)
          have HN : Hid (inN t.n t.f x = t.n) := (by unfold inN; rw [HI.out]; rfl : inN t.n t.f x = t.n)
          have HF : Hid (inF t.n t.f x = t.f) := (by unfold inF; rw [HI.out]; rfl : inF t.n t.f x = t.f)
          have sel := sel_same (t.f 0) t.f t.n
          have hsel : ∀ i, i < t.n → ∀ y, tabM t.f t.n (mkAt t.f i) = some y → y.okW u4 ∧ y.ac.ln ≤ 1048577 := fun i hi y hy => by
            obtain ⟨j, hj, _, rfl⟩ := tabM_some t.f hy
            exact sel_ok hf hB j hj
          clear bx
          go_wp2_with (refine wpList_load_row rfl 113 _ rfl tb (by rfl) _ _ _ _ z1 Tryz.underlying113 rfl (by kernel_rfl) ?_)
          refine (list_any (tabM t.f t.n) (mkAt t.f) (t.f 0) mb qb (some ⟨qb, 0, none⟩) t.n t.n _ M1 o1.rd (by omega) hsel).mono ?_
          rintro e u9 ⟨v, g', rfl, hb9, B9⟩
          have hB9 := below_app hB hb9 hB.size
          have B8 := (B9.down hB.size).congr (g' := g') (f' := t.f) (fun i hi => rfl) (fun i hi => sel.2 i (by rw [← sel.1]; exact hi))
          rw [sel.1] at B8
          obtain ⟨q, rfl, hq⟩ := B8.ans
          clear M1 o1 z1 hsel B9 hb9
          go_wp2
          go_ret2
          rw [HI.out, HN.out, HF.out]
          exact ⟨q, rfl, hB9, hq⟩
        case neg =>
          rw [decide_eq_false hh]
          have hI := inOk_of hT h5 hE hh
          have hno : ∀ j, j < t.n → (t.f j).id ≠ x.id := by
            rcases eaN_cases t.f x.id t.n with ⟨_, hm⟩ | ⟨k, _, he, _, _⟩
            · exact hm
            · rw [he] at hh; omega
          have hasc : ∀ j, j < t.n → ∀ i, i < j → (mkAt t.f i).1 < (mkAt t.f j).1 := fun j hj i hi => asc_of hT j hj i hi
          replace hI : Hid (inOk t.n t.f x = true) := hI
          clear hT hE hh
          have c0 : u4.cell? ⟨w.heap.size, 0, none⟩ = some (.int .i64 x.id) := by have := bx.cell 0; simpa using this
          go_wp2_with fail
          refine (firstOf_any x.id _).mono ?_
          rintro e u5 ⟨rfl, hb2⟩
          replace M1 := M1.grew hb2
          replace o1 := o1.grew hb2
          replace z1 := z1.grew hb2
          replace bx := bx.grew hb2
          replace hB := below_app hB hb2 hB.size
          clear hb2 c0
          have f0 := boxR_new u5 117 #[.int .i64 0, .int .i64 0]
          have zb := below_setRow (below_new2'' u5 (.cells #[.int .i64 0, .int .i64 0] 117)) (Nat.le_refl _) (#[.int .i64 x.id, .int .i64 0] : Array Value)
          have f1 : BoxR ((u5.alloc (.cells #[.int .i64 0, .int .i64 0] 117)).setRow u5.heap.size #[.int .i64 x.id, .int .i64 0]) u5.heap.size 117 #[.int .i64 x.id, .int .i64 0] := setRow_heap _ _ _ _ _ _ f0
          go_upto_region 5 with (refine wpList_store_row rfl 117 (.tmp 8) _ rfl u5.heap.size _ (by rfl) (by rfl) _ _ f0 (by kernel_rfl) (by rfl) (by simp [Value.oneCell']) ?_)
          generalize hU : (u5.alloc (.cells #[.int .i64 0, .int .i64 0] 117)).setRow u5.heap.size #[.int .i64 x.id, .int .i64 0] = V1 at zb f1 ⊢
          replace M1 := M1.grew zb
          replace o1 := o1.grew zb
          replace z1 := z1.grew zb
          replace bx := bx.grew zb
          replace hB := below_app hB zb hB.size
          generalize u5.heap.size = fb at f1 ⊢
          clear f0 zb hU
          have k0 : V1.cell? ⟨tb, 0, none⟩ = some (.map (some mb)) := by have := z1.cell 0; simpa using this
          go_upto_region 6 with first | (refine wpList_load_row rfl 117 _ rfl fb (by rfl) _ _ _ _ f1 Tryz.underlying117 rfl (by kernel_rfl) ?_) | (refine wpList_load_row rfl 32 _ rfl w.heap.size (by rfl) _ _ _ _ bx Tryz.underlying32 rfl (by kernel_rfl) ?_) | (refine wpList_putM _ rfl (.tmp 36) (.tmp 37) (.tmp 38) 110 rfl keyM Tryz.underlying110 rfl M1 (x.id, 0) rfl (efV x) rfl ?_; intro V2 M2 wr2)
          rw [putE_val] at M2
          replace z1 := z1.wrote wr2
          replace f1 := f1.wrote wr2
          replace o1 := o1.wrote wr2 nqm
          replace hB := hB.trans (wr2.below l1)
          clear wr2 k0 M1 bx
          have k1 : V2.cell? ⟨tb, 1, none⟩ = some (.slice (some ⟨qb, 0, none⟩) t.n t.n) := by have := z1.cell 1; simpa using this
          go_wp2_with (refine wpList_load_row rfl 117 _ rfl fb (by rfl) _ _ _ _ f1 Tryz.underlying117 rfl (by kernel_rfl) ?_)
          refine (search_any qb (some ⟨qb, 0, none⟩) t.n t.n (mkAt t.f) (x.id, 0) _ o1.rd (by omega) hasc).mono ?_
          rintro e u6 ⟨K, ⟨fd, rfl⟩, hK, hb2⟩
          obtain ⟨hK1, hK2, hK3⟩ := hK
          replace M2 := M2.grew hb2
          replace o1 := o1.grew hb2
          replace z1 := z1.grew hb2
          replace f1 := f1.grew hb2
          replace hB := below_app hB hb2 hB.size
          clear hb2 k1 hasc
          have hKe : Hid (insK t.f x.id t.n = K) := insK_of hK1 hK2 hK3
          clear hK2 hK3
          have k1 : u6.cell? ⟨tb, 1, none⟩ = some (.slice (some ⟨qb, 0, none⟩) t.n t.n) := by have := z1.cell 1; simpa using this
          go_wp2_with (refine wpList_load_row rfl 117 _ rfl fb (by rfl) _ _ _ _ f1 Tryz.underlying117 rfl (by kernel_rfl) ?_)
          have hb2 := below_new2'' u6 (.cells #[.int .i64 x.id, .int .i64 0] 117)
          have v1 : BoxR (u6.alloc (.cells #[.int .i64 x.id, .int .i64 0] 117)) u6.heap.size 117 #[.int .i64 x.id, .int .i64 0] := boxR_new _ _ _
          replace M2 := M2.grew hb2
          replace o1 := o1.grew hb2
          replace z1 := z1.grew hb2
          replace hB := below_app hB hb2 hB.size
          have hvc : ∀ j v, (mkC (x.id, 0))[j]? = some v → (u6.alloc (.cells #[.int .i64 x.id, .int .i64 0] 117)).cell? ((⟨u6.heap.size, 0, none⟩ : Addr).add j) = some v := fun j v hj => by
            have := v1.cell j
            rw [Addr.add_lit, Nat.zero_add, this]
            simpa [mkC] using hj
          have hvl := v1.lt
          refine (insert_any qb t.n K u6.heap.size (mkAt t.f) (x.id, 0) _ o1.rd o1.2.1 hK1 (by omega) hvc hvl).mono ?_
          rintro e u7 ⟨q7, c7, rfl, hb3, h7, hq7⟩
          have ht7 := z1.lt
          have nq7 : q7 ≠ tb := by omega
          clear v1 hvc hvl hb2 k1 o1 f1
          replace M2 := M2.grew hb3
          replace z1 := z1.grew hb3
          replace hB := below_app hB hb3 hB.size
          clear hb3 hq7 ht7
          have k1 : u7.cell? ⟨tb, 1, none⟩ = some (.slice (some ⟨qb, 0, none⟩) t.n t.n) := by have := z1.cell 1; simpa using this
          have f1 := z1.froz 1
          have z2 := z1.put 1 (.slice (some ⟨q7, 0, none⟩) (t.n + 1) c7)
          simp only [List.setIfInBounds_toArray, List.set_cons_zero, List.set_cons_succ] at z2
          have M3 := M2.setCell (a := ⟨tb, 1, none⟩) (fun e => ntm e.symm) (.slice (some ⟨q7, 0, none⟩) (t.n + 1) c7)
          have h8 := h7.same (w' := u7.setCell ⟨tb, 1, none⟩ (.slice (some ⟨q7, 0, none⟩) (t.n + 1) c7)) (Below.heap_setCell u7 ⟨tb, 1, none⟩ (.slice (some ⟨q7, 0, none⟩) (t.n + 1) c7) q7 nq7)
          have hB2 := hB.setCell (p := ⟨tb, 1, none⟩) (show w.heap.size ≤ tb by omega) (.slice (some ⟨q7, 0, none⟩) (t.n + 1) c7)
          go_upto_region 8 with fail
          generalize hU : u7.setCell ⟨tb, 1, none⟩ (.slice (some ⟨q7, 0, none⟩) (t.n + 1) c7) = V at z2 M3 h8 hB2 ⊢
          clear z1 M2 h7 hB k1 f1 hU
          have sel := sel_ins (t.f 0) t.f x t.n K hK1 hno
          have hx3 : x.okW V := efw_grew hx hB2
          have hsel : ∀ i, i < t.n + 1 → ∀ y, putE' (tabM t.f t.n) (x.id, 0) x (insG K (mkAt t.f) (x.id, 0) i) = some y → y.okW V ∧ y.ac.ln ≤ 1048577 := fun i hi y hy => by
            unfold putE' at hy
            split at hy
            · obtain rfl := Option.some.inj hy
              exact ⟨hx3, hxl⟩
            · obtain ⟨j, hj, _, rfl⟩ := tabM_some t.f hy
              exact sel_ok hf hB2 j hj
          have HN : Hid (inN t.n t.f x = t.n + 1) := (by unfold inN; rw [hI.out]; rfl : inN t.n t.f x = t.n + 1)
          have HF : Hid (inF t.n t.f x = insF K t.f x) := (by unfold inF; rw [hI.out, hKe.out]; rfl : inF t.n t.f x = insF K t.f x)
          clear hKe
          go_wp2_with (refine wpList_load_row rfl 113 _ rfl tb (by rfl) _ _ _ _ z2 Tryz.underlying113 rfl (by kernel_rfl) ?_)
          refine (list_any (putE' (tabM t.f t.n) (x.id, 0) x) (insG K (mkAt t.f) (x.id, 0)) (t.f 0) mb q7 (some ⟨q7, 0, none⟩) (t.n + 1) c7 _ M3 h8 (by omega) hsel).mono ?_
          rintro e u9 ⟨v, g', rfl, hb9, B9⟩
          have hB9 := below_app hB2 hb9 hB2.size
          have B8 := (B9.down hB2.size).congr (g' := g') (f' := insF K t.f x) (fun i hi => rfl) (fun i hi => sel.2 i (by rw [← sel.1]; exact hi))
          rw [sel.1] at B8
          obtain ⟨q, rfl, hq⟩ := B8.ans
          clear M3 h8 z2 hsel B9 hb9
          go_wp2
          go_ret2
          rw [hI.out, HN.out, HF.out]
          exact ⟨q, rfl, hB9, hq⟩
end Go.Proofs.YtodfdfncdoliiadGreat
