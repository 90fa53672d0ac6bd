/-
  Chapter 3: contracts of the program's Meet, Rest, Without. Own work.
-/
import Derived.Test.YtdncgoippljlfaaSetSift
namespace Go.Proofs.Ytdncgoippljlfaa
open Go.ChangeShapes Go.WideShapes Go.ChangeAt Go.RowKit Go.Shelf
set_option maxRecDepth 100000
attribute [local go_sem] Oper.semAt_some

/-- append to a row of the call's own: it stays in its block, or lies in a new one -/
theorem run_append_at {P : Program} (w : World) (base : Nat) (t ty e : TypeId) (i : TypeInfo) (z : Value) (ht : P.underlying t = some (.slice e)) (hi : P.info? e = some i) (hz : i.zero = some z)
    (hsize : i.size = 1) (hby : i.bytes = 8) (hzs : z.cells.size = 1) (g n cap : Nat) (xs : List Value) (hown : w.ownsRow base e 1 (.slice (some ⟨g, 0, none⟩) n cap) n xs)
    (a : Addr) (m c : Nat) (news : List Value) (hl : news.length = m * 1) (hnews : ∀ j u, news[j]? = some u → w.cell? (a.add j) = some u) (h1 : ∀ u ∈ news, u.oneCell' = true)
    (h63 : n + m ≤ maxLen) (hbytes : (n + m) * 8 ≤ 140737488355328) (hbase : base ≤ w.heap.size) :
    ∃ g' cap' w', (Builtin.append_ #[t, t] ty #[.slice (some ⟨g, 0, none⟩) n cap, .slice (some a) m c]).run P w = .ok (.slice (some ⟨g', 0, none⟩) (n + m) cap') w' ∧
      w'.ownsRow base e 1 (.slice (some ⟨g', 0, none⟩) (n + m) cap') (n + m) (xs ++ news) ∧ w.grownBy w' (some g) ∧ (g' = g ∨ g' = w.heap.size) := by
  by_cases hfit : n + m ≤ cap
  · obtain ⟨w', hrun, r1, r2⟩ := run_append_fits (P := P) w base t ty e i 1 ht hi hsize g n cap xs hown a m c news hl hnews h1 hfit
    exact ⟨g, cap, w', hrun, r1, r2, .inl rfl⟩
  · obtain ⟨v', w', hrun, r1, r2, r3⟩ := run_append_own (P := P) w base t ty e i z 1 8 ht hi hz hsize hby hzs (by decide) _ n xs hown a m c news hl hnews h1 h63 hbytes hbase
    have hold : (Builtin.firstCells i.size n (.slice (some ⟨g, 0, none⟩) n cap)).run P w.drew = .ok xs.toArray w.drew := by
      rw [hsize]
      refine run_firstCells_some w.drew 1 n ⟨g, 0, none⟩ n cap xs hown.1 (fun j v hj => ?_)
      have hjl : j < xs.length := (List.getElem?_eq_some_iff.1 hj).1
      have hx := hown.1
      have := hown.cellAt (g := g) j (by omega)
      show w.cell? _ = _
      rw [← hj, ← this]
      congr 1
      unfold Addr.add; split <;> simp_all
    have hrun2 := run_append_grow_src (P := P) w t t ty e i z ht hi hz (some ⟨g, 0, none⟩) n cap xs hold (.slice (some a) m c) m news (Src.ofSlice w ht a m c news (by rw [hsize]; exact hl) hnews h1) (by omega) (by unfold maxLen at h63; omega) (growslice_fits (by omega) (by rw [hby]; exact hbytes))
    rw [hrun] at hrun2
    injection hrun2 with e1 e2
    subst e1
    exact ⟨_, _, w', hrun, r1, r2, .inr rfl⟩
theorem wpListIn_append_at {F : Fence} {n : Nat} {P : Program} (w : World) {ops : Array Oper} {rest : List Oper} {o : Oper} {a : Act} {Q : Exit → Act → World → Prop}
    (hg : o.guard = none) (s x : Operand) (t : TypeId) (hop : o.op = Op.call { callee := Callee.builtin Builtin.append, args := #[s, x], argTypes := #[t, t] })
    (base : Nat) (e : TypeId) (i : TypeInfo) (z : Value) (h1 : P.underlying t = some (.slice e)) (h2 : P.info? e = some i) (h3 : i.zero = some z) (h4 : i.size = 1) (h5 : i.bytes = 8) (h6 : z.cells.size = 1)
    (g k cap : Nat) (xs : List Value) (hs : a.eval s = .slice (some ⟨g, 0, none⟩) k cap) (hown : w.ownsRow base e 1 (.slice (some ⟨g, 0, none⟩) k cap) k xs) (ad : Addr) (m c : Nat) (news : List Value) (hx : a.eval x = .slice (some ad) m c) (hn : news.length = m * 1)
    (hc : ∀ j u, news[j]? = some u → w.cell? (ad.add j) = some u) (h1c : ∀ u ∈ news, u.oneCell' = true) (b1 : k + m ≤ maxLen) (b2 : (k + m) * 8 ≤ 140737488355328) (b3 : base ≤ w.heap.size)
    (hK : ∀ g' cap' w', World.ownsRow w' base e 1 (.slice (some ⟨g', 0, none⟩) (k + m) cap') (k + m) (xs ++ news) → w.grownBy w' (some g) → (g' = g ∨ g' = w.heap.size) → wpListIn F n P ops Q rest (a.put o.dst (.slice (some ⟨g', 0, none⟩) (k + m) cap')) w') :
    wpListIn F n P ops Q (o :: rest) a w := by
  refine wpListIn_plain hg fun K hK' => ?_
  obtain ⟨g', cap', w', hrun, r1, r2, r3⟩ := run_append_at (P := P) w base t o.type e i z h1 h2 h3 h4 h5 h6 g k cap xs hown ad m c news hn hc h1c b1 b2 b3
  unfold Oper.wpIn
  refine ⟨?_, ?_⟩
  · simp [Oper.about, hop, resolve, Target.leads, Sem.run_pure]
  · rw [Oper.semAt_plain F _ _ (by rw [hop]; intro c hc'; cases hc')]
    simp [execOp, hop, resolve, invoke, builtin, hs, hx, hrun, Result.andThen]
    exact hK' _ _ (hK g' cap' w' r1 r2 r3)
theorem row_grew {W W' : World} {base : Nat} {e : TypeId} {v : Value} {n : Nat} {xs : List Value} (h : W.ownsRow base e 1 v n xs) (hb : Below W.heap.size W W') : W'.ownsRow base e 1 v n xs := by
  refine ⟨h.1, ?_⟩
  rcases h.2 with h' | ⟨g, cap, cur, rfl, h1, h2, h3⟩
  · exact .inl h'
  · exact .inr ⟨g, cap, cur, rfl, h1, (hb.block g (Array.getElem?_eq_some_iff.1 h2).1).trans h2, h3⟩
theorem keep_step {W W4 w5 : World} {b2 gv B : Nat} {o : Obj} {v' : Value} (hlt : b2 < W.heap.size) (hb6 : Below W.heap.size W W4) (hg : (W4.alloc o).grownBy w5 (some gv)) (h1 : gv ≠ b2) (h2 : b2 ≠ B) : Keep b2 W (w5.setCell ⟨B, 0, none⟩ v') := by
  have hs4 := hb6.size
  have e1 : (w5.setCell ⟨B, 0, none⟩ v').heap[b2]? = w5.heap[b2]? := Below.heap_setCell _ _ _ _ h2
  have e2 : w5.heap[b2]? = (W4.alloc o).heap[b2]? := hg.block b2 (by simp; omega) (fun e => h1 (by cases e; rfl))
  exact e1.trans (e2.trans ((Below.heap_alloc W4 o b2 (by omega)).trans (hb6.block b2 hlt)))
theorem blk_step {W W4 : World} {b2 gv g' n cap : Nat} {o : Obj} (hlt : b2 < W.heap.size) (hb6 : Below W.heap.size W W4) (h1 : gv ≠ b2) (hg : g' = gv ∨ g' = (W4.alloc o).heap.size) : (Value.slice (some ⟨g', 0, none⟩) n cap).ownBlock ≠ some b2 := by
  have hs4 := hb6.size
  intro e
  have e' : g' = b2 := by simpa [Value.ownBlock] using e
  rcases hg with h | h
  · exact h1 (h.symm.trans e')
  · rw [World.size_alloc] at h; omega
/-- what is kept: the numbers of which it is p that they are in the other list -/
def kp (m : Nat) (g : Nat → Int) (p : Bool) (pre : List Int) : List Int := pre.filter (fun x => hs m g x == p)
theorem kp_yes {m : Nat} {g : Nat → Int} {p : Bool} {x : Int} (pre : List Int) (h : hs m g x = p) : kp m g p (pre ++ [x]) = kp m g p pre ++ [x] := by simp [kp, h]
theorem kp_no {m : Nat} {g : Nat → Int} {p : Bool} {x : Int} (pre : List Int) (h : (hs m g x == p) = false) : kp m g p (pre ++ [x]) = kp m g p pre := by simp [kp, h]
theorem kp_len (m : Nat) (g : Nat → Int) (p : Bool) (pre : List Int) : (kp m g p pre).length ≤ pre.length := List.length_filter_le _ _
theorem kp_set (n m : Nat) (f g : Nat → Int) (p : Bool) : kp m g p (lst (sLen (lst n f)) (sEl (lst n f))) = setL ((lst n f).filter (fun x => hs m g x == p)) := by
  refine setL_eq (asc_filter (s_ascL _) _) fun x => ?_
  unfold kp
  rw [List.mem_filter, List.mem_filter, mem_s]
set_option maxRecDepth 100000 in
set_option maxHeartbeats 4000000 in
theorem sifted_any (ad bd : Addr) (b b' n c m c' : Nat) (f g : Nat → Int) (p : Bool) (w : World) (hn : n ≤ 3000000) (hm : m ≤ 3000000) (h : Rd .i64 w b (some ad) n f) (h' : Rd .i64 w b' (some bd) m g) :
    Calls Try.prog 80 #[.slice (some ad) n c, .slice (some bd) m c', .bool p] w fun e w' => SetPost ((lst n f).filter (fun x => hs m g x == p)) w e w' := by
  obtain ⟨i0, hi, hz0, hz1, hz2⟩ := info_parts Try.infoInt
  refine (callsIn_wide (n := 6)).1 ?_
  have hf : ∀ k, Fence.wide.fn k := fun _ => trivial
  have hl1 := sLen_of m g
  have hl2 := sLen_of n f
  have hb0 : Below w.heap.size w (w.alloc (.cells #[.bool p] 4)) := below_new' _ _
  have bP := Boxed.new w 4 (.bool p)
  have h1' := h'.grew hb0
  clear h'
  refine callsIn_of_wp_marks Try.func80 rfl trivial ?_ rfl
  simp only [Try.ntmps80, List.size_toArray, List.length_cons, List.length_nil, Nat.reduceAdd, Nat.reduceSub, Array.replicate_succ, Array.replicate_zero, List.push_toArray, List.append_toArray, List.nil_append, List.cons_append]
  gi_wp2_with fail
  refine (callsIn_wide.2 (from_at _ bd b' m c' g _ (World.size_alloc _ _) hm h1')).mono ?_
  rintro e w1 ⟨b1, a1, cap1, rfl, hr1, hb1, hs1, ht1⟩
  have bP1 : Boxed w1 w.heap.size 4 (.bool p) := (hb1.block _ bP.lt).trans bP
  have hB1 := below_app hb0 hb1 hb0.size
  have bO := Boxed.new w1 68 (.slice a1 (sLen (lst m g)) cap1)
  have hb2 : Below w1.heap.size w1 (((w1.alloc (.cells #[.slice a1 (sLen (lst m g)) cap1] 68)).alloc (.cells #[] 3)).alloc (.cells #[.slice (some ⟨w1.heap.size + 1, 0, none⟩) 0 0] 35)) := ((below_new' _ _).alloc (by simp) _).alloc (by simp; omega) _
  have hrow0 : ((w1.alloc (.cells #[.slice a1 (sLen (lst m g)) cap1] 68)).alloc (.cells #[] 3)).ownsRow (w1.heap.size + 1) 3 1 (.slice (some ⟨w1.heap.size + 1, 0, none⟩) 0 0) 0 [] := by
    have h : ((w1.alloc (.cells #[.slice a1 (sLen (lst m g)) cap1] 68)).alloc (.cells #[] 3)).ownsRow (w1.heap.size + 1) 3 1 (.slice (some ⟨(w1.alloc (.cells #[.slice a1 (sLen (lst m g)) cap1] 68)).heap.size, 0, none⟩) 0 0) 0 [] := World.ownsRow_lit _ #[] 0 (by simp) (by decide) rfl
    rw [World.size_alloc] at h
    exact h
  have hrow1 := hrow0.alloc (.cells #[.slice (some ⟨w1.heap.size + 1, 0, none⟩) 0 0] 35)
  have bK := Boxed.new ((w1.alloc (.cells #[.slice a1 (sLen (lst m g)) cap1] 68)).alloc (.cells #[] 3)) 35 (.slice (some ⟨w1.heap.size + 1, 0, none⟩) 0 0)
  rw [World.size_alloc, World.size_alloc] at bK
  have bO1 := (bO.alloc (.cells #[] 3)).alloc (.cells #[.slice (some ⟨w1.heap.size + 1, 0, none⟩) 0 0] 35)
  have hB2 := below_app hB1 hb2 hB1.size
  have bP2 : Boxed (((w1.alloc (.cells #[.slice a1 (sLen (lst m g)) cap1] 68)).alloc (.cells #[] 3)).alloc (.cells #[.slice (some ⟨w1.heap.size + 1, 0, none⟩) 0 0] 35)) w.heap.size 4 (.bool p) := (hb2.block _ bP1.lt).trans bP1
  have h2 := h.grew hB2
  have hr11 := hr1.grew hb2
  have hz1' : (((w1.alloc (.cells #[.slice a1 (sLen (lst m g)) cap1] 68)).alloc (.cells #[] 3)).alloc (.cells #[.slice (some ⟨w1.heap.size + 1, 0, none⟩) 0 0] 35)).heap.size = w1.heap.size + 1 + 1 + 1 := by simp
  clear h h1' bP hb0 hb1 hrow0 hb2 bO hr1
  gi_wp2_with fail
  refine (callsIn_wide.2 (from_at _ ad b n c f _ hz1' hn h2)).mono ?_
  rintro e w2 ⟨b2, a2, cap2, rfl, hr2, hb3, hs2, ht2⟩
  clear h2
  gi_wp2_with fail
  refine (callsIn_wide.2 (all_any a2 _ cap2 w2)).mono ?_
  rintro e w3 ⟨rfl, rfl⟩
  gi_wp2
  have hb4 : Below w2.heap.size w2 (w2.alloc (.cells #[.slice a2 (sLen (lst n f)) cap2] 68)) := below_new' _ _
  have hb5 := below_app hb3 hb4 hb3.size
  have cS := (Boxed.new w2 68 (.slice a2 (sLen (lst n f)) cap2)).cell
  have hr23 := hr2.grew hb4
  have hr13 := hr11.grew hb5
  have bO3 := (hb5.block _ bO1.lt).trans bO1
  have bP3 := (hb5.block _ bP2.lt).trans bP2
  have bK3 := (hb5.block _ bK.lt).trans bK
  have hrow3 := row_grew hrow1 hb5
  have hB4 := below_app hB2 hb5 hB2.size
  have ht3 : b2 < (w2.alloc (.cells #[.slice a2 (sLen (lst n f)) cap2] 68)).heap.size := by have := hb4.size; omega
  have hs3 : w1.heap.size + 1 + 1 + 1 ≤ b2 := by omega
  have hz3 := hB4.size
  have hN1 := bP1.lt
  clear hr2 hr11 bO1 bP2 bP1 bK hrow1 hb4 hb5 hb3 hB2 hB1 hs1 hs2 ht2 hz1'
  generalize (w2.alloc (.cells #[.slice a2 (sLen (lst n f)) cap2] 68)) = W3 at *
  refine wpIn_rangeFunc_ownG rfl (by decide) (gf := 78) (lb := #[.pointer (some ⟨w2.heap.size, 0, none⟩)]) rfl (hf _) (enters_of Try.func78 (by kernel_rfl) rfl)
    (tells_stops Fence.wide (6 - 1) (hf _) rfl (by decide) w2.heap.size b2 _ cap2 a2 _ (by omega) _ cS hr23) keep_t (keep_b ht3) (Below.refl _ _) (fun _ => rfl)
    (fun pre W => (∃ v, Boxed W (w1.heap.size + 1 + 1) 35 v ∧ W.ownsRow (w1.heap.size + 1) 3 1 v (kp m g p pre).length ((kp m g p pre).map (Value.int .i64)) ∧ (v ≠ .slice none 0 0 ∧ v.ownBlock ≠ some b2)) ∧ Below (w1.heap.size + 1) W3 W)
    (fun _ _ _ => False)
    (OwnFrom.and (Own.from (holdsRow_own (w1.heap.size + 1) (w1.heap.size + 1 + 1) 35 3 1 (fun pre : List Int => (kp m g p pre).length) (fun pre : List Int => (kp m g p pre).map (Value.int .i64)) (fun (_ : List Int) v => v ≠ .slice none 0 0 ∧ v.ownBlock ≠ some b2)) _) (ownFrom_below (by omega) (by omega)))
    (fun _ _ _ _ _ hs _ _ => hs)
    ⟨⟨_, bK3, hrow3, by simp, by simp [Value.ownBlock]; omega⟩, Below.refl _ _⟩
    (fun x => { tmps := #[.slice (some ad) n c, .slice (some bd) m c', .bool p, undef, undef, .pointer (some ⟨w.heap.size, 0, none⟩), .slice none 0 0, .pointer (some ⟨w1.heap.size, 0, none⟩), .pointer (some ⟨w1.heap.size + 1 + 1, 0, none⟩), .int .i64 x, .slice (some bd) m c', .slice (some ⟨w.heap.size + 1, 0, none⟩) 1 1, .agg #[.slice a1 (sLen (lst m g)) cap1], .slice (some ⟨w1.heap.size + 1, 0, none⟩) 0 0, .slice (some ad) n c, .slice (some ⟨w1.heap.size + 1 + 1 + 1, 0, none⟩) 1 1, .agg #[.slice a2 (sLen (lst n f)) cap2], .func (.func 78) #[] #[.pointer (some ⟨w2.heap.size, 0, none⟩)], .int .i64 x, undef, undef, undef, undef, undef, undef, undef, undef, undef, undef], defers := [] }) ?assign ?body ?done ?stop
  case assign =>
    intro l x W K hK
    gi_wp2
    exact hK
  case body =>
    rintro l pre x W ⟨⟨v, hv, hrow, hnil, hblk⟩, hB⟩ hlt
    have hfl : ∀ k, (Fence.wide.inRound l).fn k := fun _ => trivial
    have cO := (hB.cell (p := ⟨w1.heap.size, 0, none⟩) (by show w1.heap.size < _; omega)).trans (Boxed.cell bO3)
    have cP := (hB.cell (p := ⟨w.heap.size, 0, none⟩) (by show w.heap.size < _; omega)).trans (Boxed.cell bP3)
    have hpl := kp_len m g p pre
    have hrW := hr13.below hB (by omega)
    have hnW := hB.size
    obtain ⟨gv, capv, rfl⟩ : ∃ gv capv, v = .slice (some ⟨gv, 0, none⟩) (kp m g p pre).length capv := by
      rcases hrow.2 with ⟨h0, _⟩ | ⟨gv, capv, cur, rfl, _⟩
      · exact absurd h0 hnil
      · exact ⟨gv, capv, rfl⟩
    have hbv : gv ≠ b2 := fun e => hblk (by rw [e]; rfl)
    have mixed : Try.prog.follows Departure.mixedOrders = true := by kernel_rfl
    have hHas0 : CallsIn (Fence.wide.inRound l) 3 Try.prog 69 #[.agg #[.slice a1 (sLen (lst m g)) cap1], .int .i64 x] W.drew fun e W4 => e = .returned (.bool (hs m g x)) ∧ Below W.heap.size W W4 :=
      CallsIn.inRound l (callsIn_wide.2 ((has_any a1 b1 _ cap1 x _ W.drew (by omega) (show Rd .i64 W.drew b1 a1 _ _ from hrW) (s_ascL _)).mono (by rintro e W4 ⟨rfl, hb6⟩; rw [hs_set]; exact ⟨rfl, ((Below.refl _ W).drew).trans hb6⟩)))
    clear hnil hblk
    by_cases hh : hs m g x = p
    · rw [hh] at hHas0
      have hHas := hHas0
      clear hHas0
      gi_wp2_with fail
      gi_region_with_o (gi_at_call 69; refine hHas.mono ?_; rintro e W4 ⟨rfl, hb6⟩; have cP4 := (hb6.cell (p := ⟨w.heap.size, 0, none⟩) (by show w.heap.size < _; omega)).trans cP)
      all_goals
        have hv4 : Boxed W4 _ _ _ := (hb6.block _ hv.lt).trans hv
        have hrow4 := row_grew hrow hb6
        have hc4 := hv4.cell
        have hn4 := hb6.size
        gi_wp2_with (gi_at_builtin; refine wpListIn_append_at _ rfl _ _ 35 rfl (w1.heap.size + 1) 3 i0 (.int .i64 0) Try.underlying35 hi hz0 hz1 hz2 rfl gv _ capv _ rfl (hrow4.alloc _) ⟨W4.heap.size, 0, none⟩ 1 1 [.int .i64 x] rfl rfl (cell_one_new _ _ _) (by simp [Value.oneCell']) (by unfold maxLen; omega) (by omega) (by simp; omega) ?_; intro g' cap' w5 hown' hgrow hg'; obtain ⟨hv5, hv6, hr6, hk6, hb7⟩ := hv4.appended (by decide) hrow4 (by omega) (by omega) hown' hgrow; have hc5 := hv5.cell; have hf5 := hv5.frozen)
        exact ⟨((keeps_below hb6).trans hk6).from _, keep_step (by omega) hb6 hgrow hbv (by omega), ⟨_, hv6, by rw [kp_yes pre hh, List.length_append, List.map_append]; exact hr6, by simp, blk_step (by omega) hb6 hbv hg'⟩, hB.trans ((hb6.mono (by omega)).trans hb7)⟩
    · have hq : (hs m g x == p) = false := by simpa using hh
      gi_wp2_with fail
      gi_region_with_o (gi_at_call 69; refine hHas0.mono ?_; rintro e W4 ⟨rfl, hb6⟩; have cP4 := (hb6.cell (p := ⟨w.heap.size, 0, none⟩) (by show w.heap.size < _; omega)).trans cP)
      all_goals
        have hv4 : Boxed W4 _ _ _ := (hb6.block _ hv.lt).trans hv
        have hrow4 := row_grew hrow hb6
        gi_wp2
        exact ⟨(keeps_below hb6).from _, hb6.block b2 (by omega), ⟨_, hv4, by rw [kp_no pre hq]; exact hrow4, by simp, by simp [Value.ownBlock]; exact hbv⟩, hB.trans (hb6.mono (by omega))⟩
  case done =>
    rintro D ys W hD rfl ⟨⟨v, hv, hrow, hnil, _⟩, hB⟩ hK
    have hc := hv.cell
    have hB5 := below_app hB4 (hB.mono (Nat.le_of_lt (Nat.lt_of_lt_of_le hN1 (Nat.le_succ _)))) (Nat.le_refl _)
    rw [kp_set, vals_ints] at hrow
    obtain ⟨q, capq, rfl, ho⟩ := own_of (ownsRow_putObj hrow (.deferred none) hK rfl) hnil
    have hq1 := ho.1
    clear hrow hnil
    gi_wp2
    refine ⟨by simp, .inl ⟨_, _, rfl, run_takeDeferred hK, ?_⟩⟩
    exact ⟨_, results_tmp rfl _ _ _, q, capq, rfl, hB5.trans (belowK_b (w := W3) hz3 W D _ _ hD hK rfl rfl), by omega, ho.2⟩
  case stop =>
    rintro D c pre W _ _ h _
    exact h.elim
theorem sift_yes (n m : Nat) (f g : Nat → Int) : (lst n f).filter (fun x => hs m g x == true) = mtL n f m g := by unfold mtL; congr 1; funext x; cases hs m g x <;> rfl
theorem sift_no (n m : Nat) (f g : Nat → Int) : (lst n f).filter (fun x => hs m g x == false) = rsL n f m g := by unfold rsL; congr 1; funext x; cases hs m g x <;> rfl
set_option maxHeartbeats 1000000 in
theorem implRest_any (ad bd : Addr) (b b' n c m c' : Nat) (f g : Nat → Int) (w : World) (hn : n ≤ 3000000) (hm : m ≤ 3000000) (h : Rd .i64 w b (some ad) n f) (h' : Rd .i64 w b' (some bd) m g) :
    Calls Try.prog 71 #[.slice (some ad) n c, .slice (some bd) m c'] w fun e w' => SetPost (rsL n f m g) w e w' := by
  go_enter Try.func71, Try.ntmps71
  go_wp2_with fail
  refine (sifted_any ad bd b b' n c m c' f g false w hn hm h h').mono ?_
  rintro e w2 hpost
  rw [sift_no] at hpost
  obtain ⟨q3, c3, rfl, hb3, ho3⟩ := hpost
  clear h h'
  go_wp2
  go_ret
  exact ⟨q3, c3, rfl, hb3, ho3⟩
set_option maxHeartbeats 1000000 in
theorem implWithout_any (ad : Addr) (b n c : Nat) (x : Int) (f : Nat → Int) (w : World) (hn : n ≤ 3000000) (h : Rd .i64 w b (some ad) n f) :
    Calls Try.prog 47 #[.slice (some ad) n c, .int .i64 x] w fun e w' => SetPost (woL n f x) w e w' := by
  have hb0 : Below w.heap.size w (w.alloc (.cells #[.int .i64 x] 3)) := below_new' _ _
  have r0 : Rd .i64 (w.alloc (.cells #[.int .i64 x] 3)) w.heap.size (some ⟨w.heap.size, 0, none⟩) 1 (fun _ => x) := rd_row (heap_alloc_new w (.cells (vals .i64 1 (fun _ => x)).toArray 3))
  have h2 := h.grew hb0
  clear h
  go_enter Try.func47, Try.ntmps47
  go_wp2_with fail
  refine (implRest_any ad _ b w.heap.size n c 1 1 f (fun _ => x) _ hn (by omega) h2 r0).mono ?_
  rintro e w2 hpost
  obtain ⟨q3, c3, rfl, hb3, ho3⟩ := (show SetPost (woL n f x) _ e w2 from hpost).up hb0
  clear hpost
  go_wp2
  go_ret
  exact ⟨q3, c3, rfl, hb3, ho3⟩
end Go.Proofs.Ytdncgoippljlfaa
