/-
  Chapter 9: the draws DrawActOk, DrawActFits, DrawParts. Written by tools/drawad.gen.py. Own work.
-/
import Derived.Test.YtgaodfjmehofgacDoorDrawA3
import Derived.Test.YtgaodfjmehofgacDoorDrawTA
namespace Go.Proofs.YtgaodfjmehofgacDoor
open Go.ChangeShapes Go.WideShapes Go.ChangeAt Go.RowKit
set_option maxRecDepth 100000
set_option linter.unusedVariables false
set_option linter.unusedSimpArgs false

theorem RowA.okB {w : World} {B : Nat} {t : Ac} (h : RowA w B t) (hw : t.wf) : ∃ lb, ({ t with lb := lb } : Ac).ok w := by
  have hi : ∀ x ∈ [t.kd, t.nn, t.pi, t.si, t.zo], (Lit.int .i64 x).wf = true := fun x hx => by
    simp only [List.mem_cons, List.mem_nil_iff, or_false] at hx
    rcases hx with rfl | rfl | rfl | rfl | rfl
    · exact wf_i64 hw.1.1
    · exact wf_i64 hw.1.2.1
    · exact wf_i64 hw.1.2.2.1
    · exact wf_i64 hw.1.2.2.2.1
    · exact wf_i64 hw.1.2.2.2.2
  by_cases hn : t.ln = 0
  · obtain ⟨_, _, hv, h1, h2⟩ := row_form h
    simp only [Value.slice.injEq, true_and] at hv
    obtain ⟨_, hv2⟩ := hv
    exact ⟨0, by show t.ln ≤ t.lcap; omega, by show t.lcap ≤ maxLen; omega, .inl hn, hi, hw.2⟩
  · obtain ⟨lb, h1, h2, h3⟩ := h.own hn
    exact ⟨lb, h1, h2, h3.rd, hi, hw.2⟩
theorem results_rows9 {P : Program} {fn : Func} {p q : Tmp} {ty ty2 : TypeId} (h : fn.results = #[.cell p ty, .cell q ty2]) (tmps : Array Value) (w : World) (g g2 : Nat) (t t2 : TypeId) (cs cs2 : Array Value) (fr fr2 : Nat × Nat) (d d2 : TypeDesc)
    (hp : tmps.getD p undef = .pointer (some ⟨g, 0, none⟩)) (hg : w.heap[g]? = some (.cells cs t fr))
    (hu : P.underlying ty = some d) (hd : (match d with | .struct _ | .array _ _ => true | _ => false) = true) (hi : (P.info? ty).map (·.size) = some cs.size)
    (hp2 : tmps.getD q undef = .pointer (some ⟨g2, 0, none⟩)) (hg2 : w.heap[g2]? = some (.cells cs2 t2 fr2))
    (hu2 : P.underlying ty2 = some d2) (hd2 : (match d2 with | .struct _ | .array _ _ => true | _ => false) = true) (hi2 : (P.info? ty2).map (·.size) = some cs2.size) :
    (results fn tmps).run P w = .ok (.tuple #[.agg cs, .agg cs2]) w := by
  have hp' : tmps[p]?.getD undef = .pointer (some ⟨g, 0, none⟩) := by simpa using hp
  have hp2' : tmps[q]?.getD undef = .pointer (some ⟨g2, 0, none⟩) := by simpa using hp2
  simp [results, h, hp', hp2', asAddr, run_loadVar_row w g t ty cs fr d hg hu hd hi, run_loadVar_row w g2 t2 ty2 cs2 fr2 d2 hg2 hu2 hd2 hi2]
set_option maxHeartbeats 4000000 in
theorem drawActOk_any (a : Option Addr) (len cap : Nat) (w : World) (hc : Code w a len w.heap.size) :
    Calls Tryd.prog 5 #[.slice a len cap] w fun e w' => ∃ t : Ac, t.ok w' ∧ t.ln ≤ 5 ∧ e = .returned (.agg #[.int .i64 t.kd, .int .i64 t.nn, .int .i64 t.pi, .int .i64 t.si, .int .i64 t.zo, .bool t.be, .slice t.la t.ln t.lcap]) ∧ Below w.heap.size w w' := by
  have hb0 := (Below.refl _ w).alloc (Nat.le_refl _) (.cells #[.int .i64 0, .int .i64 0, .int .i64 0, .int .i64 0, .int .i64 0, .bool false, .slice none 0 0] 26)
  have xr := boxR_new w 26 #[.int .i64 0, .int .i64 0, .int .i64 0, .int .i64 0, .int .i64 0, .bool false, .slice none 0 0]
  generalize hW : w.alloc (.cells #[.int .i64 0, .int .i64 0, .int .i64 0, .int .i64 0, .int .i64 0, .bool false, .slice none 0 0] 26) = W at hb0 xr
  have hrz : w.heap.size < W.heap.size := xr.lt
  go_enter Tryd.func5, Tryd.ntmps5
  go_wp2_with fail
  clear hW
  refine (l1New_any a len cap _ (hc.below hb0)).mono ?_
  rintro e w1 ⟨h, rfl, hw⟩
  have hb : Below w.heap.size w w1 := by rw [hw]; exact hb0.alloc hb0.size _
  have hk : Cur w1 W.heap.size a len cap := by rw [hw]; exact Cur.made W a len cap h _
  have xr1 : BoxR w1 w.heap.size 26 #[.int .i64 0, .int .i64 0, .int .i64 0, .int .i64 0, .int .i64 0, .bool false, .slice none 0 0] := by rw [hw]; exact xr.alloc _
  have hBp : w.heap.size ≤ W.heap.size := by omega
  have hpz : W.heap.size < w1.heap.size := hk.1
  clear hw xr
  go_wp2_with fail
  refine (l5Draw_any W.heap.size a len cap _ (hc.below hb) hBp hk).mono ?_
  rintro e w2 ⟨s, hs, rfl, ho, hk2, hrw⟩
  replace hs := hs.an
  have hb2 := hb.trans (ho.below hBp hb.size)
  have xr2 := xr1.onlyR ho (by omega)
  have hsz1 := ho.size
  clear hb ho hk xr1
  go_wp2_with fail
  refine (l9Any_any W.heap.size a len cap s _ (hc.below hb2) hBp hk2 hs hrw hpz).mono ?_
  rintro e w3 ⟨t, twf, tl, rfl, ho, hk9, hra⟩
  have hb9 := hb2.trans (ho.below hBp hb2.size)
  have xr9 := xr2.onlyR ho (by omega)
  have hsz2 := hb2.size
  have hsz3 := ho.size
  have hpra : W.heap.size < w2.heap.size := hk2.1
  clear ho hk2 hb2 xr2
  have hraZ : RowA (w3.setRow w.heap.size #[.int .i64 t.kd, .int .i64 t.nn, .int .i64 t.pi, .int .i64 t.si, .int .i64 t.zo, .bool t.be, .slice t.la t.ln t.lcap]) w2.heap.size t := row_setRow' hra (own_ne hra xr9 (by decide)) _
  go_wp2_with (refine wpList_store_row rfl 26 (.tmp 2) _ rfl w.heap.size _ (by rfl) (by rfl) _ _ xr9 (by kernel_rfl) (by rfl) (by simp [Value.oneCell']) ?_)
  (try simp only [Exit.inBlock, Exit.then]); refine bodyPost_ret (results_cell_row rfl _ _ w.heap.size _ _ _ _ rfl (setRow_heap _ _ _ _ _ _ xr9) Tryd.underlying26 rfl (by kernel_rfl)) rfl ?_
  obtain ⟨lb, hok⟩ := RowA.okB hraZ twf
  exact ⟨{ t with lb := lb }, hok, tl, rfl, below_setRow hb9 (Nat.le_refl _) _⟩
set_option maxHeartbeats 4000000 in
theorem drawActFits_any (a : Option Addr) (len cap : Nat) (w : World) (hc : Code w a len w.heap.size) :
    Calls Tryd.prog 6 #[.slice a len cap] w fun e w' => ∃ (t : Ac) (x : Int), t.ok w' ∧ t.ln ≤ 5 ∧ inI64 x ∧ e = .returned (.tuple #[(.agg #[.int .i64 t.kd, .int .i64 t.nn, .int .i64 t.pi, .int .i64 t.si, .int .i64 t.zo, .bool t.be, .slice t.la t.ln t.lcap]), .int .i64 x]) ∧ Below w.heap.size w w' := by
  have hb0 := (Below.refl _ w).alloc (Nat.le_refl _) (.cells #[.int .i64 0, .int .i64 0, .int .i64 0, .int .i64 0, .int .i64 0, .bool false, .slice none 0 0] 26)
  have xr := boxR_new w 26 #[.int .i64 0, .int .i64 0, .int .i64 0, .int .i64 0, .int .i64 0, .bool false, .slice none 0 0]
  generalize hW : w.alloc (.cells #[.int .i64 0, .int .i64 0, .int .i64 0, .int .i64 0, .int .i64 0, .bool false, .slice none 0 0] 26) = W at hb0 xr
  have hrz : w.heap.size < W.heap.size := xr.lt
  go_enter Tryd.func6, Tryd.ntmps6
  go_wp2_with fail
  clear hW
  refine (l1New_any a len cap _ (hc.below hb0)).mono ?_
  rintro e w1 ⟨h, rfl, hw⟩
  have hb : Below w.heap.size w w1 := by rw [hw]; exact hb0.alloc hb0.size _
  have hk : Cur w1 W.heap.size a len cap := by rw [hw]; exact Cur.made W a len cap h _
  have xr1 : BoxR w1 w.heap.size 26 #[.int .i64 0, .int .i64 0, .int .i64 0, .int .i64 0, .int .i64 0, .bool false, .slice none 0 0] := by rw [hw]; exact xr.alloc _
  have hBp : w.heap.size ≤ W.heap.size := by omega
  have hpz : W.heap.size < w1.heap.size := hk.1
  clear hw xr
  go_wp2_with fail
  refine (l5Draw_any W.heap.size a len cap _ (hc.below hb) hBp hk).mono ?_
  rintro e w2 ⟨s, hs, rfl, ho, hk2, hrw⟩
  replace hs := hs.an
  have hb2 := hb.trans (ho.below hBp hb.size)
  have xr2 := xr1.onlyR ho (by omega)
  have hsz1 := ho.size
  clear hb ho hk xr1
  go_wp2_with fail
  refine (l9Any_any W.heap.size a len cap s _ (hc.below hb2) hBp hk2 hs hrw hpz).mono ?_
  rintro e w3 ⟨t, twf, tl, rfl, ho, hk9, hra⟩
  have hb9 := hb2.trans (ho.below hBp hb2.size)
  have xr9 := xr2.onlyR ho (by omega)
  have hsz2 := hb2.size
  have hsz3 := ho.size
  have hpra : W.heap.size < w2.heap.size := hk2.1
  clear ho hk2 hb2 xr2
  have xg := boxR_new w3 26 #[.int .i64 t.kd, .int .i64 t.nn, .int .i64 t.pi, .int .i64 t.si, .int .i64 t.zo, .bool t.be, .slice t.la t.ln t.lcap]
  have hbV := below_new2'' w3 (.cells #[.int .i64 t.kd, .int .i64 t.nn, .int .i64 t.pi, .int .i64 t.si, .int .i64 t.zo, .bool t.be, .slice t.la t.ln t.lcap] 26)
  have hgz : W.heap.size < w3.heap.size := hk9.1
  generalize hV : w3.alloc (.cells #[.int .i64 t.kd, .int .i64 t.nn, .int .i64 t.pi, .int .i64 t.si, .int .i64 t.zo, .bool t.be, .slice t.la t.ln t.lcap] 26) = V at xg hbV
  obtain ⟨g, hg⟩ : ∃ g, Hid (w3.heap.size = g) := ⟨w3.heap.size, (rfl : w3.heap.size = w3.heap.size)⟩
  have hbA := below_app hb9 hbV hb9.size
  have xrA := xr9.grew hbV
  have hkA : Cur V W.heap.size a len cap := hk9.same (hbV.block _ hk9.1) hbV.size
  replace hra := hra.grew hbV
  clear hb9 hbV xr9 hk9
  go_wp2_with fail
  clear hV
  rw [hg.out]
  have hgw : W.heap.size < g := by rw [← hg.out]; exact hgz
  rw [hg.out] at xg
  clear hgz hg
  have SK : Hid (∀ u : World, BoxR u g 26 #[.int .i64 t.kd, .int .i64 t.nn, .int .i64 t.pi, .int .i64 t.si, .int .i64 t.zo, .bool t.be, .slice t.la t.ln t.lcap] → u.cell? ⟨g, 0, none⟩ = some (.int .i64 t.kd) ∧ u.cell? ⟨g, 1, none⟩ = some (.int .i64 t.nn) ∧ u.cell? ⟨g, 2, none⟩ = some (.int .i64 t.pi) ∧ u.cell? ⟨g, 3, none⟩ = some (.int .i64 t.si) ∧ u.cell? ⟨g, 4, none⟩ = some (.int .i64 t.zo) ∧ u.cell? ⟨g, 5, none⟩ = some (.bool t.be) ∧ u.cell? ⟨g, 6, none⟩ = some (.slice t.la t.ln t.lcap)) := fun u h => ⟨h.cell 0, h.cell 1, h.cell 2, h.cell 3, h.cell 4, h.cell 5, h.cell 6⟩
  have hbK := hbA
  have xrK := xrA
  have xgK := xg
  have hraK := hra
  have hkK := hkA
  clear hbA xrA xg hra hkA
  have hcD : Code V.drew a len w.heap.size := hc.below hbK.drew
  refine wp_region_held_drew (S := fun u : World => u.cell? ⟨g, 0, none⟩ = some (.int .i64 t.kd) ∧ u.cell? ⟨g, 1, none⟩ = some (.int .i64 t.nn) ∧ u.cell? ⟨g, 2, none⟩ = some (.int .i64 t.pi) ∧ u.cell? ⟨g, 3, none⟩ = some (.int .i64 t.si) ∧ u.cell? ⟨g, 4, none⟩ = some (.int .i64 t.zo) ∧ u.cell? ⟨g, 5, none⟩ = some (.bool t.be) ∧ u.cell? ⟨g, 6, none⟩ = some (.slice t.la t.ln t.lcap)) (by kernel_rfl) (SK.out V.drew xgK) (fun hHeld => ?_)
  refine wpAnyH_take (i := 0) (v := (.agg #[.int .i64 t.kd, .int .i64 t.nn, .int .i64 t.pi, .int .i64 t.si, .int .i64 t.zo, .bool t.be, .slice t.la t.ln t.lcap])) rfl (by kernel_rfl) (by kernel_rfl) (by kernel_rfl) (fun _ _ _ h => h) (Or.inl ⟨by rfl, fun u hSu => by (try dsimp only at hSu); go_simp⟩) hHeld ?_
  try simp only [Act.put, List.setIfInBounds_toArray, List.set_cons_zero, List.set_cons_succ]
  refine wpAnyH_take (i := 1) (v := .pointer (some ⟨W.heap.size, 0, none⟩)) rfl (by kernel_rfl) (by kernel_rfl) (by kernel_rfl) (fun _ _ _ h => h) (Or.inl ⟨by rfl, fun u hSu => by (try dsimp only at hSu); go_simp⟩) hHeld ?_
  try simp only [Act.put, List.setIfInBounds_toArray, List.set_cons_zero, List.set_cons_succ]
  refine wpAnyH_ready (rs := [2]) (by kernel_rfl) (by simp) ?_
  refine AllReadyH.cons rfl (fun K' hK => ?_) AllReadyH.nil
  go_simp
  go_at_call 21
  refine (l1Below_any W.heap.size a len cap _ V.drew hcD hBp hkK).mono ?_
  rintro e w5 ⟨x, n0_, n1_, rfl, ho, hk5⟩
  have hx : inI64 x := by have := n1_ (by omega); unfold inI64; omega
  have hb5 : Below w.heap.size w w5 := hbK.drew.trans (ho.below hBp hbK.drew.size)
  have xr5 : BoxR w5 w.heap.size 26 #[.int .i64 0, .int .i64 0, .int .i64 0, .int .i64 0, .int .i64 0, .bool false, .slice none 0 0] := BoxR.onlyR (w := V.drew) xrK ho (by omega)
  have xg5 : BoxR w5 g 26 #[.int .i64 t.kd, .int .i64 t.nn, .int .i64 t.pi, .int .i64 t.si, .int .i64 t.zo, .bool t.be, .slice t.la t.ln t.lcap] := BoxR.onlyR (w := V.drew) xgK ho (by omega)
  have hra5 : RowA w5 w2.heap.size t := RowA.only (w := V.drew) hraK ho hpra
  clear ho hk5
  refine hK.out _ _ (SK.out _ xg5) (fun hHeld => ?_)
  clear hK
  try simp only [Act.put, List.setIfInBounds_toArray, List.set_cons_zero, List.set_cons_succ]
  have hraZ : RowA (w5.setRow w.heap.size #[.int .i64 t.kd, .int .i64 t.nn, .int .i64 t.pi, .int .i64 t.si, .int .i64 t.zo, .bool t.be, .slice t.la t.ln t.lcap]) w2.heap.size t := row_setRow' hra5 (own_ne hra5 xr5 (by decide)) _
  have xr6 : BoxR (w5.setRow w.heap.size #[.int .i64 t.kd, .int .i64 t.nn, .int .i64 t.pi, .int .i64 t.si, .int .i64 t.zo, .bool t.be, .slice t.la t.ln t.lcap]) w.heap.size 26 #[.int .i64 t.kd, .int .i64 t.nn, .int .i64 t.pi, .int .i64 t.si, .int .i64 t.zo, .bool t.be, .slice t.la t.ln t.lcap] := setRow_heap _ _ _ _ _ _ xr5
  have xg6 : BoxR (w5.setRow w.heap.size #[.int .i64 t.kd, .int .i64 t.nn, .int .i64 t.pi, .int .i64 t.si, .int .i64 t.zo, .bool t.be, .slice t.la t.ln t.lcap]) g 26 #[.int .i64 t.kd, .int .i64 t.nn, .int .i64 t.pi, .int .i64 t.si, .int .i64 t.zo, .bool t.be, .slice t.la t.ln t.lcap] := oldRow9 xg5 (by omega)
  have hb6 := below_setRow hb5 (Nat.le_refl _) #[.int .i64 t.kd, .int .i64 t.nn, .int .i64 t.pi, .int .i64 t.si, .int .i64 t.zo, .bool t.be, .slice t.la t.ln t.lcap]
  refine wpAnyH_ready (rs := [3]) (by kernel_rfl) (by simp) ?_
  refine AllReadyH.cons rfl (fun K' hK => ?_) AllReadyH.nil
  rw [if_pos (by rfl)]
  refine wp_store_row 26 (.tmp 2) (.tmp 12) rfl w.heap.size #[.int .i64 t.kd, .int .i64 t.nn, .int .i64 t.pi, .int .i64 t.si, .int .i64 t.zo, .bool t.be, .slice t.la t.ln t.lcap] (by first | rfl | simp [Act.eval]) rfl _ _ xr5 (by kernel_rfl) (by rfl) (by simp [Value.oneCell']) ?_
  refine hK.out _ _ (SK.out _ xg6) (fun hHeld => ?_)
  clear hK
  try simp only [Act.put, List.setIfInBounds_toArray, List.set_cons_zero, List.set_cons_succ]
  generalize w5.setRow w.heap.size #[.int .i64 t.kd, .int .i64 t.nn, .int .i64 t.pi, .int .i64 t.si, .int .i64 t.zo, .bool t.be, .slice t.la t.ln t.lcap] = X6 at xr6 xg6 hb6 hraZ hHeld ⊢
  refine wpAnyH_take (i := 4) (oi := ⟨some 3, .assign (.tmp 14), 3, _, _, none⟩) (v := .int .i64 x) rfl (by kernel_rfl) (by kernel_rfl) (by kernel_rfl) (fun _ _ _ h => h) (Or.inl ⟨by rfl, fun u hSu => by (try dsimp only at hSu); go_simp⟩) hHeld ?_
  try simp only [Act.put, List.setIfInBounds_toArray, List.set_cons_zero, List.set_cons_succ]
  refine wpAnyH_done (by kernel_rfl) ?_ _
  try simp only [Act.put, List.setIfInBounds_toArray, List.set_cons_zero, List.set_cons_succ]
  clear hHeld SK
  go_wp2
  (try simp only [Exit.inBlock, Exit.then]); refine bodyPost_ret (results_rowC rfl _ _ w.heap.size _ _ _ _ rfl xr6 Tryd.underlying26 rfl (by kernel_rfl)) rfl ?_
  obtain ⟨lb, hok⟩ := RowA.okB hraZ twf
  first | exact ⟨{ t with lb := lb }, x, hok, tl, hx, rfl, hb6⟩ | exact ⟨{ t with lb := lb }, hok, tl, x, hx, rfl, hb6⟩ | exact ⟨{ t with lb := lb }, hok, tl, ⟨x, hx, rfl⟩, hb6⟩
set_option maxHeartbeats 4000000 in
theorem drawParts_any (a : Option Addr) (len cap : Nat) (w : World) (hc : Code w a len w.heap.size) :
    Calls Tryd.prog 7 #[.slice a len cap] w fun e w' => ∃ (t : Ac) (q : Ev), t.ok w' ∧ t.ln ≤ 5 ∧ q.wf ∧ e = .returned (.tuple #[(.agg #[.int .i64 t.kd, .int .i64 t.nn, .int .i64 t.pi, .int .i64 t.si, .int .i64 t.zo, .bool t.be, .slice t.la t.ln t.lcap]), (.agg #[.int .i64 q.kd, .int .i64 q.sr, .int .i64 q.pi, .int .i64 q.si, .int .i64 q.nn, .int .i64 q.zo, .bool q.be])]) ∧ Below w.heap.size w w' := by
  have hb0 := ((Below.refl _ w).alloc (Nat.le_refl _) (.cells #[.int .i64 0, .int .i64 0, .int .i64 0, .int .i64 0, .int .i64 0, .bool false, .slice none 0 0] 26)).alloc (by simp) (.cells #[.int .i64 0, .int .i64 0, .int .i64 0, .int .i64 0, .int .i64 0, .int .i64 0, .bool false] 31)
  have xr := (boxR_new w 26 #[.int .i64 0, .int .i64 0, .int .i64 0, .int .i64 0, .int .i64 0, .bool false, .slice none 0 0]).alloc (.cells #[.int .i64 0, .int .i64 0, .int .i64 0, .int .i64 0, .int .i64 0, .int .i64 0, .bool false] 31)
  have xq : BoxR ((w.alloc (.cells #[.int .i64 0, .int .i64 0, .int .i64 0, .int .i64 0, .int .i64 0, .bool false, .slice none 0 0] 26)).alloc (.cells #[.int .i64 0, .int .i64 0, .int .i64 0, .int .i64 0, .int .i64 0, .int .i64 0, .bool false] 31)) (w.heap.size + 1) 31 #[.int .i64 0, .int .i64 0, .int .i64 0, .int .i64 0, .int .i64 0, .int .i64 0, .bool false] := heap_alloc2_new _ _ _
  generalize hW : (w.alloc (.cells #[.int .i64 0, .int .i64 0, .int .i64 0, .int .i64 0, .int .i64 0, .bool false, .slice none 0 0] 26)).alloc (.cells #[.int .i64 0, .int .i64 0, .int .i64 0, .int .i64 0, .int .i64 0, .int .i64 0, .bool false] 31) = W at hb0 xr xq
  have hrz : w.heap.size + 1 < W.heap.size := xq.lt
  go_enter Tryd.func7, Tryd.ntmps7
  go_wp2_with fail
  clear hW
  refine (l1New_any a len cap _ (hc.below hb0)).mono ?_
  rintro e w1 ⟨h, rfl, hw⟩
  have hb : Below w.heap.size w w1 := by rw [hw]; exact hb0.alloc hb0.size _
  have hk : Cur w1 W.heap.size a len cap := by rw [hw]; exact Cur.made W a len cap h _
  have xr1 : BoxR w1 w.heap.size 26 #[.int .i64 0, .int .i64 0, .int .i64 0, .int .i64 0, .int .i64 0, .bool false, .slice none 0 0] := by rw [hw]; exact xr.alloc _
  have xq1 : BoxR w1 (w.heap.size + 1) 31 #[.int .i64 0, .int .i64 0, .int .i64 0, .int .i64 0, .int .i64 0, .int .i64 0, .bool false] := by rw [hw]; exact xq.alloc _
  clear xq
  have hBp : w.heap.size ≤ W.heap.size := by omega
  have hpz : W.heap.size < w1.heap.size := hk.1
  clear hw xr
  go_wp2_with fail
  refine (l5Draw_any W.heap.size a len cap _ (hc.below hb) hBp hk).mono ?_
  rintro e w2 ⟨s, hs, rfl, ho, hk2, hrw⟩
  replace hs := hs.an
  have hb2 := hb.trans (ho.below hBp hb.size)
  have xr2 := xr1.onlyR ho (by omega)
  have xq2 := xq1.onlyR ho (by omega)
  clear xq1
  have hsz1 := ho.size
  clear hb ho hk xr1
  have xsB := boxR_new w2 46 #[.slice s.pa s.pn s.pcap, .slice s.sa s.sn s.scap, .int .i64 s.ac, .int .i64 s.cl]
  have hbS := below_new2'' w2 (.cells #[.slice s.pa s.pn s.pcap, .slice s.sa s.sn s.scap, .int .i64 s.ac, .int .i64 s.cl] 46)
  have hszS : W.heap.size < w2.heap.size := hk2.1
  generalize hV : w2.alloc (.cells #[.slice s.pa s.pn s.pcap, .slice s.sa s.sn s.scap, .int .i64 s.ac, .int .i64 s.cl] 46) = V2 at xsB hbS
  obtain ⟨gs, hgs⟩ : ∃ gs, Hid (w2.heap.size = gs) := ⟨w2.heap.size, (rfl : w2.heap.size = w2.heap.size)⟩
  have hb4 := below_app hb2 hbS hb2.size
  have xr4 := xr2.grew hbS
  have xq4 := xq2.grew hbS
  have hk4 : Cur V2 W.heap.size a len cap := hk2.same (hbS.block _ hk2.1) hbS.size
  replace hrw := hrw.grew hbS
  have xs4 := xsB
  clear hb2 xr2 xq2 hk2 hbS xsB
  have X0 := xs4.cell 0
  have X1 := xs4.cell 1
  have X2 := xs4.cell 2
  have X3 := xs4.cell 3
  simp at X0 X1 X2 X3
  go_wp2_with fail
  clear hV X0 X1 X2 X3
  rw [hgs.out]
  have hgs1 : W.heap.size < gs := by rw [← hgs.out]; exact hszS
  rw [hgs.out] at xs4
  clear hszS
  refine (l9Any_any W.heap.size a len cap s _ (hc.below hb4) hBp hk4 hs hrw hpz).mono ?_
  rintro e w3 ⟨t, twf, tl, rfl, ho, hk9, hra⟩
  have hb9 := hb4.trans (ho.below hBp hb4.size)
  have xr9 := xr4.onlyR ho (by omega)
  have hsz2 := hb4.size
  have hsz3 := ho.size
  have xq9 := xq4.onlyR ho (by omega)
  have xs9 := xs4.onlyR ho (by omega)
  replace hrw := hrw.only ho hpz
  have hpra : W.heap.size < V2.heap.size := hk4.1
  clear ho hk4 hb4 xr4 xq4 xs4
  have xg := boxR_new w3 26 #[.int .i64 t.kd, .int .i64 t.nn, .int .i64 t.pi, .int .i64 t.si, .int .i64 t.zo, .bool t.be, .slice t.la t.ln t.lcap]
  have hbV := below_new2'' w3 (.cells #[.int .i64 t.kd, .int .i64 t.nn, .int .i64 t.pi, .int .i64 t.si, .int .i64 t.zo, .bool t.be, .slice t.la t.ln t.lcap] 26)
  have hgz : W.heap.size < w3.heap.size := hk9.1
  generalize hV : w3.alloc (.cells #[.int .i64 t.kd, .int .i64 t.nn, .int .i64 t.pi, .int .i64 t.si, .int .i64 t.zo, .bool t.be, .slice t.la t.ln t.lcap] 26) = V at xg hbV
  obtain ⟨g, hg⟩ : ∃ g, Hid (w3.heap.size = g) := ⟨w3.heap.size, (rfl : w3.heap.size = w3.heap.size)⟩
  have hbA := below_app hb9 hbV hb9.size
  have xrA := xr9.grew hbV
  have hkA : Cur V W.heap.size a len cap := hk9.same (hbV.block _ hk9.1) hbV.size
  replace hra := hra.grew hbV
  have xqA := xq9.grew hbV
  have xsA := xs9.grew hbV
  replace hrw := hrw.grew hbV
  clear hb9 hbV xr9 hk9 xq9 xs9
  go_wp2_with fail
  clear hV
  rw [hg.out]
  have hgw : W.heap.size < g := by rw [← hg.out]; exact hgz
  rw [hg.out] at xg
  clear hgz hg
  have SK : Hid (∀ u : World, BoxR u g 26 #[.int .i64 t.kd, .int .i64 t.nn, .int .i64 t.pi, .int .i64 t.si, .int .i64 t.zo, .bool t.be, .slice t.la t.ln t.lcap] → BoxR u gs 46 #[.slice s.pa s.pn s.pcap, .slice s.sa s.sn s.scap, .int .i64 s.ac, .int .i64 s.cl] → (u.cell? ⟨g, 0, none⟩ = some (.int .i64 t.kd) ∧ u.cell? ⟨g, 1, none⟩ = some (.int .i64 t.nn) ∧ u.cell? ⟨g, 2, none⟩ = some (.int .i64 t.pi) ∧ u.cell? ⟨g, 3, none⟩ = some (.int .i64 t.si) ∧ u.cell? ⟨g, 4, none⟩ = some (.int .i64 t.zo) ∧ u.cell? ⟨g, 5, none⟩ = some (.bool t.be) ∧ u.cell? ⟨g, 6, none⟩ = some (.slice t.la t.ln t.lcap)) ∧ u.cell? ⟨gs, 0, none⟩ = some (.slice s.pa s.pn s.pcap) ∧ u.cell? ⟨gs, 1, none⟩ = some (.slice s.sa s.sn s.scap) ∧ u.cell? ⟨gs, 2, none⟩ = some (.int .i64 s.ac) ∧ u.cell? ⟨gs, 3, none⟩ = some (.int .i64 s.cl)) := fun u h k => ⟨⟨h.cell 0, h.cell 1, h.cell 2, h.cell 3, h.cell 4, h.cell 5, h.cell 6⟩, k.cell 0, k.cell 1, k.cell 2, k.cell 3⟩
  have hcD : Code V.drew a len w.heap.size := hc.below hbA.drew
  refine wp_region_held_drew (S := fun u : World => (u.cell? ⟨g, 0, none⟩ = some (.int .i64 t.kd) ∧ u.cell? ⟨g, 1, none⟩ = some (.int .i64 t.nn) ∧ u.cell? ⟨g, 2, none⟩ = some (.int .i64 t.pi) ∧ u.cell? ⟨g, 3, none⟩ = some (.int .i64 t.si) ∧ u.cell? ⟨g, 4, none⟩ = some (.int .i64 t.zo) ∧ u.cell? ⟨g, 5, none⟩ = some (.bool t.be) ∧ u.cell? ⟨g, 6, none⟩ = some (.slice t.la t.ln t.lcap)) ∧ u.cell? ⟨gs, 0, none⟩ = some (.slice s.pa s.pn s.pcap) ∧ u.cell? ⟨gs, 1, none⟩ = some (.slice s.sa s.sn s.scap) ∧ u.cell? ⟨gs, 2, none⟩ = some (.int .i64 s.ac) ∧ u.cell? ⟨gs, 3, none⟩ = some (.int .i64 s.cl)) (by kernel_rfl) (SK.out V.drew xg xsA) (fun hHeld => ?_)
  refine wpAnyH_take (i := 0) (v := (.agg #[.int .i64 t.kd, .int .i64 t.nn, .int .i64 t.pi, .int .i64 t.si, .int .i64 t.zo, .bool t.be, .slice t.la t.ln t.lcap])) rfl (by kernel_rfl) (by kernel_rfl) (by kernel_rfl) (fun _ _ _ h => h) (Or.inl ⟨by rfl, fun u hSu => by (try dsimp only at hSu); go_simp⟩) hHeld ?_
  try simp only [Act.put, List.setIfInBounds_toArray, List.set_cons_zero, List.set_cons_succ]
  refine wpAnyH_take (i := 1) (v := .pointer (some ⟨W.heap.size, 0, none⟩)) rfl (by kernel_rfl) (by kernel_rfl) (by kernel_rfl) (fun _ _ _ h => h) (Or.inl ⟨by rfl, fun u hSu => by (try dsimp only at hSu); go_simp⟩) hHeld ?_
  try simp only [Act.put, List.setIfInBounds_toArray, List.set_cons_zero, List.set_cons_succ]
  refine wpAnyH_take (i := 2) (v := (.agg #[.slice s.pa s.pn s.pcap, .slice s.sa s.sn s.scap, .int .i64 s.ac, .int .i64 s.cl])) rfl (by kernel_rfl) (by kernel_rfl) (by kernel_rfl) (fun _ _ _ h => h) (Or.inl ⟨by rfl, fun u hSu => by (try dsimp only at hSu); go_simp⟩) hHeld ?_
  try simp only [Act.put, List.setIfInBounds_toArray, List.set_cons_zero, List.set_cons_succ]
  refine wpAnyH_ready (rs := [3]) (by kernel_rfl) (by simp) ?_
  refine AllReadyH.cons rfl (fun K' hK => ?_) AllReadyH.nil
  go_simp
  go_at_call 22
  refine (l6Any_any W.heap.size a len cap s V.drew hcD hBp hkA hs (RowsT.only (w := V) hrw ((Only.refl W.heap.size V).drew) hpz) hpz).mono ?_
  rintro e w5 ⟨q, qwf, rfl, ho, hk5⟩
  have hb5 : Below w.heap.size w w5 := hbA.drew.trans (ho.below hBp hbA.drew.size)
  have xr5 : BoxR w5 w.heap.size 26 #[.int .i64 0, .int .i64 0, .int .i64 0, .int .i64 0, .int .i64 0, .bool false, .slice none 0 0] := BoxR.onlyR (w := V.drew) xrA ho (by omega)
  have xq5 : BoxR w5 (w.heap.size + 1) 31 #[.int .i64 0, .int .i64 0, .int .i64 0, .int .i64 0, .int .i64 0, .int .i64 0, .bool false] := BoxR.onlyR (w := V.drew) xqA ho (by omega)
  have xs5 : BoxR w5 gs 46 #[.slice s.pa s.pn s.pcap, .slice s.sa s.sn s.scap, .int .i64 s.ac, .int .i64 s.cl] := BoxR.onlyR (w := V.drew) xsA ho (by omega)
  have xg5 : BoxR w5 g 26 #[.int .i64 t.kd, .int .i64 t.nn, .int .i64 t.pi, .int .i64 t.si, .int .i64 t.zo, .bool t.be, .slice t.la t.ln t.lcap] := BoxR.onlyR (w := V.drew) xg ho (by omega)
  have hra5 : RowA w5 V2.heap.size t := RowA.only (w := V.drew) hra ho hpra
  clear ho hk5
  refine hK.out _ _ (SK.out _ xg5 xs5) (fun hHeld => ?_)
  clear hK
  try simp only [Act.put, List.setIfInBounds_toArray, List.set_cons_zero, List.set_cons_succ]
  have hra6 : RowA (w5.setRow w.heap.size #[.int .i64 t.kd, .int .i64 t.nn, .int .i64 t.pi, .int .i64 t.si, .int .i64 t.zo, .bool t.be, .slice t.la t.ln t.lcap]) V2.heap.size t := row_setRow' hra5 (own_ne hra5 xr5 (by decide)) _
  have xr6 : BoxR (w5.setRow w.heap.size #[.int .i64 t.kd, .int .i64 t.nn, .int .i64 t.pi, .int .i64 t.si, .int .i64 t.zo, .bool t.be, .slice t.la t.ln t.lcap]) w.heap.size 26 #[.int .i64 t.kd, .int .i64 t.nn, .int .i64 t.pi, .int .i64 t.si, .int .i64 t.zo, .bool t.be, .slice t.la t.ln t.lcap] := setRow_heap _ _ _ _ _ _ xr5
  have xq6 : BoxR (w5.setRow w.heap.size #[.int .i64 t.kd, .int .i64 t.nn, .int .i64 t.pi, .int .i64 t.si, .int .i64 t.zo, .bool t.be, .slice t.la t.ln t.lcap]) (w.heap.size + 1) 31 #[.int .i64 0, .int .i64 0, .int .i64 0, .int .i64 0, .int .i64 0, .int .i64 0, .bool false] := oldRow9 xq5 (by omega)
  have xs6 : BoxR (w5.setRow w.heap.size #[.int .i64 t.kd, .int .i64 t.nn, .int .i64 t.pi, .int .i64 t.si, .int .i64 t.zo, .bool t.be, .slice t.la t.ln t.lcap]) gs 46 #[.slice s.pa s.pn s.pcap, .slice s.sa s.sn s.scap, .int .i64 s.ac, .int .i64 s.cl] := oldRow9 xs5 (by omega)
  have xg6 : BoxR (w5.setRow w.heap.size #[.int .i64 t.kd, .int .i64 t.nn, .int .i64 t.pi, .int .i64 t.si, .int .i64 t.zo, .bool t.be, .slice t.la t.ln t.lcap]) g 26 #[.int .i64 t.kd, .int .i64 t.nn, .int .i64 t.pi, .int .i64 t.si, .int .i64 t.zo, .bool t.be, .slice t.la t.ln t.lcap] := oldRow9 xg5 (by omega)
  have hb6 := below_setRow hb5 (Nat.le_refl _) #[.int .i64 t.kd, .int .i64 t.nn, .int .i64 t.pi, .int .i64 t.si, .int .i64 t.zo, .bool t.be, .slice t.la t.ln t.lcap]
  refine wpAnyH_ready (rs := [4]) (by kernel_rfl) (by simp) ?_
  refine AllReadyH.cons rfl (fun K' hK => ?_) AllReadyH.nil
  rw [if_pos (by rfl)]
  refine wp_store_row 26 (.tmp 2) (.tmp 14) rfl w.heap.size #[.int .i64 t.kd, .int .i64 t.nn, .int .i64 t.pi, .int .i64 t.si, .int .i64 t.zo, .bool t.be, .slice t.la t.ln t.lcap] (by first | rfl | simp [Act.eval]) rfl _ _ xr5 (by kernel_rfl) (by rfl) (by simp [Value.oneCell']) ?_
  refine hK.out _ _ (SK.out _ xg6 xs6) (fun hHeld => ?_)
  clear hK
  try simp only [Act.put, List.setIfInBounds_toArray, List.set_cons_zero, List.set_cons_succ]
  generalize w5.setRow w.heap.size #[.int .i64 t.kd, .int .i64 t.nn, .int .i64 t.pi, .int .i64 t.si, .int .i64 t.zo, .bool t.be, .slice t.la t.ln t.lcap] = X6 at xr6 xq6 xs6 xg6 hb6 hra6 hHeld ⊢
  have hne : some (w.heap.size + 1) ≠ (Value.slice t.la t.ln t.lcap).ownBlock := fun e => by have := (World.ownsRow.lt hra6 _ e.symm).1; omega
  have hraZ : RowA (X6.setRow (w.heap.size + 1) #[.int .i64 q.kd, .int .i64 q.sr, .int .i64 q.pi, .int .i64 q.si, .int .i64 q.nn, .int .i64 q.zo, .bool q.be]) V2.heap.size t := row_setRow' hra6 hne _
  have xq7 : BoxR (X6.setRow (w.heap.size + 1) #[.int .i64 q.kd, .int .i64 q.sr, .int .i64 q.pi, .int .i64 q.si, .int .i64 q.nn, .int .i64 q.zo, .bool q.be]) (w.heap.size + 1) 31 #[.int .i64 q.kd, .int .i64 q.sr, .int .i64 q.pi, .int .i64 q.si, .int .i64 q.nn, .int .i64 q.zo, .bool q.be] := setRow_heap _ _ _ _ _ _ xq6
  have xr7 : BoxR (X6.setRow (w.heap.size + 1) #[.int .i64 q.kd, .int .i64 q.sr, .int .i64 q.pi, .int .i64 q.si, .int .i64 q.nn, .int .i64 q.zo, .bool q.be]) w.heap.size 26 #[.int .i64 t.kd, .int .i64 t.nn, .int .i64 t.pi, .int .i64 t.si, .int .i64 t.zo, .bool t.be, .slice t.la t.ln t.lcap] := oldRow9 xr6 (by omega)
  have xs7 : BoxR (X6.setRow (w.heap.size + 1) #[.int .i64 q.kd, .int .i64 q.sr, .int .i64 q.pi, .int .i64 q.si, .int .i64 q.nn, .int .i64 q.zo, .bool q.be]) gs 46 #[.slice s.pa s.pn s.pcap, .slice s.sa s.sn s.scap, .int .i64 s.ac, .int .i64 s.cl] := oldRow9 xs6 (by omega)
  have xg7 : BoxR (X6.setRow (w.heap.size + 1) #[.int .i64 q.kd, .int .i64 q.sr, .int .i64 q.pi, .int .i64 q.si, .int .i64 q.nn, .int .i64 q.zo, .bool q.be]) g 26 #[.int .i64 t.kd, .int .i64 t.nn, .int .i64 t.pi, .int .i64 t.si, .int .i64 t.zo, .bool t.be, .slice t.la t.ln t.lcap] := oldRow9 xg6 (by omega)
  have hb7 := below_setRow hb6 (by omega : w.heap.size ≤ w.heap.size + 1) #[.int .i64 q.kd, .int .i64 q.sr, .int .i64 q.pi, .int .i64 q.si, .int .i64 q.nn, .int .i64 q.zo, .bool q.be]
  refine wpAnyH_ready (rs := [5]) (by kernel_rfl) (by simp) ?_
  refine AllReadyH.cons rfl (fun K' hK => ?_) AllReadyH.nil
  rw [if_pos (by rfl)]
  refine wp_store_row 31 (.tmp 3) (.tmp 17) rfl (w.heap.size + 1) #[.int .i64 q.kd, .int .i64 q.sr, .int .i64 q.pi, .int .i64 q.si, .int .i64 q.nn, .int .i64 q.zo, .bool q.be] (by first | rfl | simp [Act.eval]) rfl _ _ xq6 (by kernel_rfl) (by rfl) (by simp [Value.oneCell']) ?_
  refine hK.out _ _ (SK.out _ xg7 xs7) (fun hHeld => ?_)
  clear hK
  try simp only [Act.put, List.setIfInBounds_toArray, List.set_cons_zero, List.set_cons_succ]
  refine wpAnyH_done (by kernel_rfl) ?_ _
  try simp only [Act.put, List.setIfInBounds_toArray, List.set_cons_zero, List.set_cons_succ]
  clear hHeld SK
  generalize X6.setRow (w.heap.size + 1) #[.int .i64 q.kd, .int .i64 q.sr, .int .i64 q.pi, .int .i64 q.si, .int .i64 q.nn, .int .i64 q.zo, .bool q.be] = X7 at xr7 xq7 hb7 hraZ ⊢
  go_wp2
  (try simp only [Exit.inBlock, Exit.then]); refine bodyPost_ret (results_rows9 rfl _ _ w.heap.size (w.heap.size + 1) _ _ _ _ _ _ _ _ rfl xr7 Tryd.underlying26 rfl (by kernel_rfl) rfl xq7 Tryd.underlying31 rfl (by kernel_rfl)) rfl ?_
  obtain ⟨lb, hok⟩ := RowA.okB hraZ twf
  exact ⟨{ t with lb := lb }, q, hok, tl, qwf, rfl, hb7⟩
end Go.Proofs.YtgaodfjmehofgacDoor
