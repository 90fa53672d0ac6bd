/-
  Chapter 9: the draw l9Any. Written by tools/drawac.gen.py. Own work.
-/
import Derived.Test.YtodfdfncdoliiadGreatGDrawA12
import Derived.Test.YtodfdfncdoliiadGreatGGuC4
import Derived.Deep.RegionHeld
import Derived.Deep.RegionHeldLaw
import Derived.Deep.DeepCutAuto
import Derived.Deep.CutBlock
namespace Go.Proofs.YtodfdfncdoliiadGreat
open Go.ChangeShapes Go.WideShapes Go.ChangeAt Go.RowKit
set_option maxRecDepth 100000
set_option linter.unusedVariables false
set_option linter.unusedSimpArgs false

theorem oldRow9 {w : World} {p q t : Nat} {cs cs' : Array Value} (h : BoxR w p t cs) (hne : p ≠ q) : BoxR (w.setRow q cs') p t cs := by
  unfold BoxR World.setRow
  simp only [Array.getElem?_modify]
  rw [if_neg (Ne.symm hne)]
  exact h
theorem DA.drew {w : World} {p : Nat} {a : Option Addr} {len cap : Nat} {s : Stt} {g : Nat} {t : Ac} {u : World} (h : DA w p a len cap s g t u) : DA w p a len cap s g t u.drew :=
  ⟨h.only.drew, h.cur, h.pr, h.rg, h.bx, h.br, h.bg, h.rw, h.wf⟩
theorem snoc_wf {n : Nat} {f : Nat → Ev} {q : Ev} (h : ∀ i, i < n → (f i).wf) (hq : q.wf) : ∀ i, i < n + 1 → (snoc n f q i).wf := fun i hi => by
  unfold snoc
  by_cases e : i = n
  · rw [if_pos e]; exact hq
  · rw [if_neg e]; exact h i (by omega)
theorem DA.appN {w : World} {p : Nat} {a : Option Addr} {len cap : Nat} {s : Stt} {g : Nat} {t : Ac} {u : World} (h : DA w p a len cap s g t u) {o : Obj} {w4 : World} {v4 : Value} {n' : Nat} {es' : Nat → Ev} (hwf : ∀ i, i < n' → (es' i).wf) (ho : w4.ownsRow w.heap.size 39 7 v4 n' (valsE evC n' es')) (hg4 : (u.alloc o).grownBy w4 (Value.slice t.la t.ln t.lcap).ownBlock) :
    ∃ la' cap', v4 = .slice la' n' cap' ∧ Cur w4 p a len cap ∧ BoxR w4 g 30 #[.int .i64 t.kd, .int .i64 t.nn, .int .i64 t.pi, .int .i64 t.si, .int .i64 t.zo, .bool t.be, .slice t.la t.ln t.lcap] ∧ DA w p a len cap s g { t with la := la', ln := n', lcap := cap', es := es' } (w4.setCell ⟨g, 6, none⟩ (.slice la' n' cap')) := by
  obtain ⟨la', cap', rfl, _⟩ := row_form ho
  have hA := h.alloc o
  have bx4 : BoxR w4 w.heap.size 37 #[.slice s.pa s.pn s.pcap, .slice s.sa s.sn s.scap, .int .i64 s.ac, .int .i64 s.cl] := (hg4.block _ hA.bx.lt (own_ne h.rw h.bx (by decide))).trans hA.bx
  have br4 : BoxR w4 (w.heap.size + 1) 30 #[.int .i64 0, .int .i64 0, .int .i64 0, .int .i64 0, .int .i64 0, .bool false, .slice none 0 0] := (hg4.block _ hA.br.lt (own_ne h.rw h.br (by decide))).trans hA.br
  have bg4 : BoxR w4 g 30 #[.int .i64 t.kd, .int .i64 t.nn, .int .i64 t.pi, .int .i64 t.si, .int .i64 t.zo, .bool t.be, .slice t.la t.ln t.lcap] := (hg4.block _ hA.bg.lt (own_ne h.rw h.bg (by decide))).trans hA.bg
  have hc4 := cur_grown h.cur h.pr h.rw hg4
  have h1 := h.pr
  have h2 := h.rg
  exact ⟨la', cap', rfl, hc4, bg4, ⟨(only_grown (B := 0) h.only h.rw hg4).setCell (.inr (by show w.heap.size ≤ g; omega)) _, hc4.only ((Only.refl g w4).setCell (.inl rfl) _) (by omega), h.pr, h.rg, bx4.other (q := ⟨g, 6, none⟩) (by show w.heap.size ≠ g; omega) _, br4.other (q := ⟨g, 6, none⟩) (by show w.heap.size + 1 ≠ g; omega) _, bg4.put 6 _, row_set ho (own_ne ho bg4 (by decide)) _, ⟨h.wf.1, hwf⟩⟩⟩
theorem vals3 (n : Nat) (f : Nat → Ev) (q1 q2 q3 : Ev) : valsE evC n f ++ (evC q1 ++ (evC q2 ++ evC q3)) = valsE evC (n + 3) (snoc (n + 2) (snoc (n + 1) (snoc n f q1) q2) q3) := by
  rw [← List.append_assoc, valsE_snoc' evC_len, ← List.append_assoc, valsE_snoc' evC_len, valsE_snoc' evC_len]
/-- while the act's first draw is under way -/
structure D0 (w : World) (p : Nat) (a : Option Addr) (len cap : Nat) (s : Stt) (u : World) : Prop where
  only : Only p w u
  cur : Cur u p a len cap
  pr : p < w.heap.size
  bx : BoxR u w.heap.size 37 #[.slice s.pa s.pn s.pcap, .slice s.sa s.sn s.scap, .int .i64 s.ac, .int .i64 s.cl]
  br : BoxR u (w.heap.size + 1) 30 #[.int .i64 0, .int .i64 0, .int .i64 0, .int .i64 0, .int .i64 0, .bool false, .slice none 0 0]
theorem D0.draw {w : World} {p : Nat} {a : Option Addr} {len cap : Nat} {s : Stt} {u u' : World} (h : D0 w p a len cap s u) (ho : Only p u u') (hk : Cur u' p a len cap) : D0 w p a len cap s u' :=
  have h1 := h.pr
  ⟨h.only.trans ho, hk, h.pr, h.bx.onlyR ho (by omega), h.br.onlyR ho (by omega)⟩
theorem D0.alloc {w : World} {p : Nat} {a : Option Addr} {len cap : Nat} {s : Stt} {u : World} (h : D0 w p a len cap s u) (o : Obj) : D0 w p a len cap s (u.alloc o) :=
  ⟨h.only.alloc o, h.cur.only ((Only.refl u.heap.size u).alloc o) (Nat.ne_of_lt h.cur.1), h.pr, h.bx.alloc o, h.br.alloc o⟩
theorem D0.drew {w : World} {p : Nat} {a : Option Addr} {len cap : Nat} {s : Stt} {u : World} (h : D0 w p a len cap s u) : D0 w p a len cap s u.drew := ⟨h.only.drew, h.cur, h.pr, h.bx, h.br⟩
/-- the act that was drawn, stored where it was made room for -/
theorem D0.fill {w : World} {p : Nat} {a : Option Addr} {len cap : Nat} {s : Stt} {u : World} {t : Ac} {g B : Nat} (h : D0 w p a len cap s u) (bg : BoxR u g 30 #[.int .i64 0, .int .i64 0, .int .i64 0, .int .i64 0, .int .i64 0, .bool false, .slice none 0 0]) (hg : w.heap.size + 1 < g) (hr : RowA u B t) (hB : w.heap.size ≤ B) (hw : t.wf) : DA w p a len cap s g t (u.setRow g #[.int .i64 t.kd, .int .i64 t.nn, .int .i64 t.pi, .int .i64 t.si, .int .i64 t.zo, .bool t.be, .slice t.la t.ln t.lcap]) :=
  have h1 := h.pr
  ⟨h.only.setRow (by omega) _, h.cur.setRow (by omega) _, h.pr, hg, oldRow9 h.bx (by omega), oldRow9 h.br (by omega), setRow_heap _ _ _ _ _ _ bg, row_setRow' (RowA.down hr hB) (own_ne hr bg (by decide)) _, hw⟩
set_option maxHeartbeats 8000000 in
theorem l9Any_any (p : Nat) (a : Option Addr) (len cap : Nat) (s : Stt) (w : World) {B C : Nat} (hc : Code w a len B) (hB : B ≤ p) (hcur : Cur w p a len cap) (hs : anS s) (hrw : RowsT w C s) (hC : p < C) :
    Calls Tryz.prog 97 #[.pointer (some ⟨p, 0, none⟩), (.agg #[.slice s.pa s.pn s.pcap, .slice s.sa s.sn s.scap, .int .i64 s.ac, .int .i64 s.cl])] w fun e w' => ∃ t : Ac, t.wf ∧ t.ln ≤ 5 ∧ e = .returned (.agg #[.int .i64 t.kd, .int .i64 t.nn, .int .i64 t.pi, .int .i64 t.si, .int .i64 t.zo, .bool t.be, .slice t.la t.ln t.lcap]) ∧ Only p w w' ∧ Cur w' p a len cap ∧ RowA w' w.heap.size t := by
  have hp : p < w.heap.size := hcur.1
  have xb := (boxR_new w 37 #[.slice s.pa s.pn s.pcap, .slice s.sa s.sn s.scap, .int .i64 s.ac, .int .i64 s.cl]).alloc (.cells #[.int .i64 0, .int .i64 0, .int .i64 0, .int .i64 0, .int .i64 0, .bool false, .slice none 0 0] 30)
  have br : BoxR ((w.alloc (.cells #[.slice s.pa s.pn s.pcap, .slice s.sa s.sn s.scap, .int .i64 s.ac, .int .i64 s.cl] 37)).alloc (.cells #[.int .i64 0, .int .i64 0, .int .i64 0, .int .i64 0, .int .i64 0, .bool false, .slice none 0 0] 30)) (w.heap.size + 1) 30 #[.int .i64 0, .int .i64 0, .int .i64 0, .int .i64 0, .int .i64 0, .bool false, .slice none 0 0] := heap_alloc2_new _ _ _
  have h0 : D0 w p a len cap s ((w.alloc (.cells #[.slice s.pa s.pn s.pcap, .slice s.sa s.sn s.scap, .int .i64 s.ac, .int .i64 s.cl] 37)).alloc (.cells #[.int .i64 0, .int .i64 0, .int .i64 0, .int .i64 0, .int .i64 0, .bool false, .slice none 0 0] 30)) := ⟨((Only.refl p w).alloc _).alloc _, (hcur.only ((Only.refl w.heap.size w).alloc _) (Nat.ne_of_lt hp)).only ((Only.refl (w.heap.size + 1) _).alloc _) (by omega), hp, xb, br⟩
  clear xb br
  generalize hW : (w.alloc (.cells #[.slice s.pa s.pn s.pcap, .slice s.sa s.sn s.scap, .int .i64 s.ac, .int .i64 s.cl] 37)).alloc (.cells #[.int .i64 0, .int .i64 0, .int .i64 0, .int .i64 0, .int .i64 0, .bool false, .slice none 0 0] 30) = W at h0
  have hlw : w.heap.size + 1 < W.heap.size := h0.br.lt
  obtain ⟨i0, hi, hz0, hz1, hz2⟩ := info_parts Tryz.infoEv
  have SK : Hid (∀ u : World, BoxR u w.heap.size 37 #[.slice s.pa s.pn s.pcap, .slice s.sa s.sn s.scap, .int .i64 s.ac, .int .i64 s.cl] → u.cell? ⟨w.heap.size, 0, none⟩ = some (.slice s.pa s.pn s.pcap) ∧ u.cell? ⟨w.heap.size, 1, none⟩ = some (.slice s.sa s.sn s.scap) ∧ u.cell? ⟨w.heap.size, 2, none⟩ = some (.int .i64 s.ac) ∧ u.cell? ⟨w.heap.size, 3, none⟩ = some (.int .i64 s.cl)) := fun u h => ⟨h.cell 0, h.cell 1, h.cell 2, h.cell 3⟩
  go_enter Tryz.func97, Tryz.ntmps97
  go_wp2_with fail
  clear hW hcur
  refine wp_cutT (fun x : Int × Nat × Ac => [(6, .pointer (some ⟨p, 0, none⟩)), (7, (.agg #[.slice s.pa s.pn s.pcap, .slice s.sa s.sn s.scap, .int .i64 s.ac, .int .i64 s.cl])), (8, .pointer (some ⟨p, 0, none⟩)), (9, .int .i64 x.1), (10, .int .i64 (1 + x.1)), (11, (.agg #[.int .i64 x.2.2.kd, .int .i64 x.2.2.nn, .int .i64 x.2.2.pi, .int .i64 x.2.2.si, .int .i64 x.2.2.zo, .bool x.2.2.be, .slice x.2.2.la x.2.2.ln x.2.2.lcap])), (5, .pointer (some ⟨x.2.1, 0, none⟩))]) (fun x u => DA w p a len cap s x.2.1 x.2.2 u ∧ x.2.2.ln ≤ 2) ?_ ?_
  · have hD := h0.drew
    refine wp_region_held_drew (S := fun u : World => u.cell? ⟨w.heap.size, 0, none⟩ = some (.slice s.pa s.pn s.pcap) ∧ u.cell? ⟨w.heap.size, 1, none⟩ = some (.slice s.sa s.sn s.scap) ∧ u.cell? ⟨w.heap.size, 2, none⟩ = some (.int .i64 s.ac) ∧ u.cell? ⟨w.heap.size, 3, none⟩ = some (.int .i64 s.cl)) (by kernel_rfl) (SK.out _ hD.bx) (fun hHeld => ?_)
    refine wpAnyH_take (i := 0) (v := .pointer (some ⟨p, 0, none⟩)) rfl (by kernel_rfl) (by kernel_rfl) (by kernel_rfl) (fun _ _ _ h => h) (Or.inl ⟨by rfl, fun u hSu => by (try dsimp only at hSu); go_simp⟩) hHeld ?_
    try simp only [Act.put, List.setIfInBounds_toArray, List.set_cons_zero, List.set_cons_succ]
    refine wpAnyH_take (i := 1) (v := (.agg #[.slice s.pa s.pn s.pcap, .slice s.sa s.sn s.scap, .int .i64 s.ac, .int .i64 s.cl])) rfl (by kernel_rfl) (by kernel_rfl) (by kernel_rfl) (fun _ _ _ h => h) (Or.inl ⟨by rfl, fun u hSu => by (try dsimp only at hSu); go_simp⟩) hHeld ?_
    try simp only [Act.put, List.setIfInBounds_toArray, List.set_cons_zero, List.set_cons_succ]
    refine wpAnyH_take (i := 2) (v := .pointer (some ⟨p, 0, none⟩)) rfl (by kernel_rfl) (by kernel_rfl) (by kernel_rfl) (fun _ _ _ h => h) (Or.inl ⟨by rfl, fun u hSu => by (try dsimp only at hSu); go_simp⟩) hHeld ?_
    try simp only [Act.put, List.setIfInBounds_toArray, List.set_cons_zero, List.set_cons_succ]
    refine wpAnyH_ready (rs := [3, 6]) (by kernel_rfl) (by simp) ?_
    refine AllReadyH.cons rfl (fun K' hK => ?_) (AllReadyH.cons rfl (fun K' hK => ?_) (AllReadyH.nil))
    · go_simp
      go_at_call 52
      refine (l1Below_any p a len cap _ _ (hc.only hD.only hB) hB hD.cur).mono ?_
      rintro e y1_ ⟨x, n0_, n1_, rfl, ho, hk⟩
      have n2_ := n1_ (by omega)
      have i_x : inI64 (1 + x) := by unfold inI64; omega
      have hdy1_ := hD.draw ho hk
      clear ho hk n1_
      refine hK.out _ _ (SK.out _ hdy1_.bx) (fun hHeld => ?_)
      clear hK
      try simp only [Act.put, List.setIfInBounds_toArray, List.set_cons_zero, List.set_cons_succ]
      refine wpAnyH_take (i := 4) (oi := ⟨some 10, .binOp .add 3 (.const (.int .i64 1)) (.tmp 9) 3, 3, _, _, none⟩) (v := .int .i64 (1 + x)) rfl (by kernel_rfl) (by kernel_rfl) (by kernel_rfl) (fun _ _ _ h => h) (Or.inl ⟨by rfl, fun u hSu => by (try dsimp only at hSu); go_simp; first | go_num | (rw [IntKind.wrap_i64]; omega)⟩) hHeld ?_
      try simp only [Act.put, List.setIfInBounds_toArray, List.set_cons_zero, List.set_cons_succ]
      refine wpAnyH_ready (rs := [5, 6]) (by kernel_rfl) (by simp) ?_
      refine AllReadyH.cons rfl (fun K' hK => ?_) (AllReadyH.cons rfl (fun K' hK => ?_) (AllReadyH.nil))
      · go_simp
        go_at_call 138
        refine (l9Draw_any p a len cap s _ _ (hc.only hdy1_.only hB) hB hdy1_.cur hs (hrw.only hdy1_.only hC) hC).mono ?_
        rintro e y2_ ⟨t, twf, tl, rfl, ho, hk, hra⟩
        have hdy2_ := hdy1_.draw ho hk
        have hz : w.heap.size ≤ y1_.heap.size := hdy1_.only.size
        clear ho hk
        refine hK.out _ _ (SK.out _ hdy2_.bx) (fun hHeld => ?_)
        clear hK
        try simp only [Act.put, List.setIfInBounds_toArray, List.set_cons_zero, List.set_cons_succ]
        refine wpAnyH_ready (rs := [6]) (by kernel_rfl) (by simp) ?_
        refine AllReadyH.cons rfl (fun K' hK => ?_) AllReadyH.nil
        have ha40 : D0 w p a len cap s (y2_.alloc (.cells #[.int .i64 0, .int .i64 0, .int .i64 0, .int .i64 0, .int .i64 0, .bool false, .slice none 0 0] 30)) := hdy2_.alloc (.cells #[.int .i64 0, .int .i64 0, .int .i64 0, .int .i64 0, .int .i64 0, .bool false, .slice none 0 0] 30)
        have bg : BoxR (y2_.alloc (.cells #[.int .i64 0, .int .i64 0, .int .i64 0, .int .i64 0, .int .i64 0, .bool false, .slice none 0 0] 30)) y2_.heap.size 30 #[.int .i64 0, .int .i64 0, .int .i64 0, .int .i64 0, .int .i64 0, .bool false, .slice none 0 0] := boxR_new y2_ 30 #[.int .i64 0, .int .i64 0, .int .i64 0, .int .i64 0, .int .i64 0, .bool false, .slice none 0 0]
        have hgz : w.heap.size + 1 < y2_.heap.size := hdy2_.br.lt
        replace hra := hra.grew (below_new2'' (y2_) (.cells #[.int .i64 0, .int .i64 0, .int .i64 0, .int .i64 0, .int .i64 0, .bool false, .slice none 0 0] 30))
        go_simp
        refine hK.out _ _ (SK.out _ ha40.bx) (fun hHeld => ?_)
        clear hK
        try simp only [Act.put, List.setIfInBounds_toArray, List.set_cons_zero, List.set_cons_succ]
        generalize hGy3_ : (y2_.alloc (.cells #[.int .i64 0, .int .i64 0, .int .i64 0, .int .i64 0, .int .i64 0, .bool false, .slice none 0 0] 30)) = y3_ at ha40 bg hra hHeld ⊢
        clear hGy3_
        obtain ⟨g, hg⟩ : ∃ g, y2_.heap.size = g := ⟨_, rfl⟩
        rw [hg] at bg hgz ⊢
        clear hg
        have hpg : p < g := by omega
        refine wpAnyH_ready (rs := [7]) (by kernel_rfl) (by simp) ?_
        refine AllReadyH.cons rfl (fun K' hK => ?_) AllReadyH.nil
        have H := ha40.fill bg hgz hra hz twf
        rw [if_pos (by rfl)]
        refine wp_store_row 30 (.tmp 5) (.tmp 11) rfl g #[.int .i64 t.kd, .int .i64 t.nn, .int .i64 t.pi, .int .i64 t.si, .int .i64 t.zo, .bool t.be, .slice t.la t.ln t.lcap] (by first | rfl | simp [Act.eval]) rfl _ _ bg (by kernel_rfl) (by rfl) (by simp [Value.oneCell']) ?_
        refine hK.out _ _ (SK.out _ H.bx) (fun hHeld => ?_)
        clear hK
        try simp only [Act.put, List.setIfInBounds_toArray, List.set_cons_zero, List.set_cons_succ]
        refine wpAnyH_done (by kernel_rfl) ?_ _
        exact ⟨(x, g, t), rfl, H, tl⟩
      · have ha64 : D0 w p a len cap s (y1_.alloc (.cells #[.int .i64 0, .int .i64 0, .int .i64 0, .int .i64 0, .int .i64 0, .bool false, .slice none 0 0] 30)) := hdy1_.alloc (.cells #[.int .i64 0, .int .i64 0, .int .i64 0, .int .i64 0, .int .i64 0, .bool false, .slice none 0 0] 30)
        have bg : BoxR (y1_.alloc (.cells #[.int .i64 0, .int .i64 0, .int .i64 0, .int .i64 0, .int .i64 0, .bool false, .slice none 0 0] 30)) y1_.heap.size 30 #[.int .i64 0, .int .i64 0, .int .i64 0, .int .i64 0, .int .i64 0, .bool false, .slice none 0 0] := boxR_new y1_ 30 #[.int .i64 0, .int .i64 0, .int .i64 0, .int .i64 0, .int .i64 0, .bool false, .slice none 0 0]
        have hgz : w.heap.size + 1 < y1_.heap.size := hdy1_.br.lt
        go_simp
        refine hK.out _ _ (SK.out _ ha64.bx) (fun hHeld => ?_)
        clear hK
        try simp only [Act.put, List.setIfInBounds_toArray, List.set_cons_zero, List.set_cons_succ]
        generalize hGy4_ : (y1_.alloc (.cells #[.int .i64 0, .int .i64 0, .int .i64 0, .int .i64 0, .int .i64 0, .bool false, .slice none 0 0] 30)) = y4_ at ha64 bg hHeld ⊢
        clear hGy4_
        obtain ⟨g, hg⟩ : ∃ g, y1_.heap.size = g := ⟨_, rfl⟩
        rw [hg] at bg hgz ⊢
        clear hg
        have hpg : p < g := by omega
        refine wpAnyH_ready (rs := [5]) (by kernel_rfl) (by simp) ?_
        refine AllReadyH.cons rfl (fun K' hK => ?_) AllReadyH.nil
        go_simp
        go_at_call 138
        refine (l9Draw_any p a len cap s _ _ (hc.only ha64.only hB) hB ha64.cur hs (hrw.only ha64.only hC) hC).mono ?_
        rintro e y5_ ⟨t, twf, tl, rfl, ho, hk, hra⟩
        have hdy5_ := ha64.draw ho hk
        replace bg := bg.onlyR ho (by omega)
        have hz : w.heap.size ≤ y4_.heap.size := ha64.only.size
        clear ho hk
        refine hK.out _ _ (SK.out _ hdy5_.bx) (fun hHeld => ?_)
        clear hK
        try simp only [Act.put, List.setIfInBounds_toArray, List.set_cons_zero, List.set_cons_succ]
        refine wpAnyH_ready (rs := [7]) (by kernel_rfl) (by simp) ?_
        refine AllReadyH.cons rfl (fun K' hK => ?_) AllReadyH.nil
        have H := hdy5_.fill bg hgz hra hz twf
        rw [if_pos (by rfl)]
        refine wp_store_row 30 (.tmp 5) (.tmp 11) rfl g #[.int .i64 t.kd, .int .i64 t.nn, .int .i64 t.pi, .int .i64 t.si, .int .i64 t.zo, .bool t.be, .slice t.la t.ln t.lcap] (by first | rfl | simp [Act.eval]) rfl _ _ bg (by kernel_rfl) (by rfl) (by simp [Value.oneCell']) ?_
        refine hK.out _ _ (SK.out _ H.bx) (fun hHeld => ?_)
        clear hK
        try simp only [Act.put, List.setIfInBounds_toArray, List.set_cons_zero, List.set_cons_succ]
        refine wpAnyH_done (by kernel_rfl) ?_ _
        exact ⟨(x, g, t), rfl, H, tl⟩
    · have ha100 : D0 w p a len cap s (W.alloc (.cells #[.int .i64 0, .int .i64 0, .int .i64 0, .int .i64 0, .int .i64 0, .bool false, .slice none 0 0] 30)).drew := (h0.alloc (.cells #[.int .i64 0, .int .i64 0, .int .i64 0, .int .i64 0, .int .i64 0, .bool false, .slice none 0 0] 30)).drew
      have bg : BoxR (W.alloc (.cells #[.int .i64 0, .int .i64 0, .int .i64 0, .int .i64 0, .int .i64 0, .bool false, .slice none 0 0] 30)).drew W.heap.size 30 #[.int .i64 0, .int .i64 0, .int .i64 0, .int .i64 0, .int .i64 0, .bool false, .slice none 0 0] := boxR_new W 30 #[.int .i64 0, .int .i64 0, .int .i64 0, .int .i64 0, .int .i64 0, .bool false, .slice none 0 0]
      have hgz : w.heap.size + 1 < W.heap.size := hlw
      go_simp
      refine hK.out _ _ (SK.out _ ha100.bx) (fun hHeld => ?_)
      clear hK
      try simp only [Act.put, List.setIfInBounds_toArray, List.set_cons_zero, List.set_cons_succ]
      generalize hGy6_ : (W.alloc (.cells #[.int .i64 0, .int .i64 0, .int .i64 0, .int .i64 0, .int .i64 0, .bool false, .slice none 0 0] 30)).drew = y6_ at ha100 bg hHeld ⊢
      clear hGy6_
      obtain ⟨g, hg⟩ : ∃ g, W.heap.size = g := ⟨_, rfl⟩
      rw [hg] at bg hgz ⊢
      clear hg
      have hpg : p < g := by omega
      refine wpAnyH_ready (rs := [3]) (by kernel_rfl) (by simp) ?_
      refine AllReadyH.cons rfl (fun K' hK => ?_) AllReadyH.nil
      go_simp
      go_at_call 52
      refine (l1Below_any p a len cap _ _ (hc.only ha100.only hB) hB ha100.cur).mono ?_
      rintro e y7_ ⟨x, n0_, n1_, rfl, ho, hk⟩
      have n2_ := n1_ (by omega)
      have i_x : inI64 (1 + x) := by unfold inI64; omega
      have hdy7_ := ha100.draw ho hk
      replace bg := bg.onlyR ho (by omega)
      clear ho hk n1_
      refine hK.out _ _ (SK.out _ hdy7_.bx) (fun hHeld => ?_)
      clear hK
      try simp only [Act.put, List.setIfInBounds_toArray, List.set_cons_zero, List.set_cons_succ]
      refine wpAnyH_take (i := 4) (oi := ⟨some 10, .binOp .add 3 (.const (.int .i64 1)) (.tmp 9) 3, 3, _, _, none⟩) (v := .int .i64 (1 + x)) rfl (by kernel_rfl) (by kernel_rfl) (by kernel_rfl) (fun _ _ _ h => h) (Or.inl ⟨by rfl, fun u hSu => by (try dsimp only at hSu); go_simp; first | go_num | (rw [IntKind.wrap_i64]; omega)⟩) hHeld ?_
      try simp only [Act.put, List.setIfInBounds_toArray, List.set_cons_zero, List.set_cons_succ]
      refine wpAnyH_ready (rs := [5]) (by kernel_rfl) (by simp) ?_
      refine AllReadyH.cons rfl (fun K' hK => ?_) AllReadyH.nil
      go_simp
      go_at_call 138
      refine (l9Draw_any p a len cap s _ _ (hc.only hdy7_.only hB) hB hdy7_.cur hs (hrw.only hdy7_.only hC) hC).mono ?_
      rintro e y8_ ⟨t, twf, tl, rfl, ho, hk, hra⟩
      have hdy8_ := hdy7_.draw ho hk
      replace bg := bg.onlyR ho (by omega)
      have hz : w.heap.size ≤ y7_.heap.size := hdy7_.only.size
      clear ho hk
      refine hK.out _ _ (SK.out _ hdy8_.bx) (fun hHeld => ?_)
      clear hK
      try simp only [Act.put, List.setIfInBounds_toArray, List.set_cons_zero, List.set_cons_succ]
      refine wpAnyH_ready (rs := [7]) (by kernel_rfl) (by simp) ?_
      refine AllReadyH.cons rfl (fun K' hK => ?_) AllReadyH.nil
      have H := hdy8_.fill bg hgz hra hz twf
      rw [if_pos (by rfl)]
      refine wp_store_row 30 (.tmp 5) (.tmp 11) rfl g #[.int .i64 t.kd, .int .i64 t.nn, .int .i64 t.pi, .int .i64 t.si, .int .i64 t.zo, .bool t.be, .slice t.la t.ln t.lcap] (by first | rfl | simp [Act.eval]) rfl _ _ bg (by kernel_rfl) (by rfl) (by simp [Value.oneCell']) ?_
      refine hK.out _ _ (SK.out _ H.bx) (fun hHeld => ?_)
      clear hK
      try simp only [Act.put, List.setIfInBounds_toArray, List.set_cons_zero, List.set_cons_succ]
      refine wpAnyH_done (by kernel_rfl) ?_ _
      exact ⟨(x, g, t), rfl, H, tl⟩
  rintro ⟨x, g, t⟩ V ⟨H, hl2⟩
  dsimp only at H hl2 ⊢
  simp only [puts, List.foldl, Act.put, List.setIfInBounds_toArray, List.set_cons_zero, List.set_cons_succ]
  have hl : t.ln ≤ 5 := by omega
  clear h0 hlw
  go_wp2_with fail
  refine (l1Below_any p a len cap _ _ (hc.only H.only hB) hB H.cur).mono ?_
  rintro e y9_ ⟨k, n0_, n1_, rfl, ho, hk⟩
  replace H := H.draw ho hk
  clear ho hk
  clear n0_ n1_
  go_upto_block 0 with fail
  go_cut [] (fun wc => ∃ t : Ac, DA w p a len cap s g t wc ∧ t.ln ≤ 5)
  case first =>
    cases t0 : (k == 0)
    case true =>
      go_wp2_with fail
      refine (l1Int_new p a len cap [0, 1, 3, 6, 7, 8, 9, 10] 3 _ (hc.only H.only hB) hB H.cur (by decide) (by decide)).mono ?_
      rintro e y10_ ⟨z, m_, rfl, ho, hk⟩
      have i_z : inI64 z := by simp at m_; unfold inI64; omega
      replace H := H.draw ho hk
      clear ho hk
      clear m_
      have kj0 := H.bg.cell 0
      simp at kj0
      have fj0 := H.bg.froz 0
      have H' := H.putKd i_z
      clear H
      go_wp2_with fail
      go_meet
      case rel => exact ⟨_, H', hl⟩
    case false =>
      cases t1 : (k == 1)
      case true =>
        go_wp2_with fail
        refine (l1Raw_any p a len cap _ (hc.only H.only hB) hB H.cur).mono ?_
        rintro e y11_ ⟨z, i_z, rfl, ho, hk⟩
        replace H := H.draw ho hk
        clear ho hk
        have kj1 := H.bg.cell 1
        simp at kj1
        have fj1 := H.bg.froz 1
        have H' := H.putNn i_z
        clear H
        go_wp2_with fail
        go_meet
        case rel => exact ⟨_, H', hl⟩
      case false =>
        cases t2 : (k == 2)
        case true =>
          go_wp2_with fail
          refine (l1Int_new p a len cap [0, 1, 99, 100] 3 _ (hc.only H.only hB) hB H.cur (by decide) (by decide)).mono ?_
          rintro e y12_ ⟨z, m_, rfl, ho, hk⟩
          have i_z : inI64 z := by simp at m_; unfold inI64; omega
          replace H := H.draw ho hk
          clear ho hk
          clear m_
          have kj2 := H.bg.cell 2
          simp at kj2
          have fj2 := H.bg.froz 2
          have H' := H.putPi i_z
          clear H
          go_wp2_with fail
          go_meet
          case rel => exact ⟨_, H', hl⟩
        case false =>
          cases t3 : (k == 3)
          case true =>
            go_wp2_with fail
            refine (l1Int_new p a len cap [-2, 0, 2, 3] 3 _ (hc.only H.only hB) hB H.cur (by decide) (by decide)).mono ?_
            rintro e y13_ ⟨z, m_, rfl, ho, hk⟩
            have i_z : inI64 z := by simp at m_; unfold inI64; omega
            replace H := H.draw ho hk
            clear ho hk
            clear m_
            have kj3 := H.bg.cell 3
            simp at kj3
            have fj3 := H.bg.froz 3
            have H' := H.putSi i_z
            clear H
            go_wp2_with fail
            go_meet
            case rel => exact ⟨_, H', hl⟩
          case false =>
            cases t4 : (k == 4)
            case true =>
              go_wp2_with fail
              refine (l1Int_new p a len cap [0, 4, 5] 3 _ (hc.only H.only hB) hB H.cur (by decide) (by decide)).mono ?_
              rintro e y14_ ⟨z, m_, rfl, ho, hk⟩
              have i_z : inI64 z := by simp at m_; unfold inI64; omega
              replace H := H.draw ho hk
              clear ho hk
              clear m_
              have kj4 := H.bg.cell 4
              simp at kj4
              have fj4 := H.bg.froz 4
              have H' := H.putZo i_z
              clear H
              go_wp2_with fail
              go_meet
              case rel => exact ⟨_, H', hl⟩
            case false =>
              cases t5 : (k == 5)
              case true =>
                have kj5 := H.bg.cell 5
                simp at kj5
                have fj5 := H.bg.froz 5
                have H' := H.putBe (!t.be)
                clear H
                go_wp2_with fail
                go_meet
                case rel => exact ⟨_, H', hl⟩
              case false =>
                cases t6 : (k == 6)
                case true =>
                  have hD := H.drew
                  have hSz := H.only.size
                  go_wp2_with fail
                  refine wp_region_held_drew (S := fun u : World => u.cell? ⟨w.heap.size, 0, none⟩ = some (.slice s.pa s.pn s.pcap) ∧ u.cell? ⟨w.heap.size, 1, none⟩ = some (.slice s.sa s.sn s.scap) ∧ u.cell? ⟨w.heap.size, 2, none⟩ = some (.int .i64 s.ac) ∧ u.cell? ⟨w.heap.size, 3, none⟩ = some (.int .i64 s.cl)) (by kernel_rfl) (SK.out _ hD.bx) (fun hHeld => ?_)
                  refine wpAnyH_take (i := 0) (v := .pointer (some ⟨g, 6, none⟩)) rfl (by kernel_rfl) (by kernel_rfl) (by kernel_rfl) (fun _ _ _ h => h) (Or.inl ⟨by rfl, fun u hSu => by (try dsimp only at hSu); go_simp⟩) hHeld ?_
                  try simp only [Act.put, List.setIfInBounds_toArray, List.set_cons_zero, List.set_cons_succ]
                  refine wpAnyH_take (i := 2) (v := .pointer (some ⟨p, 0, none⟩)) rfl (by kernel_rfl) (by kernel_rfl) (by kernel_rfl) (fun _ _ _ h => h) (Or.inl ⟨by rfl, fun u hSu => by (try dsimp only at hSu); go_simp⟩) hHeld ?_
                  try simp only [Act.put, List.setIfInBounds_toArray, List.set_cons_zero, List.set_cons_succ]
                  refine wpAnyH_take (i := 3) (v := (.agg #[.slice s.pa s.pn s.pcap, .slice s.sa s.sn s.scap, .int .i64 s.ac, .int .i64 s.cl])) rfl (by kernel_rfl) (by kernel_rfl) (by kernel_rfl) (fun _ _ _ h => h) (Or.inl ⟨by rfl, fun u hSu => by (try dsimp only at hSu); go_simp⟩) hHeld ?_
                  try simp only [Act.put, List.setIfInBounds_toArray, List.set_cons_zero, List.set_cons_succ]
                  refine wpAnyH_ready (rs := [1, 4]) (by kernel_rfl) (by simp) ?_
                  refine AllReadyH.cons rfl (fun K' hK => ?_) (AllReadyH.cons rfl (fun K' hK => ?_) (AllReadyH.nil))
                  · have kl279 := hD.bg.cell 6
                    simp at kl279
                    go_simp
                    clear kl279
                    refine hK.out _ _ (SK.out _ hD.bx) (fun hHeld => ?_)
                    clear hK
                    try simp only [Act.put, List.setIfInBounds_toArray, List.set_cons_zero, List.set_cons_succ]
                    refine wpAnyH_ready (rs := [4]) (by kernel_rfl) (by simp) ?_
                    refine AllReadyH.cons rfl (fun K' hK => ?_) AllReadyH.nil
                    go_simp
                    go_at_call 48
                    refine (l6Any_any p a len cap s _ (hc.only hD.only hB) hB hD.cur hs (hrw.only hD.only hC) hC).mono ?_
                    rintro e y15_ ⟨q0, wf_q0, rfl, ho, hk⟩
                    have Hy15_ := hD.draw ho hk
                    clear ho hk
                    refine hK.out _ _ (SK.out _ Hy15_.bx) (fun hHeld => ?_)
                    clear hK
                    try simp only [Act.put, List.setIfInBounds_toArray, List.set_cons_zero, List.set_cons_succ]
                    refine wpAnyH_ready (rs := [5]) (by kernel_rfl) (by simp) ?_
                    refine AllReadyH.cons rfl (fun K' hK => ?_) AllReadyH.nil
                    have Hy15_A := Hy15_.alloc (.cells #[.int .i64 q0.kd, .int .i64 q0.sr, .int .i64 q0.pi, .int .i64 q0.si, .int .i64 q0.nn, .int .i64 q0.zo, .bool q0.be] 39)
                    have nw := cells_new y15_ (evC q0) 39
                    go_simp
                    refine hK.out _ _ (SK.out _ Hy15_A.bx) (fun hHeld => ?_)
                    clear hK
                    try simp only [Act.put, List.setIfInBounds_toArray, List.set_cons_zero, List.set_cons_succ]
                    refine wpAnyH_ready (rs := [6]) (by kernel_rfl) (by simp) ?_
                    refine AllReadyH.cons rfl (fun K' hK => ?_) AllReadyH.nil
                    refine step_appendE2 rfl (.tmp 52) (.tmp 56) 28 rfl w.heap.size 39 i0 _ 7 56 Tryz.underlying28 hi hz0 hz1 hz2 rfl (by decide) _ _ _ rfl (show World.ownsRow _ w.heap.size 39 7 (.slice t.la t.ln t.lcap) t.ln (valsE evC t.ln t.es) from Hy15_A.rw) ⟨y15_.heap.size, 0, none⟩ 1 1 (evC q0) rfl rfl nw (by intro u hu; simp [evC] at hu; rcases hu with rfl | rfl | rfl | rfl | rfl | rfl | rfl <;> rfl) (by show t.ln + 1 ≤ maxLen; unfold maxLen; omega) (by show (t.ln + 1) * 56 ≤ _; omega) (by have := Hy15_A.only.size; omega) ?_
                    intro v4 w4 hown4 hgr4 _
                    obtain ⟨la', cap', rfl, hc4, bg4, H4⟩ := Hy15_.appN (snoc_wf Hy15_.wf.2 wf_q0) (es' := (snoc t.ln t.es q0)) (by rw [← valsE_snoc' evC_len]; exact hown4) hgr4
                    have bx4 := H4.bx
                    have c6 := bg4.cell 6
                    have f6 := bg4.froz 6
                    simp at c6
                    have bx5 : BoxR w4 w.heap.size 37 #[.slice s.pa s.pn s.pcap, .slice s.sa s.sn s.scap, .int .i64 s.ac, .int .i64 s.cl] := (hgr4.block _ Hy15_A.bx.lt (own_ne Hy15_A.rw Hy15_A.bx (by decide))).trans Hy15_A.bx
                    have es_ : ∃ es', DA w p a len cap s g { t with la := la', ln := t.ln + 1, lcap := cap', es := es' } (w4.setCell ⟨g, 6, none⟩ (.slice la' (t.ln + 1) cap')) := ⟨_, H4⟩
                    clear H4
                    obtain ⟨es', H4⟩ := es_
                    refine hK.out _ _ (SK.out _ bx5) (fun hHeld => ?_)
                    clear hK
                    try simp only [Act.put, List.setIfInBounds_toArray, List.set_cons_zero, List.set_cons_succ]
                    refine wpAnyH_take (i := 7) (v := .pointer (some ⟨g, 6, none⟩)) rfl (by kernel_rfl) (by kernel_rfl) (by kernel_rfl) (fun _ _ _ h => h) (Or.inl ⟨by rfl, fun u hSu => by (try dsimp only at hSu); go_simp⟩) hHeld ?_
                    try simp only [Act.put, List.setIfInBounds_toArray, List.set_cons_zero, List.set_cons_succ]
                    refine wpAnyH_ready (rs := [8]) (by kernel_rfl) (by simp) ?_
                    refine AllReadyH.cons rfl (fun K' hK => ?_) AllReadyH.nil
                    go_simp
                    refine hK.out _ _ (SK.out _ bx4) (fun hHeld => ?_)
                    clear hK
                    try simp only [Act.put, List.setIfInBounds_toArray, List.set_cons_zero, List.set_cons_succ]
                    refine wpAnyH_done (by kernel_rfl) ?_ _
                    clear hHeld
                    go_wp2_with fail
                    go_meet
                    case rel => exact ⟨_, H4, by simp only; omega⟩
                  · go_simp
                    go_at_call 48
                    refine (l6Any_any p a len cap s _ (hc.only hD.only hB) hB hD.cur hs (hrw.only hD.only hC) hC).mono ?_
                    rintro e y16_ ⟨q0, wf_q0, rfl, ho, hk⟩
                    have Hy16_ := hD.draw ho hk
                    clear ho hk
                    refine hK.out _ _ (SK.out _ Hy16_.bx) (fun hHeld => ?_)
                    clear hK
                    try simp only [Act.put, List.setIfInBounds_toArray, List.set_cons_zero, List.set_cons_succ]
                    refine wpAnyH_ready (rs := [1, 5]) (by kernel_rfl) (by simp) ?_
                    refine AllReadyH.cons rfl (fun K' hK => ?_) (AllReadyH.cons rfl (fun K' hK => ?_) (AllReadyH.nil))
                    · have kl345 := Hy16_.bg.cell 6
                      simp at kl345
                      go_simp
                      clear kl345
                      refine hK.out _ _ (SK.out _ Hy16_.bx) (fun hHeld => ?_)
                      clear hK
                      try simp only [Act.put, List.setIfInBounds_toArray, List.set_cons_zero, List.set_cons_succ]
                      refine wpAnyH_ready (rs := [5]) (by kernel_rfl) (by simp) ?_
                      refine AllReadyH.cons rfl (fun K' hK => ?_) AllReadyH.nil
                      have Hy16_A := Hy16_.alloc (.cells #[.int .i64 q0.kd, .int .i64 q0.sr, .int .i64 q0.pi, .int .i64 q0.si, .int .i64 q0.nn, .int .i64 q0.zo, .bool q0.be] 39)
                      have nw := cells_new y16_ (evC q0) 39
                      go_simp
                      refine hK.out _ _ (SK.out _ Hy16_A.bx) (fun hHeld => ?_)
                      clear hK
                      try simp only [Act.put, List.setIfInBounds_toArray, List.set_cons_zero, List.set_cons_succ]
                      refine wpAnyH_ready (rs := [6]) (by kernel_rfl) (by simp) ?_
                      refine AllReadyH.cons rfl (fun K' hK => ?_) AllReadyH.nil
                      refine step_appendE2 rfl (.tmp 52) (.tmp 56) 28 rfl w.heap.size 39 i0 _ 7 56 Tryz.underlying28 hi hz0 hz1 hz2 rfl (by decide) _ _ _ rfl (show World.ownsRow _ w.heap.size 39 7 (.slice t.la t.ln t.lcap) t.ln (valsE evC t.ln t.es) from Hy16_A.rw) ⟨y16_.heap.size, 0, none⟩ 1 1 (evC q0) rfl rfl nw (by intro u hu; simp [evC] at hu; rcases hu with rfl | rfl | rfl | rfl | rfl | rfl | rfl <;> rfl) (by show t.ln + 1 ≤ maxLen; unfold maxLen; omega) (by show (t.ln + 1) * 56 ≤ _; omega) (by have := Hy16_A.only.size; omega) ?_
                      intro v4 w4 hown4 hgr4 _
                      obtain ⟨la', cap', rfl, hc4, bg4, H4⟩ := Hy16_.appN (snoc_wf Hy16_.wf.2 wf_q0) (es' := (snoc t.ln t.es q0)) (by rw [← valsE_snoc' evC_len]; exact hown4) hgr4
                      have bx4 := H4.bx
                      have c6 := bg4.cell 6
                      have f6 := bg4.froz 6
                      simp at c6
                      have bx5 : BoxR w4 w.heap.size 37 #[.slice s.pa s.pn s.pcap, .slice s.sa s.sn s.scap, .int .i64 s.ac, .int .i64 s.cl] := (hgr4.block _ Hy16_A.bx.lt (own_ne Hy16_A.rw Hy16_A.bx (by decide))).trans Hy16_A.bx
                      have es_ : ∃ es', DA w p a len cap s g { t with la := la', ln := t.ln + 1, lcap := cap', es := es' } (w4.setCell ⟨g, 6, none⟩ (.slice la' (t.ln + 1) cap')) := ⟨_, H4⟩
                      clear H4
                      obtain ⟨es', H4⟩ := es_
                      refine hK.out _ _ (SK.out _ bx5) (fun hHeld => ?_)
                      clear hK
                      try simp only [Act.put, List.setIfInBounds_toArray, List.set_cons_zero, List.set_cons_succ]
                      refine wpAnyH_take (i := 7) (v := .pointer (some ⟨g, 6, none⟩)) rfl (by kernel_rfl) (by kernel_rfl) (by kernel_rfl) (fun _ _ _ h => h) (Or.inl ⟨by rfl, fun u hSu => by (try dsimp only at hSu); go_simp⟩) hHeld ?_
                      try simp only [Act.put, List.setIfInBounds_toArray, List.set_cons_zero, List.set_cons_succ]
                      refine wpAnyH_ready (rs := [8]) (by kernel_rfl) (by simp) ?_
                      refine AllReadyH.cons rfl (fun K' hK => ?_) AllReadyH.nil
                      go_simp
                      refine hK.out _ _ (SK.out _ bx4) (fun hHeld => ?_)
                      clear hK
                      try simp only [Act.put, List.setIfInBounds_toArray, List.set_cons_zero, List.set_cons_succ]
                      refine wpAnyH_done (by kernel_rfl) ?_ _
                      clear hHeld
                      go_wp2_with fail
                      go_meet
                      case rel => exact ⟨_, H4, by simp only; omega⟩
                    · have Hy16_A := Hy16_.alloc (.cells #[.int .i64 q0.kd, .int .i64 q0.sr, .int .i64 q0.pi, .int .i64 q0.si, .int .i64 q0.nn, .int .i64 q0.zo, .bool q0.be] 39)
                      have nw := cells_new y16_ (evC q0) 39
                      go_simp
                      refine hK.out _ _ (SK.out _ Hy16_A.bx) (fun hHeld => ?_)
                      clear hK
                      try simp only [Act.put, List.setIfInBounds_toArray, List.set_cons_zero, List.set_cons_succ]
                      refine wpAnyH_ready (rs := [1]) (by kernel_rfl) (by simp) ?_
                      refine AllReadyH.cons rfl (fun K' hK => ?_) AllReadyH.nil
                      have kl397 := Hy16_A.bg.cell 6
                      simp at kl397
                      go_simp
                      clear kl397
                      refine hK.out _ _ (SK.out _ Hy16_A.bx) (fun hHeld => ?_)
                      clear hK
                      try simp only [Act.put, List.setIfInBounds_toArray, List.set_cons_zero, List.set_cons_succ]
                      refine wpAnyH_ready (rs := [6]) (by kernel_rfl) (by simp) ?_
                      refine AllReadyH.cons rfl (fun K' hK => ?_) AllReadyH.nil
                      refine step_appendE2 rfl (.tmp 52) (.tmp 56) 28 rfl w.heap.size 39 i0 _ 7 56 Tryz.underlying28 hi hz0 hz1 hz2 rfl (by decide) _ _ _ rfl (show World.ownsRow _ w.heap.size 39 7 (.slice t.la t.ln t.lcap) t.ln (valsE evC t.ln t.es) from Hy16_A.rw) ⟨y16_.heap.size, 0, none⟩ 1 1 (evC q0) rfl rfl nw (by intro u hu; simp [evC] at hu; rcases hu with rfl | rfl | rfl | rfl | rfl | rfl | rfl <;> rfl) (by show t.ln + 1 ≤ maxLen; unfold maxLen; omega) (by show (t.ln + 1) * 56 ≤ _; omega) (by have := Hy16_A.only.size; omega) ?_
                      intro v4 w4 hown4 hgr4 _
                      obtain ⟨la', cap', rfl, hc4, bg4, H4⟩ := Hy16_.appN (snoc_wf Hy16_.wf.2 wf_q0) (es' := (snoc t.ln t.es q0)) (by rw [← valsE_snoc' evC_len]; exact hown4) hgr4
                      have bx4 := H4.bx
                      have c6 := bg4.cell 6
                      have f6 := bg4.froz 6
                      simp at c6
                      have bx5 : BoxR w4 w.heap.size 37 #[.slice s.pa s.pn s.pcap, .slice s.sa s.sn s.scap, .int .i64 s.ac, .int .i64 s.cl] := (hgr4.block _ Hy16_A.bx.lt (own_ne Hy16_A.rw Hy16_A.bx (by decide))).trans Hy16_A.bx
                      have es_ : ∃ es', DA w p a len cap s g { t with la := la', ln := t.ln + 1, lcap := cap', es := es' } (w4.setCell ⟨g, 6, none⟩ (.slice la' (t.ln + 1) cap')) := ⟨_, H4⟩
                      clear H4
                      obtain ⟨es', H4⟩ := es_
                      refine hK.out _ _ (SK.out _ bx5) (fun hHeld => ?_)
                      clear hK
                      try simp only [Act.put, List.setIfInBounds_toArray, List.set_cons_zero, List.set_cons_succ]
                      refine wpAnyH_take (i := 7) (v := .pointer (some ⟨g, 6, none⟩)) rfl (by kernel_rfl) (by kernel_rfl) (by kernel_rfl) (fun _ _ _ h => h) (Or.inl ⟨by rfl, fun u hSu => by (try dsimp only at hSu); go_simp⟩) hHeld ?_
                      try simp only [Act.put, List.setIfInBounds_toArray, List.set_cons_zero, List.set_cons_succ]
                      refine wpAnyH_ready (rs := [8]) (by kernel_rfl) (by simp) ?_
                      refine AllReadyH.cons rfl (fun K' hK => ?_) AllReadyH.nil
                      go_simp
                      refine hK.out _ _ (SK.out _ bx4) (fun hHeld => ?_)
                      clear hK
                      try simp only [Act.put, List.setIfInBounds_toArray, List.set_cons_zero, List.set_cons_succ]
                      refine wpAnyH_done (by kernel_rfl) ?_ _
                      clear hHeld
                      go_wp2_with fail
                      go_meet
                      case rel => exact ⟨_, H4, by simp only; omega⟩
                case false =>
                  cases t7 : (k == 7)
                  case true =>
                    have hD := H.drew
                    have hSz := H.only.size
                    go_wp2_with fail
                    refine wp_region_held_drew (S := fun u : World => u.cell? ⟨w.heap.size, 0, none⟩ = some (.slice s.pa s.pn s.pcap) ∧ u.cell? ⟨w.heap.size, 1, none⟩ = some (.slice s.sa s.sn s.scap) ∧ u.cell? ⟨w.heap.size, 2, none⟩ = some (.int .i64 s.ac) ∧ u.cell? ⟨w.heap.size, 3, none⟩ = some (.int .i64 s.cl)) (by kernel_rfl) (SK.out _ hD.bx) (fun hHeld => ?_)
                    refine wpAnyH_take (i := 0) (v := .pointer (some ⟨g, 6, none⟩)) rfl (by kernel_rfl) (by kernel_rfl) (by kernel_rfl) (fun _ _ _ h => h) (Or.inl ⟨by rfl, fun u hSu => by (try dsimp only at hSu); go_simp⟩) hHeld ?_
                    try simp only [Act.put, List.setIfInBounds_toArray, List.set_cons_zero, List.set_cons_succ]
                    refine wpAnyH_take (i := 2) (v := .pointer (some ⟨p, 0, none⟩)) rfl (by kernel_rfl) (by kernel_rfl) (by kernel_rfl) (fun _ _ _ h => h) (Or.inl ⟨by rfl, fun u hSu => by (try dsimp only at hSu); go_simp⟩) hHeld ?_
                    try simp only [Act.put, List.setIfInBounds_toArray, List.set_cons_zero, List.set_cons_succ]
                    refine wpAnyH_take (i := 3) (v := (.agg #[.slice s.pa s.pn s.pcap, .slice s.sa s.sn s.scap, .int .i64 s.ac, .int .i64 s.cl])) rfl (by kernel_rfl) (by kernel_rfl) (by kernel_rfl) (fun _ _ _ h => h) (Or.inl ⟨by rfl, fun u hSu => by (try dsimp only at hSu); go_simp⟩) hHeld ?_
                    try simp only [Act.put, List.setIfInBounds_toArray, List.set_cons_zero, List.set_cons_succ]
                    refine wpAnyH_take (i := 5) (v := .pointer (some ⟨p, 0, none⟩)) rfl (by kernel_rfl) (by kernel_rfl) (by kernel_rfl) (fun _ _ _ h => h) (Or.inl ⟨by rfl, fun u hSu => by (try dsimp only at hSu); go_simp⟩) hHeld ?_
                    try simp only [Act.put, List.setIfInBounds_toArray, List.set_cons_zero, List.set_cons_succ]
                    refine wpAnyH_take (i := 6) (v := (.agg #[.slice s.pa s.pn s.pcap, .slice s.sa s.sn s.scap, .int .i64 s.ac, .int .i64 s.cl])) rfl (by kernel_rfl) (by kernel_rfl) (by kernel_rfl) (fun _ _ _ h => h) (Or.inl ⟨by rfl, fun u hSu => by (try dsimp only at hSu); go_simp⟩) hHeld ?_
                    try simp only [Act.put, List.setIfInBounds_toArray, List.set_cons_zero, List.set_cons_succ]
                    refine wpAnyH_take (i := 8) (v := .pointer (some ⟨p, 0, none⟩)) rfl (by kernel_rfl) (by kernel_rfl) (by kernel_rfl) (fun _ _ _ h => h) (Or.inl ⟨by rfl, fun u hSu => by (try dsimp only at hSu); go_simp⟩) hHeld ?_
                    try simp only [Act.put, List.setIfInBounds_toArray, List.set_cons_zero, List.set_cons_succ]
                    refine wpAnyH_take (i := 9) (v := (.agg #[.slice s.pa s.pn s.pcap, .slice s.sa s.sn s.scap, .int .i64 s.ac, .int .i64 s.cl])) rfl (by kernel_rfl) (by kernel_rfl) (by kernel_rfl) (fun _ _ _ h => h) (Or.inl ⟨by rfl, fun u hSu => by (try dsimp only at hSu); go_simp⟩) hHeld ?_
                    try simp only [Act.put, List.setIfInBounds_toArray, List.set_cons_zero, List.set_cons_succ]
                    refine wpAnyH_ready (rs := [1, 4]) (by kernel_rfl) (by simp) ?_
                    refine AllReadyH.cons rfl (fun K' hK => ?_) (AllReadyH.cons rfl (fun K' hK => ?_) (AllReadyH.nil))
                    · have kl456 := hD.bg.cell 6
                      simp at kl456
                      go_simp
                      clear kl456
                      refine hK.out _ _ (SK.out _ hD.bx) (fun hHeld => ?_)
                      clear hK
                      try simp only [Act.put, List.setIfInBounds_toArray, List.set_cons_zero, List.set_cons_succ]
                      refine wpAnyH_ready (rs := [4]) (by kernel_rfl) (by simp) ?_
                      refine AllReadyH.cons rfl (fun K' hK => ?_) AllReadyH.nil
                      go_simp
                      go_at_call 49
                      refine (l6Draw_any p a len cap s _ (hc.only hD.only hB) hB hD.cur hs (hrw.only hD.only hC) hC).mono ?_
                      rintro e y17_ ⟨q0, wf_q0, rfl, ho, hk⟩
                      have Hy17_ := hD.draw ho hk
                      clear ho hk
                      refine hK.out _ _ (SK.out _ Hy17_.bx) (fun hHeld => ?_)
                      clear hK
                      try simp only [Act.put, List.setIfInBounds_toArray, List.set_cons_zero, List.set_cons_succ]
                      refine wpAnyH_ready (rs := [7]) (by kernel_rfl) (by simp) ?_
                      refine AllReadyH.cons rfl (fun K' hK => ?_) AllReadyH.nil
                      go_simp
                      go_at_call 49
                      refine (l6Draw_any p a len cap s _ (hc.only Hy17_.only hB) hB Hy17_.cur hs (hrw.only Hy17_.only hC) hC).mono ?_
                      rintro e y18_ ⟨q1, wf_q1, rfl, ho, hk⟩
                      have Hy18_ := Hy17_.draw ho hk
                      clear ho hk
                      refine hK.out _ _ (SK.out _ Hy18_.bx) (fun hHeld => ?_)
                      clear hK
                      try simp only [Act.put, List.setIfInBounds_toArray, List.set_cons_zero, List.set_cons_succ]
                      refine wpAnyH_ready (rs := [10]) (by kernel_rfl) (by simp) ?_
                      refine AllReadyH.cons rfl (fun K' hK => ?_) AllReadyH.nil
                      go_simp
                      go_at_call 49
                      refine (l6Draw_any p a len cap s _ (hc.only Hy18_.only hB) hB Hy18_.cur hs (hrw.only Hy18_.only hC) hC).mono ?_
                      rintro e y19_ ⟨q2, wf_q2, rfl, ho, hk⟩
                      have Hy19_ := Hy18_.draw ho hk
                      clear ho hk
                      refine hK.out _ _ (SK.out _ Hy19_.bx) (fun hHeld => ?_)
                      clear hK
                      try simp only [Act.put, List.setIfInBounds_toArray, List.set_cons_zero, List.set_cons_succ]
                      refine wpAnyH_ready (rs := [11]) (by kernel_rfl) (by simp) ?_
                      refine AllReadyH.cons rfl (fun K' hK => ?_) AllReadyH.nil
                      have Hy19_A := Hy19_.alloc (.cells #[.int .i64 q0.kd, .int .i64 q0.sr, .int .i64 q0.pi, .int .i64 q0.si, .int .i64 q0.nn, .int .i64 q0.zo, .bool q0.be, .int .i64 q1.kd, .int .i64 q1.sr, .int .i64 q1.pi, .int .i64 q1.si, .int .i64 q1.nn, .int .i64 q1.zo, .bool q1.be, .int .i64 q2.kd, .int .i64 q2.sr, .int .i64 q2.pi, .int .i64 q2.si, .int .i64 q2.nn, .int .i64 q2.zo, .bool q2.be] 39)
                      have nw := cells_new y19_ (evC q0 ++ (evC q1 ++ (evC q2))) 39
                      go_simp
                      refine hK.out _ _ (SK.out _ Hy19_A.bx) (fun hHeld => ?_)
                      clear hK
                      try simp only [Act.put, List.setIfInBounds_toArray, List.set_cons_zero, List.set_cons_succ]
                      refine wpAnyH_ready (rs := [12]) (by kernel_rfl) (by simp) ?_
                      refine AllReadyH.cons rfl (fun K' hK => ?_) AllReadyH.nil
                      refine step_appendE2 rfl (.tmp 62) (.tmp 72) 28 rfl w.heap.size 39 i0 _ 7 56 Tryz.underlying28 hi hz0 hz1 hz2 rfl (by decide) _ _ _ rfl (show World.ownsRow _ w.heap.size 39 7 (.slice t.la t.ln t.lcap) t.ln (valsE evC t.ln t.es) from Hy19_A.rw) ⟨y19_.heap.size, 0, none⟩ 3 3 (evC q0 ++ (evC q1 ++ (evC q2))) rfl rfl nw (by intro u hu; simp [evC] at hu; rcases hu with rfl | rfl | rfl | rfl | rfl | rfl | rfl | rfl | rfl | rfl | rfl | rfl | rfl | rfl | rfl | rfl | rfl | rfl | rfl | rfl | rfl <;> rfl) (by show t.ln + 3 ≤ maxLen; unfold maxLen; omega) (by show (t.ln + 3) * 56 ≤ _; omega) (by have := Hy19_A.only.size; omega) ?_
                      intro v4 w4 hown4 hgr4 _
                      obtain ⟨la', cap', rfl, hc4, bg4, H4⟩ := Hy19_.appN (snoc_wf (snoc_wf (snoc_wf Hy19_.wf.2 wf_q0) wf_q1) wf_q2) (es' := (snoc (t.ln + 2) (snoc (t.ln + 1) (snoc t.ln t.es q0) q1) q2)) (by rw [← vals3]; exact hown4) hgr4
                      have bx4 := H4.bx
                      have c6 := bg4.cell 6
                      have f6 := bg4.froz 6
                      simp at c6
                      have bx5 : BoxR w4 w.heap.size 37 #[.slice s.pa s.pn s.pcap, .slice s.sa s.sn s.scap, .int .i64 s.ac, .int .i64 s.cl] := (hgr4.block _ Hy19_A.bx.lt (own_ne Hy19_A.rw Hy19_A.bx (by decide))).trans Hy19_A.bx
                      have es_ : ∃ es', DA w p a len cap s g { t with la := la', ln := t.ln + 3, lcap := cap', es := es' } (w4.setCell ⟨g, 6, none⟩ (.slice la' (t.ln + 3) cap')) := ⟨_, H4⟩
                      clear H4
                      obtain ⟨es', H4⟩ := es_
                      refine hK.out _ _ (SK.out _ bx5) (fun hHeld => ?_)
                      clear hK
                      try simp only [Act.put, List.setIfInBounds_toArray, List.set_cons_zero, List.set_cons_succ]
                      refine wpAnyH_take (i := 13) (v := .pointer (some ⟨g, 6, none⟩)) rfl (by kernel_rfl) (by kernel_rfl) (by kernel_rfl) (fun _ _ _ h => h) (Or.inl ⟨by rfl, fun u hSu => by (try dsimp only at hSu); go_simp⟩) hHeld ?_
                      try simp only [Act.put, List.setIfInBounds_toArray, List.set_cons_zero, List.set_cons_succ]
                      refine wpAnyH_ready (rs := [14]) (by kernel_rfl) (by simp) ?_
                      refine AllReadyH.cons rfl (fun K' hK => ?_) AllReadyH.nil
                      go_simp
                      refine hK.out _ _ (SK.out _ bx4) (fun hHeld => ?_)
                      clear hK
                      try simp only [Act.put, List.setIfInBounds_toArray, List.set_cons_zero, List.set_cons_succ]
                      refine wpAnyH_done (by kernel_rfl) ?_ _
                      clear hHeld
                      go_wp2_with fail
                      go_meet
                      case rel => exact ⟨_, H4, by simp only; omega⟩
                    · go_simp
                      go_at_call 49
                      refine (l6Draw_any p a len cap s _ (hc.only hD.only hB) hB hD.cur hs (hrw.only hD.only hC) hC).mono ?_
                      rintro e y20_ ⟨q0, wf_q0, rfl, ho, hk⟩
                      have Hy20_ := hD.draw ho hk
                      clear ho hk
                      refine hK.out _ _ (SK.out _ Hy20_.bx) (fun hHeld => ?_)
                      clear hK
                      try simp only [Act.put, List.setIfInBounds_toArray, List.set_cons_zero, List.set_cons_succ]
                      refine wpAnyH_ready (rs := [1, 7]) (by kernel_rfl) (by simp) ?_
                      refine AllReadyH.cons rfl (fun K' hK => ?_) (AllReadyH.cons rfl (fun K' hK => ?_) (AllReadyH.nil))
                      · have kl544 := Hy20_.bg.cell 6
                        simp at kl544
                        go_simp
                        clear kl544
                        refine hK.out _ _ (SK.out _ Hy20_.bx) (fun hHeld => ?_)
                        clear hK
                        try simp only [Act.put, List.setIfInBounds_toArray, List.set_cons_zero, List.set_cons_succ]
                        refine wpAnyH_ready (rs := [7]) (by kernel_rfl) (by simp) ?_
                        refine AllReadyH.cons rfl (fun K' hK => ?_) AllReadyH.nil
                        go_simp
                        go_at_call 49
                        refine (l6Draw_any p a len cap s _ (hc.only Hy20_.only hB) hB Hy20_.cur hs (hrw.only Hy20_.only hC) hC).mono ?_
                        rintro e y21_ ⟨q1, wf_q1, rfl, ho, hk⟩
                        have Hy21_ := Hy20_.draw ho hk
                        clear ho hk
                        refine hK.out _ _ (SK.out _ Hy21_.bx) (fun hHeld => ?_)
                        clear hK
                        try simp only [Act.put, List.setIfInBounds_toArray, List.set_cons_zero, List.set_cons_succ]
                        refine wpAnyH_ready (rs := [10]) (by kernel_rfl) (by simp) ?_
                        refine AllReadyH.cons rfl (fun K' hK => ?_) AllReadyH.nil
                        go_simp
                        go_at_call 49
                        refine (l6Draw_any p a len cap s _ (hc.only Hy21_.only hB) hB Hy21_.cur hs (hrw.only Hy21_.only hC) hC).mono ?_
                        rintro e y22_ ⟨q2, wf_q2, rfl, ho, hk⟩
                        have Hy22_ := Hy21_.draw ho hk
                        clear ho hk
                        refine hK.out _ _ (SK.out _ Hy22_.bx) (fun hHeld => ?_)
                        clear hK
                        try simp only [Act.put, List.setIfInBounds_toArray, List.set_cons_zero, List.set_cons_succ]
                        refine wpAnyH_ready (rs := [11]) (by kernel_rfl) (by simp) ?_
                        refine AllReadyH.cons rfl (fun K' hK => ?_) AllReadyH.nil
                        have Hy22_A := Hy22_.alloc (.cells #[.int .i64 q0.kd, .int .i64 q0.sr, .int .i64 q0.pi, .int .i64 q0.si, .int .i64 q0.nn, .int .i64 q0.zo, .bool q0.be, .int .i64 q1.kd, .int .i64 q1.sr, .int .i64 q1.pi, .int .i64 q1.si, .int .i64 q1.nn, .int .i64 q1.zo, .bool q1.be, .int .i64 q2.kd, .int .i64 q2.sr, .int .i64 q2.pi, .int .i64 q2.si, .int .i64 q2.nn, .int .i64 q2.zo, .bool q2.be] 39)
                        have nw := cells_new y22_ (evC q0 ++ (evC q1 ++ (evC q2))) 39
                        go_simp
                        refine hK.out _ _ (SK.out _ Hy22_A.bx) (fun hHeld => ?_)
                        clear hK
                        try simp only [Act.put, List.setIfInBounds_toArray, List.set_cons_zero, List.set_cons_succ]
                        refine wpAnyH_ready (rs := [12]) (by kernel_rfl) (by simp) ?_
                        refine AllReadyH.cons rfl (fun K' hK => ?_) AllReadyH.nil
                        refine step_appendE2 rfl (.tmp 62) (.tmp 72) 28 rfl w.heap.size 39 i0 _ 7 56 Tryz.underlying28 hi hz0 hz1 hz2 rfl (by decide) _ _ _ rfl (show World.ownsRow _ w.heap.size 39 7 (.slice t.la t.ln t.lcap) t.ln (valsE evC t.ln t.es) from Hy22_A.rw) ⟨y22_.heap.size, 0, none⟩ 3 3 (evC q0 ++ (evC q1 ++ (evC q2))) rfl rfl nw (by intro u hu; simp [evC] at hu; rcases hu with rfl | rfl | rfl | rfl | rfl | rfl | rfl | rfl | rfl | rfl | rfl | rfl | rfl | rfl | rfl | rfl | rfl | rfl | rfl | rfl | rfl <;> rfl) (by show t.ln + 3 ≤ maxLen; unfold maxLen; omega) (by show (t.ln + 3) * 56 ≤ _; omega) (by have := Hy22_A.only.size; omega) ?_
                        intro v4 w4 hown4 hgr4 _
                        obtain ⟨la', cap', rfl, hc4, bg4, H4⟩ := Hy22_.appN (snoc_wf (snoc_wf (snoc_wf Hy22_.wf.2 wf_q0) wf_q1) wf_q2) (es' := (snoc (t.ln + 2) (snoc (t.ln + 1) (snoc t.ln t.es q0) q1) q2)) (by rw [← vals3]; exact hown4) hgr4
                        have bx4 := H4.bx
                        have c6 := bg4.cell 6
                        have f6 := bg4.froz 6
                        simp at c6
                        have bx5 : BoxR w4 w.heap.size 37 #[.slice s.pa s.pn s.pcap, .slice s.sa s.sn s.scap, .int .i64 s.ac, .int .i64 s.cl] := (hgr4.block _ Hy22_A.bx.lt (own_ne Hy22_A.rw Hy22_A.bx (by decide))).trans Hy22_A.bx
                        have es_ : ∃ es', DA w p a len cap s g { t with la := la', ln := t.ln + 3, lcap := cap', es := es' } (w4.setCell ⟨g, 6, none⟩ (.slice la' (t.ln + 3) cap')) := ⟨_, H4⟩
                        clear H4
                        obtain ⟨es', H4⟩ := es_
                        refine hK.out _ _ (SK.out _ bx5) (fun hHeld => ?_)
                        clear hK
                        try simp only [Act.put, List.setIfInBounds_toArray, List.set_cons_zero, List.set_cons_succ]
                        refine wpAnyH_take (i := 13) (v := .pointer (some ⟨g, 6, none⟩)) rfl (by kernel_rfl) (by kernel_rfl) (by kernel_rfl) (fun _ _ _ h => h) (Or.inl ⟨by rfl, fun u hSu => by (try dsimp only at hSu); go_simp⟩) hHeld ?_
                        try simp only [Act.put, List.setIfInBounds_toArray, List.set_cons_zero, List.set_cons_succ]
                        refine wpAnyH_ready (rs := [14]) (by kernel_rfl) (by simp) ?_
                        refine AllReadyH.cons rfl (fun K' hK => ?_) AllReadyH.nil
                        go_simp
                        refine hK.out _ _ (SK.out _ bx4) (fun hHeld => ?_)
                        clear hK
                        try simp only [Act.put, List.setIfInBounds_toArray, List.set_cons_zero, List.set_cons_succ]
                        refine wpAnyH_done (by kernel_rfl) ?_ _
                        clear hHeld
                        go_wp2_with fail
                        go_meet
                        case rel => exact ⟨_, H4, by simp only; omega⟩
                      · go_simp
                        go_at_call 49
                        refine (l6Draw_any p a len cap s _ (hc.only Hy20_.only hB) hB Hy20_.cur hs (hrw.only Hy20_.only hC) hC).mono ?_
                        rintro e y23_ ⟨q1, wf_q1, rfl, ho, hk⟩
                        have Hy23_ := Hy20_.draw ho hk
                        clear ho hk
                        refine hK.out _ _ (SK.out _ Hy23_.bx) (fun hHeld => ?_)
                        clear hK
                        try simp only [Act.put, List.setIfInBounds_toArray, List.set_cons_zero, List.set_cons_succ]
                        refine wpAnyH_ready (rs := [1, 10]) (by kernel_rfl) (by simp) ?_
                        refine AllReadyH.cons rfl (fun K' hK => ?_) (AllReadyH.cons rfl (fun K' hK => ?_) (AllReadyH.nil))
                        · have kl621 := Hy23_.bg.cell 6
                          simp at kl621
                          go_simp
                          clear kl621
                          refine hK.out _ _ (SK.out _ Hy23_.bx) (fun hHeld => ?_)
                          clear hK
                          try simp only [Act.put, List.setIfInBounds_toArray, List.set_cons_zero, List.set_cons_succ]
                          refine wpAnyH_ready (rs := [10]) (by kernel_rfl) (by simp) ?_
                          refine AllReadyH.cons rfl (fun K' hK => ?_) AllReadyH.nil
                          go_simp
                          go_at_call 49
                          refine (l6Draw_any p a len cap s _ (hc.only Hy23_.only hB) hB Hy23_.cur hs (hrw.only Hy23_.only hC) hC).mono ?_
                          rintro e y24_ ⟨q2, wf_q2, rfl, ho, hk⟩
                          have Hy24_ := Hy23_.draw ho hk
                          clear ho hk
                          refine hK.out _ _ (SK.out _ Hy24_.bx) (fun hHeld => ?_)
                          clear hK
                          try simp only [Act.put, List.setIfInBounds_toArray, List.set_cons_zero, List.set_cons_succ]
                          refine wpAnyH_ready (rs := [11]) (by kernel_rfl) (by simp) ?_
                          refine AllReadyH.cons rfl (fun K' hK => ?_) AllReadyH.nil
                          have Hy24_A := Hy24_.alloc (.cells #[.int .i64 q0.kd, .int .i64 q0.sr, .int .i64 q0.pi, .int .i64 q0.si, .int .i64 q0.nn, .int .i64 q0.zo, .bool q0.be, .int .i64 q1.kd, .int .i64 q1.sr, .int .i64 q1.pi, .int .i64 q1.si, .int .i64 q1.nn, .int .i64 q1.zo, .bool q1.be, .int .i64 q2.kd, .int .i64 q2.sr, .int .i64 q2.pi, .int .i64 q2.si, .int .i64 q2.nn, .int .i64 q2.zo, .bool q2.be] 39)
                          have nw := cells_new y24_ (evC q0 ++ (evC q1 ++ (evC q2))) 39
                          go_simp
                          refine hK.out _ _ (SK.out _ Hy24_A.bx) (fun hHeld => ?_)
                          clear hK
                          try simp only [Act.put, List.setIfInBounds_toArray, List.set_cons_zero, List.set_cons_succ]
                          refine wpAnyH_ready (rs := [12]) (by kernel_rfl) (by simp) ?_
                          refine AllReadyH.cons rfl (fun K' hK => ?_) AllReadyH.nil
                          refine step_appendE2 rfl (.tmp 62) (.tmp 72) 28 rfl w.heap.size 39 i0 _ 7 56 Tryz.underlying28 hi hz0 hz1 hz2 rfl (by decide) _ _ _ rfl (show World.ownsRow _ w.heap.size 39 7 (.slice t.la t.ln t.lcap) t.ln (valsE evC t.ln t.es) from Hy24_A.rw) ⟨y24_.heap.size, 0, none⟩ 3 3 (evC q0 ++ (evC q1 ++ (evC q2))) rfl rfl nw (by intro u hu; simp [evC] at hu; rcases hu with rfl | rfl | rfl | rfl | rfl | rfl | rfl | rfl | rfl | rfl | rfl | rfl | rfl | rfl | rfl | rfl | rfl | rfl | rfl | rfl | rfl <;> rfl) (by show t.ln + 3 ≤ maxLen; unfold maxLen; omega) (by show (t.ln + 3) * 56 ≤ _; omega) (by have := Hy24_A.only.size; omega) ?_
                          intro v4 w4 hown4 hgr4 _
                          obtain ⟨la', cap', rfl, hc4, bg4, H4⟩ := Hy24_.appN (snoc_wf (snoc_wf (snoc_wf Hy24_.wf.2 wf_q0) wf_q1) wf_q2) (es' := (snoc (t.ln + 2) (snoc (t.ln + 1) (snoc t.ln t.es q0) q1) q2)) (by rw [← vals3]; exact hown4) hgr4
                          have bx4 := H4.bx
                          have c6 := bg4.cell 6
                          have f6 := bg4.froz 6
                          simp at c6
                          have bx5 : BoxR w4 w.heap.size 37 #[.slice s.pa s.pn s.pcap, .slice s.sa s.sn s.scap, .int .i64 s.ac, .int .i64 s.cl] := (hgr4.block _ Hy24_A.bx.lt (own_ne Hy24_A.rw Hy24_A.bx (by decide))).trans Hy24_A.bx
                          have es_ : ∃ es', DA w p a len cap s g { t with la := la', ln := t.ln + 3, lcap := cap', es := es' } (w4.setCell ⟨g, 6, none⟩ (.slice la' (t.ln + 3) cap')) := ⟨_, H4⟩
                          clear H4
                          obtain ⟨es', H4⟩ := es_
                          refine hK.out _ _ (SK.out _ bx5) (fun hHeld => ?_)
                          clear hK
                          try simp only [Act.put, List.setIfInBounds_toArray, List.set_cons_zero, List.set_cons_succ]
                          refine wpAnyH_take (i := 13) (v := .pointer (some ⟨g, 6, none⟩)) rfl (by kernel_rfl) (by kernel_rfl) (by kernel_rfl) (fun _ _ _ h => h) (Or.inl ⟨by rfl, fun u hSu => by (try dsimp only at hSu); go_simp⟩) hHeld ?_
                          try simp only [Act.put, List.setIfInBounds_toArray, List.set_cons_zero, List.set_cons_succ]
                          refine wpAnyH_ready (rs := [14]) (by kernel_rfl) (by simp) ?_
                          refine AllReadyH.cons rfl (fun K' hK => ?_) AllReadyH.nil
                          go_simp
                          refine hK.out _ _ (SK.out _ bx4) (fun hHeld => ?_)
                          clear hK
                          try simp only [Act.put, List.setIfInBounds_toArray, List.set_cons_zero, List.set_cons_succ]
                          refine wpAnyH_done (by kernel_rfl) ?_ _
                          clear hHeld
                          go_wp2_with fail
                          go_meet
                          case rel => exact ⟨_, H4, by simp only; omega⟩
                        · go_simp
                          go_at_call 49
                          refine (l6Draw_any p a len cap s _ (hc.only Hy23_.only hB) hB Hy23_.cur hs (hrw.only Hy23_.only hC) hC).mono ?_
                          rintro e y25_ ⟨q2, wf_q2, rfl, ho, hk⟩
                          have Hy25_ := Hy23_.draw ho hk
                          clear ho hk
                          refine hK.out _ _ (SK.out _ Hy25_.bx) (fun hHeld => ?_)
                          clear hK
                          try simp only [Act.put, List.setIfInBounds_toArray, List.set_cons_zero, List.set_cons_succ]
                          refine wpAnyH_ready (rs := [1, 11]) (by kernel_rfl) (by simp) ?_
                          refine AllReadyH.cons rfl (fun K' hK => ?_) (AllReadyH.cons rfl (fun K' hK => ?_) (AllReadyH.nil))
                          · have kl687 := Hy25_.bg.cell 6
                            simp at kl687
                            go_simp
                            clear kl687
                            refine hK.out _ _ (SK.out _ Hy25_.bx) (fun hHeld => ?_)
                            clear hK
                            try simp only [Act.put, List.setIfInBounds_toArray, List.set_cons_zero, List.set_cons_succ]
                            refine wpAnyH_ready (rs := [11]) (by kernel_rfl) (by simp) ?_
                            refine AllReadyH.cons rfl (fun K' hK => ?_) AllReadyH.nil
                            have Hy25_A := Hy25_.alloc (.cells #[.int .i64 q0.kd, .int .i64 q0.sr, .int .i64 q0.pi, .int .i64 q0.si, .int .i64 q0.nn, .int .i64 q0.zo, .bool q0.be, .int .i64 q1.kd, .int .i64 q1.sr, .int .i64 q1.pi, .int .i64 q1.si, .int .i64 q1.nn, .int .i64 q1.zo, .bool q1.be, .int .i64 q2.kd, .int .i64 q2.sr, .int .i64 q2.pi, .int .i64 q2.si, .int .i64 q2.nn, .int .i64 q2.zo, .bool q2.be] 39)
                            have nw := cells_new y25_ (evC q0 ++ (evC q1 ++ (evC q2))) 39
                            go_simp
                            refine hK.out _ _ (SK.out _ Hy25_A.bx) (fun hHeld => ?_)
                            clear hK
                            try simp only [Act.put, List.setIfInBounds_toArray, List.set_cons_zero, List.set_cons_succ]
                            refine wpAnyH_ready (rs := [12]) (by kernel_rfl) (by simp) ?_
                            refine AllReadyH.cons rfl (fun K' hK => ?_) AllReadyH.nil
                            refine step_appendE2 rfl (.tmp 62) (.tmp 72) 28 rfl w.heap.size 39 i0 _ 7 56 Tryz.underlying28 hi hz0 hz1 hz2 rfl (by decide) _ _ _ rfl (show World.ownsRow _ w.heap.size 39 7 (.slice t.la t.ln t.lcap) t.ln (valsE evC t.ln t.es) from Hy25_A.rw) ⟨y25_.heap.size, 0, none⟩ 3 3 (evC q0 ++ (evC q1 ++ (evC q2))) rfl rfl nw (by intro u hu; simp [evC] at hu; rcases hu with rfl | rfl | rfl | rfl | rfl | rfl | rfl | rfl | rfl | rfl | rfl | rfl | rfl | rfl | rfl | rfl | rfl | rfl | rfl | rfl | rfl <;> rfl) (by show t.ln + 3 ≤ maxLen; unfold maxLen; omega) (by show (t.ln + 3) * 56 ≤ _; omega) (by have := Hy25_A.only.size; omega) ?_
                            intro v4 w4 hown4 hgr4 _
                            obtain ⟨la', cap', rfl, hc4, bg4, H4⟩ := Hy25_.appN (snoc_wf (snoc_wf (snoc_wf Hy25_.wf.2 wf_q0) wf_q1) wf_q2) (es' := (snoc (t.ln + 2) (snoc (t.ln + 1) (snoc t.ln t.es q0) q1) q2)) (by rw [← vals3]; exact hown4) hgr4
                            have bx4 := H4.bx
                            have c6 := bg4.cell 6
                            have f6 := bg4.froz 6
                            simp at c6
                            have bx5 : BoxR w4 w.heap.size 37 #[.slice s.pa s.pn s.pcap, .slice s.sa s.sn s.scap, .int .i64 s.ac, .int .i64 s.cl] := (hgr4.block _ Hy25_A.bx.lt (own_ne Hy25_A.rw Hy25_A.bx (by decide))).trans Hy25_A.bx
                            have es_ : ∃ es', DA w p a len cap s g { t with la := la', ln := t.ln + 3, lcap := cap', es := es' } (w4.setCell ⟨g, 6, none⟩ (.slice la' (t.ln + 3) cap')) := ⟨_, H4⟩
                            clear H4
                            obtain ⟨es', H4⟩ := es_
                            refine hK.out _ _ (SK.out _ bx5) (fun hHeld => ?_)
                            clear hK
                            try simp only [Act.put, List.setIfInBounds_toArray, List.set_cons_zero, List.set_cons_succ]
                            refine wpAnyH_take (i := 13) (v := .pointer (some ⟨g, 6, none⟩)) rfl (by kernel_rfl) (by kernel_rfl) (by kernel_rfl) (fun _ _ _ h => h) (Or.inl ⟨by rfl, fun u hSu => by (try dsimp only at hSu); go_simp⟩) hHeld ?_
                            try simp only [Act.put, List.setIfInBounds_toArray, List.set_cons_zero, List.set_cons_succ]
                            refine wpAnyH_ready (rs := [14]) (by kernel_rfl) (by simp) ?_
                            refine AllReadyH.cons rfl (fun K' hK => ?_) AllReadyH.nil
                            go_simp
                            refine hK.out _ _ (SK.out _ bx4) (fun hHeld => ?_)
                            clear hK
                            try simp only [Act.put, List.setIfInBounds_toArray, List.set_cons_zero, List.set_cons_succ]
                            refine wpAnyH_done (by kernel_rfl) ?_ _
                            clear hHeld
                            go_wp2_with fail
                            go_meet
                            case rel => exact ⟨_, H4, by simp only; omega⟩
                          · have Hy25_A := Hy25_.alloc (.cells #[.int .i64 q0.kd, .int .i64 q0.sr, .int .i64 q0.pi, .int .i64 q0.si, .int .i64 q0.nn, .int .i64 q0.zo, .bool q0.be, .int .i64 q1.kd, .int .i64 q1.sr, .int .i64 q1.pi, .int .i64 q1.si, .int .i64 q1.nn, .int .i64 q1.zo, .bool q1.be, .int .i64 q2.kd, .int .i64 q2.sr, .int .i64 q2.pi, .int .i64 q2.si, .int .i64 q2.nn, .int .i64 q2.zo, .bool q2.be] 39)
                            have nw := cells_new y25_ (evC q0 ++ (evC q1 ++ (evC q2))) 39
                            go_simp
                            refine hK.out _ _ (SK.out _ Hy25_A.bx) (fun hHeld => ?_)
                            clear hK
                            try simp only [Act.put, List.setIfInBounds_toArray, List.set_cons_zero, List.set_cons_succ]
                            refine wpAnyH_ready (rs := [1]) (by kernel_rfl) (by simp) ?_
                            refine AllReadyH.cons rfl (fun K' hK => ?_) AllReadyH.nil
                            have kl739 := Hy25_A.bg.cell 6
                            simp at kl739
                            go_simp
                            clear kl739
                            refine hK.out _ _ (SK.out _ Hy25_A.bx) (fun hHeld => ?_)
                            clear hK
                            try simp only [Act.put, List.setIfInBounds_toArray, List.set_cons_zero, List.set_cons_succ]
                            refine wpAnyH_ready (rs := [12]) (by kernel_rfl) (by simp) ?_
                            refine AllReadyH.cons rfl (fun K' hK => ?_) AllReadyH.nil
                            refine step_appendE2 rfl (.tmp 62) (.tmp 72) 28 rfl w.heap.size 39 i0 _ 7 56 Tryz.underlying28 hi hz0 hz1 hz2 rfl (by decide) _ _ _ rfl (show World.ownsRow _ w.heap.size 39 7 (.slice t.la t.ln t.lcap) t.ln (valsE evC t.ln t.es) from Hy25_A.rw) ⟨y25_.heap.size, 0, none⟩ 3 3 (evC q0 ++ (evC q1 ++ (evC q2))) rfl rfl nw (by intro u hu; simp [evC] at hu; rcases hu with rfl | rfl | rfl | rfl | rfl | rfl | rfl | rfl | rfl | rfl | rfl | rfl | rfl | rfl | rfl | rfl | rfl | rfl | rfl | rfl | rfl <;> rfl) (by show t.ln + 3 ≤ maxLen; unfold maxLen; omega) (by show (t.ln + 3) * 56 ≤ _; omega) (by have := Hy25_A.only.size; omega) ?_
                            intro v4 w4 hown4 hgr4 _
                            obtain ⟨la', cap', rfl, hc4, bg4, H4⟩ := Hy25_.appN (snoc_wf (snoc_wf (snoc_wf Hy25_.wf.2 wf_q0) wf_q1) wf_q2) (es' := (snoc (t.ln + 2) (snoc (t.ln + 1) (snoc t.ln t.es q0) q1) q2)) (by rw [← vals3]; exact hown4) hgr4
                            have bx4 := H4.bx
                            have c6 := bg4.cell 6
                            have f6 := bg4.froz 6
                            simp at c6
                            have bx5 : BoxR w4 w.heap.size 37 #[.slice s.pa s.pn s.pcap, .slice s.sa s.sn s.scap, .int .i64 s.ac, .int .i64 s.cl] := (hgr4.block _ Hy25_A.bx.lt (own_ne Hy25_A.rw Hy25_A.bx (by decide))).trans Hy25_A.bx
                            have es_ : ∃ es', DA w p a len cap s g { t with la := la', ln := t.ln + 3, lcap := cap', es := es' } (w4.setCell ⟨g, 6, none⟩ (.slice la' (t.ln + 3) cap')) := ⟨_, H4⟩
                            clear H4
                            obtain ⟨es', H4⟩ := es_
                            refine hK.out _ _ (SK.out _ bx5) (fun hHeld => ?_)
                            clear hK
                            try simp only [Act.put, List.setIfInBounds_toArray, List.set_cons_zero, List.set_cons_succ]
                            refine wpAnyH_take (i := 13) (v := .pointer (some ⟨g, 6, none⟩)) rfl (by kernel_rfl) (by kernel_rfl) (by kernel_rfl) (fun _ _ _ h => h) (Or.inl ⟨by rfl, fun u hSu => by (try dsimp only at hSu); go_simp⟩) hHeld ?_
                            try simp only [Act.put, List.setIfInBounds_toArray, List.set_cons_zero, List.set_cons_succ]
                            refine wpAnyH_ready (rs := [14]) (by kernel_rfl) (by simp) ?_
                            refine AllReadyH.cons rfl (fun K' hK => ?_) AllReadyH.nil
                            go_simp
                            refine hK.out _ _ (SK.out _ bx4) (fun hHeld => ?_)
                            clear hK
                            try simp only [Act.put, List.setIfInBounds_toArray, List.set_cons_zero, List.set_cons_succ]
                            refine wpAnyH_done (by kernel_rfl) ?_ _
                            clear hHeld
                            go_wp2_with fail
                            go_meet
                            case rel => exact ⟨_, H4, by simp only; omega⟩
                  case false =>
                    go_wp2_with fail
                    go_meet
                    case rel => exact ⟨_, H, hl⟩
  case rest =>
    clear H hl hl2
    obtain ⟨t, H, hl⟩ := hcut
    obtain ⟨k0, k1, k2, k3, k4, k5, k6⟩ := H.cells
    go_wp2_with (refine wpList_store_row rfl 30 (.tmp 4) _ rfl (w.heap.size + 1) _ (by rfl) (by rfl) _ _ H.br (by kernel_rfl) (by rfl) (by simp [Value.oneCell']) ?_)
    (try simp only [Exit.inBlock, Exit.then]); refine bodyPost_ret (results_cell_row rfl _ _ (w.heap.size + 1) _ _ _ _ rfl (setRow_heap _ _ _ _ _ _ H.br) Tryz.underlying30 rfl (by kernel_rfl)) rfl ?_
    exact ⟨_, H.wf, hl, rfl, H.only.setRow (by omega) _, H.cur.setRow (by omega) _, row_setRow' H.rw (own_ne H.rw H.br (by decide)) _⟩
end Go.Proofs.YtodfdfncdoliiadGreat
