/-
  Chapter 10: the draw l10Any. Written by tools/drawef.gen.py. Own work.
-/
import Derived.Test.YtodfdfncdoliiadDrawEf
import Derived.Deep.DeepCutAuto
import Derived.Deep.CutBlock
import Derived.Deep.RegionHeld
namespace Go.Proofs.Ytodfdfncdoliiad
open Go.ChangeShapes Go.WideShapes Go.ChangeAt Go.RowKit
set_option maxRecDepth 100000
set_option linter.unusedVariables false
set_option linter.unusedSimpArgs false

/-- while the effect's first draw is under way -/
structure D1 (w : World) (p : Nat) (a : Option Addr) (len cap : Nat) (s : Stt) (u : World) : Prop where
  only : Only p w u
  cur : Cur u p a len cap
  pr : p < w.heap.size
  bx : BoxR u w.heap.size 45 #[.slice s.pa s.pn s.pcap, .slice s.sa s.sn s.scap, .int .i64 s.ac, .int .i64 s.cl]
  br : BoxR u (w.heap.size + 1) 32 #[.int .i64 0, .int .i64 0, .int .i64 0, .int .i64 0, .int .i64 0, .int .i64 0, .int .i64 0, .int .i64 0, .int .i64 0, .int .i64 0, .int .i64 0, .int .i64 0, .int .i64 0, .int .i64 0, .int .i64 0, .int .i64 0, .int .i64 0, .int .i64 0, .bool false, .slice none 0 0, .int .i64 0, .int .i64 0]
theorem D1.draw {w : World} {p : Nat} {a : Option Addr} {len cap : Nat} {s : Stt} {u u' : World} (h : D1 w p a len cap s u) (ho : Only p u u') (hk : Cur u' p a len cap) : D1 w p a len cap s u' :=
  have h1 := h.pr
  ⟨h.only.trans ho, hk, h.pr, h.bx.onlyR ho (by omega), h.br.onlyR ho (by omega)⟩
theorem D1.alloc {w : World} {p : Nat} {a : Option Addr} {len cap : Nat} {s : Stt} {u : World} (h : D1 w p a len cap s u) (o : Obj) : D1 w p a len cap s (u.alloc o) :=
  ⟨h.only.alloc o, h.cur.only ((Only.refl u.heap.size u).alloc o) (Nat.ne_of_lt h.cur.1), h.pr, h.bx.alloc o, h.br.alloc o⟩
theorem D1.drew {w : World} {p : Nat} {a : Option Addr} {len cap : Nat} {s : Stt} {u : World} (h : D1 w p a len cap s u) : D1 w p a len cap s u.drew := ⟨h.only.drew, h.cur, h.pr, h.bx, h.br⟩
/-- the effect that was drawn, stored where it was made room for -/
theorem D1.fill {w : World} {p : Nat} {a : Option Addr} {len cap : Nat} {s : Stt} {u : World} {t : Ef} {g B : Nat} (h : D1 w p a len cap s u) (bg : BoxR u g 32 #[.int .i64 0, .int .i64 0, .int .i64 0, .int .i64 0, .int .i64 0, .int .i64 0, .int .i64 0, .int .i64 0, .int .i64 0, .int .i64 0, .int .i64 0, .int .i64 0, .int .i64 0, .int .i64 0, .int .i64 0, .int .i64 0, .int .i64 0, .int .i64 0, .bool false, .slice none 0 0, .int .i64 0, .int .i64 0]) (hg : w.heap.size + 1 < g) (hr : RowA u B t.ac) (hB : w.heap.size ≤ B) (hw : EW t) : DE w p a len cap s g t (u.setRow g #[.int .i64 t.id, .int .i64 t.si, .int .i64 t.sr, .int .i64 t.cl, .int .i64 t.pt.kd, .int .i64 t.pt.wh, .int .i64 t.pt.sr, .int .i64 t.pt.tr, .int .i64 t.pt.pi, .int .i64 t.pt.le, .int .i64 t.pt.zo, .int .i64 t.gd.kd, .int .i64 t.gd.nn, .int .i64 t.ac.kd, .int .i64 t.ac.nn, .int .i64 t.ac.pi, .int .i64 t.ac.si, .int .i64 t.ac.zo, .bool t.ac.be, .slice t.ac.la t.ac.ln t.ac.lcap, .int .i64 t.un, .int .i64 t.le]) :=
  have h1 := h.pr
  ⟨h.only.setRow (by omega) _, h.cur.setRow (by omega) _, h.pr, hg, oldRow9 h.bx (by omega), oldRow9 h.br (by omega), setRow_heap _ _ _ _ _ _ bg, row_setRow' (RowA.down hr hB) (own_ne hr bg (by decide)) _, hw⟩
set_option maxHeartbeats 40000000 in
theorem l10Any_any (p : Nat) (a : Option Addr) (len cap : Nat) (s : Stt) (w : World) {B C : Nat} (hc : Code w a len B) (hB : B ≤ p) (hcur : Cur w p a len cap) (hs : anS s) (hcl : 0 ≤ s.cl ∧ s.cl ≤ 10000) (hrw : RowsT w C s) (hC : p < C) :
    Calls Try.prog 12 #[.pointer (some ⟨p, 0, none⟩), (.agg #[.slice s.pa s.pn s.pcap, .slice s.sa s.sn s.scap, .int .i64 s.ac, .int .i64 s.cl])] w fun e w' => ∃ t : Ef, EW t ∧ e = .returned (.agg #[.int .i64 t.id, .int .i64 t.si, .int .i64 t.sr, .int .i64 t.cl, .int .i64 t.pt.kd, .int .i64 t.pt.wh, .int .i64 t.pt.sr, .int .i64 t.pt.tr, .int .i64 t.pt.pi, .int .i64 t.pt.le, .int .i64 t.pt.zo, .int .i64 t.gd.kd, .int .i64 t.gd.nn, .int .i64 t.ac.kd, .int .i64 t.ac.nn, .int .i64 t.ac.pi, .int .i64 t.ac.si, .int .i64 t.ac.zo, .bool t.ac.be, .slice t.ac.la t.ac.ln t.ac.lcap, .int .i64 t.un, .int .i64 t.le]) ∧ Only p w w' ∧ Cur w' p a len cap ∧ RowA w' w.heap.size t.ac := by
  have hp : p < w.heap.size := hcur.1
  have xb := (boxR_new w 45 #[.slice s.pa s.pn s.pcap, .slice s.sa s.sn s.scap, .int .i64 s.ac, .int .i64 s.cl]).alloc (.cells #[.int .i64 0, .int .i64 0, .int .i64 0, .int .i64 0, .int .i64 0, .int .i64 0, .int .i64 0, .int .i64 0, .int .i64 0, .int .i64 0, .int .i64 0, .int .i64 0, .int .i64 0, .int .i64 0, .int .i64 0, .int .i64 0, .int .i64 0, .int .i64 0, .bool false, .slice none 0 0, .int .i64 0, .int .i64 0] 32)
  have br : BoxR ((w.alloc (.cells #[.slice s.pa s.pn s.pcap, .slice s.sa s.sn s.scap, .int .i64 s.ac, .int .i64 s.cl] 45)).alloc (.cells #[.int .i64 0, .int .i64 0, .int .i64 0, .int .i64 0, .int .i64 0, .int .i64 0, .int .i64 0, .int .i64 0, .int .i64 0, .int .i64 0, .int .i64 0, .int .i64 0, .int .i64 0, .int .i64 0, .int .i64 0, .int .i64 0, .int .i64 0, .int .i64 0, .bool false, .slice none 0 0, .int .i64 0, .int .i64 0] 32)) (w.heap.size + 1) 32 #[.int .i64 0, .int .i64 0, .int .i64 0, .int .i64 0, .int .i64 0, .int .i64 0, .int .i64 0, .int .i64 0, .int .i64 0, .int .i64 0, .int .i64 0, .int .i64 0, .int .i64 0, .int .i64 0, .int .i64 0, .int .i64 0, .int .i64 0, .int .i64 0, .bool false, .slice none 0 0, .int .i64 0, .int .i64 0] := heap_alloc2_new _ _ _
  have h0 : D1 w p a len cap s ((w.alloc (.cells #[.slice s.pa s.pn s.pcap, .slice s.sa s.sn s.scap, .int .i64 s.ac, .int .i64 s.cl] 45)).alloc (.cells #[.int .i64 0, .int .i64 0, .int .i64 0, .int .i64 0, .int .i64 0, .int .i64 0, .int .i64 0, .int .i64 0, .int .i64 0, .int .i64 0, .int .i64 0, .int .i64 0, .int .i64 0, .int .i64 0, .int .i64 0, .int .i64 0, .int .i64 0, .int .i64 0, .bool false, .slice none 0 0, .int .i64 0, .int .i64 0] 32)) := ⟨((Only.refl p w).alloc _).alloc _, (hcur.only ((Only.refl w.heap.size w).alloc _) (Nat.ne_of_lt hp)).only ((Only.refl (w.heap.size + 1) _).alloc _) (by omega), hp, xb, br⟩
  clear xb br
  generalize hW : (w.alloc (.cells #[.slice s.pa s.pn s.pcap, .slice s.sa s.sn s.scap, .int .i64 s.ac, .int .i64 s.cl] 45)).alloc (.cells #[.int .i64 0, .int .i64 0, .int .i64 0, .int .i64 0, .int .i64 0, .int .i64 0, .int .i64 0, .int .i64 0, .int .i64 0, .int .i64 0, .int .i64 0, .int .i64 0, .int .i64 0, .int .i64 0, .int .i64 0, .int .i64 0, .int .i64 0, .int .i64 0, .bool false, .slice none 0 0, .int .i64 0, .int .i64 0] 32) = W at h0
  have hlw : w.heap.size + 1 < W.heap.size := h0.br.lt
  have SK : Hid (∀ u : World, BoxR u w.heap.size 45 #[.slice s.pa s.pn s.pcap, .slice s.sa s.sn s.scap, .int .i64 s.ac, .int .i64 s.cl] → u.cell? ⟨w.heap.size, 0, none⟩ = some (.slice s.pa s.pn s.pcap) ∧ u.cell? ⟨w.heap.size, 1, none⟩ = some (.slice s.sa s.sn s.scap) ∧ u.cell? ⟨w.heap.size, 2, none⟩ = some (.int .i64 s.ac) ∧ u.cell? ⟨w.heap.size, 3, none⟩ = some (.int .i64 s.cl)) := fun u h => ⟨h.cell 0, h.cell 1, h.cell 2, h.cell 3⟩
  go_enter Try.func12, Try.ntmps12
  (try simp only [List.append_eq, List.cons_append, List.nil_append])
  go_wp2_with fail
  clear hW hcur
  refine wp_cutT (fun x : Int × Nat × Value => [(6, .pointer (some ⟨p, 0, none⟩)), (7, (.agg #[.slice s.pa s.pn s.pcap, .slice s.sa s.sn s.scap, .int .i64 s.ac, .int .i64 s.cl])), (8, .pointer (some ⟨p, 0, none⟩)), (9, .int .i64 x.1), (10, .int .i64 (1 + x.1)), (11, x.2.2), (5, .pointer (some ⟨x.2.1, 0, none⟩))]) (fun x u => ∃ t : Ef, DE w p a len cap s x.2.1 t u) ?_ ?_
  · have hD := h0.drew
    refine wp_region_held_drew (S := fun u : World => u.cell? ⟨w.heap.size, 0, none⟩ = some (.slice s.pa s.pn s.pcap) ∧ u.cell? ⟨w.heap.size, 1, none⟩ = some (.slice s.sa s.sn s.scap) ∧ u.cell? ⟨w.heap.size, 2, none⟩ = some (.int .i64 s.ac) ∧ u.cell? ⟨w.heap.size, 3, none⟩ = some (.int .i64 s.cl)) (by kernel_rfl) (SK.out _ hD.bx) (fun hHeld => ?_)
    refine wpAnyH_take (i := 0) (oi := ⟨some 6, _, _, _, _, _⟩) (v := .pointer (some ⟨p, 0, none⟩)) rfl (by kernel_rfl) (by kernel_rfl) (by kernel_rfl) (fun _ _ _ h => h) (Or.inl ⟨by kernel_rfl, fun u hSu => by (try dsimp only at hSu); go_simp⟩) hHeld ?_
    try simp only [Act.put, List.setIfInBounds_toArray, List.set_cons_zero, List.set_cons_succ]
    refine wpAnyH_take (i := 1) (oi := ⟨some 7, _, _, _, _, _⟩) (v := (.agg #[.slice s.pa s.pn s.pcap, .slice s.sa s.sn s.scap, .int .i64 s.ac, .int .i64 s.cl])) rfl (by kernel_rfl) (by kernel_rfl) (by kernel_rfl) (fun _ _ _ h => h) (Or.inl ⟨by kernel_rfl, fun u hSu => by (try dsimp only at hSu); go_simp⟩) hHeld ?_
    try simp only [Act.put, List.setIfInBounds_toArray, List.set_cons_zero, List.set_cons_succ]
    refine wpAnyH_take (i := 2) (oi := ⟨some 8, _, _, _, _, _⟩) (v := .pointer (some ⟨p, 0, none⟩)) rfl (by kernel_rfl) (by kernel_rfl) (by kernel_rfl) (fun _ _ _ h => h) (Or.inl ⟨by kernel_rfl, fun u hSu => by (try dsimp only at hSu); go_simp⟩) hHeld ?_
    try simp only [Act.put, List.setIfInBounds_toArray, List.set_cons_zero, List.set_cons_succ]
    refine wpAnyH_ready (rs := [3, 6]) (by kernel_rfl) (by simp) ?_
    refine AllReadyH.cons rfl (fun K' hK => ?_) (AllReadyH.cons rfl (fun K' hK => ?_) (AllReadyH.nil))
    · go_simp
      go_at_call 32
      refine (l1Below_any p a len cap _ _ (hc.only hD.only hB) hB hD.cur).mono ?_
      rintro e y1_ ⟨x, n0_, n1_, rfl, ho, hk⟩
      have n2_ := n1_ (by omega)
      have i_x : inI64 (1 + x) := by unfold inI64; omega
      have hdy1_ := hD.draw ho hk
      clear ho hk n1_
      refine hK.out _ _ (SK.out _ hdy1_.bx) (fun hHeld => ?_)
      clear hK
      try simp only [Act.put, List.setIfInBounds_toArray, List.set_cons_zero, List.set_cons_succ]
      refine wpAnyH_take (i := 4) (oi := ⟨some 10, _, _, _, _, _⟩) (v := .int .i64 (1 + x)) rfl (by kernel_rfl) (by kernel_rfl) (by kernel_rfl) (fun _ _ _ h => h) (Or.inl ⟨by kernel_rfl, fun u hSu => by (try dsimp only at hSu); go_simp; first | done | go_num | (rw [IntKind.wrap_i64]; omega)⟩) hHeld ?_
      try simp only [Act.put, List.setIfInBounds_toArray, List.set_cons_zero, List.set_cons_succ]
      refine wpAnyH_ready (rs := [5, 6]) (by kernel_rfl) (by simp) ?_
      refine AllReadyH.cons rfl (fun K' hK => ?_) (AllReadyH.cons rfl (fun K' hK => ?_) (AllReadyH.nil))
      · go_simp
        go_at_call 31
        refine (l10Draw_any p a len cap s _ _ (hc.only hdy1_.only hB) hB hdy1_.cur hs hcl (hrw.only hdy1_.only hC) hC).mono ?_
        rintro e y2_ ⟨t, twf, rfl, ho, hk, hra⟩
        have hdy2_ := hdy1_.draw ho hk
        have hz : w.heap.size ≤ y1_.heap.size := hdy1_.only.size
        clear ho hk
        refine hK.out _ _ (SK.out _ hdy2_.bx) (fun hHeld => ?_)
        clear hK
        try simp only [Act.put, List.setIfInBounds_toArray, List.set_cons_zero, List.set_cons_succ]
        refine wpAnyH_ready (rs := [6]) (by kernel_rfl) (by simp) ?_
        refine AllReadyH.cons rfl (fun K' hK => ?_) AllReadyH.nil
        have ha40 : D1 w p a len cap s (y2_.alloc (.cells #[.int .i64 0, .int .i64 0, .int .i64 0, .int .i64 0, .int .i64 0, .int .i64 0, .int .i64 0, .int .i64 0, .int .i64 0, .int .i64 0, .int .i64 0, .int .i64 0, .int .i64 0, .int .i64 0, .int .i64 0, .int .i64 0, .int .i64 0, .int .i64 0, .bool false, .slice none 0 0, .int .i64 0, .int .i64 0] 32)) := hdy2_.alloc (.cells #[.int .i64 0, .int .i64 0, .int .i64 0, .int .i64 0, .int .i64 0, .int .i64 0, .int .i64 0, .int .i64 0, .int .i64 0, .int .i64 0, .int .i64 0, .int .i64 0, .int .i64 0, .int .i64 0, .int .i64 0, .int .i64 0, .int .i64 0, .int .i64 0, .bool false, .slice none 0 0, .int .i64 0, .int .i64 0] 32)
        have bg : BoxR (y2_.alloc (.cells #[.int .i64 0, .int .i64 0, .int .i64 0, .int .i64 0, .int .i64 0, .int .i64 0, .int .i64 0, .int .i64 0, .int .i64 0, .int .i64 0, .int .i64 0, .int .i64 0, .int .i64 0, .int .i64 0, .int .i64 0, .int .i64 0, .int .i64 0, .int .i64 0, .bool false, .slice none 0 0, .int .i64 0, .int .i64 0] 32)) y2_.heap.size 32 #[.int .i64 0, .int .i64 0, .int .i64 0, .int .i64 0, .int .i64 0, .int .i64 0, .int .i64 0, .int .i64 0, .int .i64 0, .int .i64 0, .int .i64 0, .int .i64 0, .int .i64 0, .int .i64 0, .int .i64 0, .int .i64 0, .int .i64 0, .int .i64 0, .bool false, .slice none 0 0, .int .i64 0, .int .i64 0] := boxR_new y2_ 32 #[.int .i64 0, .int .i64 0, .int .i64 0, .int .i64 0, .int .i64 0, .int .i64 0, .int .i64 0, .int .i64 0, .int .i64 0, .int .i64 0, .int .i64 0, .int .i64 0, .int .i64 0, .int .i64 0, .int .i64 0, .int .i64 0, .int .i64 0, .int .i64 0, .bool false, .slice none 0 0, .int .i64 0, .int .i64 0]
        have hgz : w.heap.size + 1 < y2_.heap.size := hdy2_.br.lt
        replace hra := hra.grew (below_new2'' (y2_) (.cells #[.int .i64 0, .int .i64 0, .int .i64 0, .int .i64 0, .int .i64 0, .int .i64 0, .int .i64 0, .int .i64 0, .int .i64 0, .int .i64 0, .int .i64 0, .int .i64 0, .int .i64 0, .int .i64 0, .int .i64 0, .int .i64 0, .int .i64 0, .int .i64 0, .bool false, .slice none 0 0, .int .i64 0, .int .i64 0] 32))
        go_simp
        refine hK.out _ _ (SK.out _ ha40.bx) (fun hHeld => ?_)
        clear hK
        try simp only [Act.put, List.setIfInBounds_toArray, List.set_cons_zero, List.set_cons_succ]
        generalize hGy3_ : (y2_.alloc (.cells #[.int .i64 0, .int .i64 0, .int .i64 0, .int .i64 0, .int .i64 0, .int .i64 0, .int .i64 0, .int .i64 0, .int .i64 0, .int .i64 0, .int .i64 0, .int .i64 0, .int .i64 0, .int .i64 0, .int .i64 0, .int .i64 0, .int .i64 0, .int .i64 0, .bool false, .slice none 0 0, .int .i64 0, .int .i64 0] 32)) = y3_ at ha40 bg hra hHeld ⊢
        clear hGy3_
        obtain ⟨g, hg⟩ : ∃ g, y2_.heap.size = g := ⟨_, rfl⟩
        rw [hg] at bg hgz ⊢
        clear hg
        have hpg : p < g := by omega
        refine wpAnyH_ready (rs := [7]) (by kernel_rfl) (by simp) ?_
        refine AllReadyH.cons rfl (fun K' hK => ?_) AllReadyH.nil
        have H := ha40.fill bg hgz hra hz twf
        rw [if_pos (by rfl)]
        refine wp_store_row 32 (.tmp 5) (.tmp 11) rfl g #[.int .i64 t.id, .int .i64 t.si, .int .i64 t.sr, .int .i64 t.cl, .int .i64 t.pt.kd, .int .i64 t.pt.wh, .int .i64 t.pt.sr, .int .i64 t.pt.tr, .int .i64 t.pt.pi, .int .i64 t.pt.le, .int .i64 t.pt.zo, .int .i64 t.gd.kd, .int .i64 t.gd.nn, .int .i64 t.ac.kd, .int .i64 t.ac.nn, .int .i64 t.ac.pi, .int .i64 t.ac.si, .int .i64 t.ac.zo, .bool t.ac.be, .slice t.ac.la t.ac.ln t.ac.lcap, .int .i64 t.un, .int .i64 t.le] (by first | rfl | simp [Act.eval]) rfl _ _ bg (by kernel_rfl) (by rfl) (by simp [Value.oneCell']) ?_
        refine hK.out _ _ (SK.out _ H.bx) (fun hHeld => ?_)
        clear hK
        try simp only [Act.put, List.setIfInBounds_toArray, List.set_cons_zero, List.set_cons_succ]
        refine wpAnyH_done (by kernel_rfl) ?_ _
        exact ⟨(x, g, (.agg #[.int .i64 t.id, .int .i64 t.si, .int .i64 t.sr, .int .i64 t.cl, .int .i64 t.pt.kd, .int .i64 t.pt.wh, .int .i64 t.pt.sr, .int .i64 t.pt.tr, .int .i64 t.pt.pi, .int .i64 t.pt.le, .int .i64 t.pt.zo, .int .i64 t.gd.kd, .int .i64 t.gd.nn, .int .i64 t.ac.kd, .int .i64 t.ac.nn, .int .i64 t.ac.pi, .int .i64 t.ac.si, .int .i64 t.ac.zo, .bool t.ac.be, .slice t.ac.la t.ac.ln t.ac.lcap, .int .i64 t.un, .int .i64 t.le])), rfl, t, H⟩
      · have ha64 : D1 w p a len cap s (y1_.alloc (.cells #[.int .i64 0, .int .i64 0, .int .i64 0, .int .i64 0, .int .i64 0, .int .i64 0, .int .i64 0, .int .i64 0, .int .i64 0, .int .i64 0, .int .i64 0, .int .i64 0, .int .i64 0, .int .i64 0, .int .i64 0, .int .i64 0, .int .i64 0, .int .i64 0, .bool false, .slice none 0 0, .int .i64 0, .int .i64 0] 32)) := hdy1_.alloc (.cells #[.int .i64 0, .int .i64 0, .int .i64 0, .int .i64 0, .int .i64 0, .int .i64 0, .int .i64 0, .int .i64 0, .int .i64 0, .int .i64 0, .int .i64 0, .int .i64 0, .int .i64 0, .int .i64 0, .int .i64 0, .int .i64 0, .int .i64 0, .int .i64 0, .bool false, .slice none 0 0, .int .i64 0, .int .i64 0] 32)
        have bg : BoxR (y1_.alloc (.cells #[.int .i64 0, .int .i64 0, .int .i64 0, .int .i64 0, .int .i64 0, .int .i64 0, .int .i64 0, .int .i64 0, .int .i64 0, .int .i64 0, .int .i64 0, .int .i64 0, .int .i64 0, .int .i64 0, .int .i64 0, .int .i64 0, .int .i64 0, .int .i64 0, .bool false, .slice none 0 0, .int .i64 0, .int .i64 0] 32)) y1_.heap.size 32 #[.int .i64 0, .int .i64 0, .int .i64 0, .int .i64 0, .int .i64 0, .int .i64 0, .int .i64 0, .int .i64 0, .int .i64 0, .int .i64 0, .int .i64 0, .int .i64 0, .int .i64 0, .int .i64 0, .int .i64 0, .int .i64 0, .int .i64 0, .int .i64 0, .bool false, .slice none 0 0, .int .i64 0, .int .i64 0] := boxR_new y1_ 32 #[.int .i64 0, .int .i64 0, .int .i64 0, .int .i64 0, .int .i64 0, .int .i64 0, .int .i64 0, .int .i64 0, .int .i64 0, .int .i64 0, .int .i64 0, .int .i64 0, .int .i64 0, .int .i64 0, .int .i64 0, .int .i64 0, .int .i64 0, .int .i64 0, .bool false, .slice none 0 0, .int .i64 0, .int .i64 0]
        have hgz : w.heap.size + 1 < y1_.heap.size := hdy1_.br.lt
        go_simp
        refine hK.out _ _ (SK.out _ ha64.bx) (fun hHeld => ?_)
        clear hK
        try simp only [Act.put, List.setIfInBounds_toArray, List.set_cons_zero, List.set_cons_succ]
        generalize hGy4_ : (y1_.alloc (.cells #[.int .i64 0, .int .i64 0, .int .i64 0, .int .i64 0, .int .i64 0, .int .i64 0, .int .i64 0, .int .i64 0, .int .i64 0, .int .i64 0, .int .i64 0, .int .i64 0, .int .i64 0, .int .i64 0, .int .i64 0, .int .i64 0, .int .i64 0, .int .i64 0, .bool false, .slice none 0 0, .int .i64 0, .int .i64 0] 32)) = y4_ at ha64 bg hHeld ⊢
        clear hGy4_
        obtain ⟨g, hg⟩ : ∃ g, y1_.heap.size = g := ⟨_, rfl⟩
        rw [hg] at bg hgz ⊢
        clear hg
        have hpg : p < g := by omega
        refine wpAnyH_ready (rs := [5]) (by kernel_rfl) (by simp) ?_
        refine AllReadyH.cons rfl (fun K' hK => ?_) AllReadyH.nil
        go_simp
        go_at_call 31
        refine (l10Draw_any p a len cap s _ _ (hc.only ha64.only hB) hB ha64.cur hs hcl (hrw.only ha64.only hC) hC).mono ?_
        rintro e y5_ ⟨t, twf, rfl, ho, hk, hra⟩
        have hdy5_ := ha64.draw ho hk
        replace bg := bg.onlyR ho (by omega)
        have hz : w.heap.size ≤ y4_.heap.size := ha64.only.size
        clear ho hk
        refine hK.out _ _ (SK.out _ hdy5_.bx) (fun hHeld => ?_)
        clear hK
        try simp only [Act.put, List.setIfInBounds_toArray, List.set_cons_zero, List.set_cons_succ]
        refine wpAnyH_ready (rs := [7]) (by kernel_rfl) (by simp) ?_
        refine AllReadyH.cons rfl (fun K' hK => ?_) AllReadyH.nil
        have H := hdy5_.fill bg hgz hra hz twf
        rw [if_pos (by rfl)]
        refine wp_store_row 32 (.tmp 5) (.tmp 11) rfl g #[.int .i64 t.id, .int .i64 t.si, .int .i64 t.sr, .int .i64 t.cl, .int .i64 t.pt.kd, .int .i64 t.pt.wh, .int .i64 t.pt.sr, .int .i64 t.pt.tr, .int .i64 t.pt.pi, .int .i64 t.pt.le, .int .i64 t.pt.zo, .int .i64 t.gd.kd, .int .i64 t.gd.nn, .int .i64 t.ac.kd, .int .i64 t.ac.nn, .int .i64 t.ac.pi, .int .i64 t.ac.si, .int .i64 t.ac.zo, .bool t.ac.be, .slice t.ac.la t.ac.ln t.ac.lcap, .int .i64 t.un, .int .i64 t.le] (by first | rfl | simp [Act.eval]) rfl _ _ bg (by kernel_rfl) (by rfl) (by simp [Value.oneCell']) ?_
        refine hK.out _ _ (SK.out _ H.bx) (fun hHeld => ?_)
        clear hK
        try simp only [Act.put, List.setIfInBounds_toArray, List.set_cons_zero, List.set_cons_succ]
        refine wpAnyH_done (by kernel_rfl) ?_ _
        exact ⟨(x, g, (.agg #[.int .i64 t.id, .int .i64 t.si, .int .i64 t.sr, .int .i64 t.cl, .int .i64 t.pt.kd, .int .i64 t.pt.wh, .int .i64 t.pt.sr, .int .i64 t.pt.tr, .int .i64 t.pt.pi, .int .i64 t.pt.le, .int .i64 t.pt.zo, .int .i64 t.gd.kd, .int .i64 t.gd.nn, .int .i64 t.ac.kd, .int .i64 t.ac.nn, .int .i64 t.ac.pi, .int .i64 t.ac.si, .int .i64 t.ac.zo, .bool t.ac.be, .slice t.ac.la t.ac.ln t.ac.lcap, .int .i64 t.un, .int .i64 t.le])), rfl, t, H⟩
    · have ha100 : D1 w p a len cap s (W.alloc (.cells #[.int .i64 0, .int .i64 0, .int .i64 0, .int .i64 0, .int .i64 0, .int .i64 0, .int .i64 0, .int .i64 0, .int .i64 0, .int .i64 0, .int .i64 0, .int .i64 0, .int .i64 0, .int .i64 0, .int .i64 0, .int .i64 0, .int .i64 0, .int .i64 0, .bool false, .slice none 0 0, .int .i64 0, .int .i64 0] 32)).drew := (h0.alloc (.cells #[.int .i64 0, .int .i64 0, .int .i64 0, .int .i64 0, .int .i64 0, .int .i64 0, .int .i64 0, .int .i64 0, .int .i64 0, .int .i64 0, .int .i64 0, .int .i64 0, .int .i64 0, .int .i64 0, .int .i64 0, .int .i64 0, .int .i64 0, .int .i64 0, .bool false, .slice none 0 0, .int .i64 0, .int .i64 0] 32)).drew
      have bg : BoxR (W.alloc (.cells #[.int .i64 0, .int .i64 0, .int .i64 0, .int .i64 0, .int .i64 0, .int .i64 0, .int .i64 0, .int .i64 0, .int .i64 0, .int .i64 0, .int .i64 0, .int .i64 0, .int .i64 0, .int .i64 0, .int .i64 0, .int .i64 0, .int .i64 0, .int .i64 0, .bool false, .slice none 0 0, .int .i64 0, .int .i64 0] 32)).drew W.heap.size 32 #[.int .i64 0, .int .i64 0, .int .i64 0, .int .i64 0, .int .i64 0, .int .i64 0, .int .i64 0, .int .i64 0, .int .i64 0, .int .i64 0, .int .i64 0, .int .i64 0, .int .i64 0, .int .i64 0, .int .i64 0, .int .i64 0, .int .i64 0, .int .i64 0, .bool false, .slice none 0 0, .int .i64 0, .int .i64 0] := boxR_new W 32 #[.int .i64 0, .int .i64 0, .int .i64 0, .int .i64 0, .int .i64 0, .int .i64 0, .int .i64 0, .int .i64 0, .int .i64 0, .int .i64 0, .int .i64 0, .int .i64 0, .int .i64 0, .int .i64 0, .int .i64 0, .int .i64 0, .int .i64 0, .int .i64 0, .bool false, .slice none 0 0, .int .i64 0, .int .i64 0]
      have hgz : w.heap.size + 1 < W.heap.size := hlw
      go_simp
      refine hK.out _ _ (SK.out _ ha100.bx) (fun hHeld => ?_)
      clear hK
      try simp only [Act.put, List.setIfInBounds_toArray, List.set_cons_zero, List.set_cons_succ]
      generalize hGy6_ : (W.alloc (.cells #[.int .i64 0, .int .i64 0, .int .i64 0, .int .i64 0, .int .i64 0, .int .i64 0, .int .i64 0, .int .i64 0, .int .i64 0, .int .i64 0, .int .i64 0, .int .i64 0, .int .i64 0, .int .i64 0, .int .i64 0, .int .i64 0, .int .i64 0, .int .i64 0, .bool false, .slice none 0 0, .int .i64 0, .int .i64 0] 32)).drew = y6_ at ha100 bg hHeld ⊢
      clear hGy6_
      obtain ⟨g, hg⟩ : ∃ g, W.heap.size = g := ⟨_, rfl⟩
      rw [hg] at bg hgz ⊢
      clear hg
      have hpg : p < g := by omega
      refine wpAnyH_ready (rs := [3]) (by kernel_rfl) (by simp) ?_
      refine AllReadyH.cons rfl (fun K' hK => ?_) AllReadyH.nil
      go_simp
      go_at_call 32
      refine (l1Below_any p a len cap _ _ (hc.only ha100.only hB) hB ha100.cur).mono ?_
      rintro e y7_ ⟨x, n0_, n1_, rfl, ho, hk⟩
      have n2_ := n1_ (by omega)
      have i_x : inI64 (1 + x) := by unfold inI64; omega
      have hdy7_ := ha100.draw ho hk
      replace bg := bg.onlyR ho (by omega)
      clear ho hk n1_
      refine hK.out _ _ (SK.out _ hdy7_.bx) (fun hHeld => ?_)
      clear hK
      try simp only [Act.put, List.setIfInBounds_toArray, List.set_cons_zero, List.set_cons_succ]
      refine wpAnyH_take (i := 4) (oi := ⟨some 10, _, _, _, _, _⟩) (v := .int .i64 (1 + x)) rfl (by kernel_rfl) (by kernel_rfl) (by kernel_rfl) (fun _ _ _ h => h) (Or.inl ⟨by kernel_rfl, fun u hSu => by (try dsimp only at hSu); go_simp; first | done | go_num | (rw [IntKind.wrap_i64]; omega)⟩) hHeld ?_
      try simp only [Act.put, List.setIfInBounds_toArray, List.set_cons_zero, List.set_cons_succ]
      refine wpAnyH_ready (rs := [5]) (by kernel_rfl) (by simp) ?_
      refine AllReadyH.cons rfl (fun K' hK => ?_) AllReadyH.nil
      go_simp
      go_at_call 31
      refine (l10Draw_any p a len cap s _ _ (hc.only hdy7_.only hB) hB hdy7_.cur hs hcl (hrw.only hdy7_.only hC) hC).mono ?_
      rintro e y8_ ⟨t, twf, rfl, ho, hk, hra⟩
      have hdy8_ := hdy7_.draw ho hk
      replace bg := bg.onlyR ho (by omega)
      have hz : w.heap.size ≤ y7_.heap.size := hdy7_.only.size
      clear ho hk
      refine hK.out _ _ (SK.out _ hdy8_.bx) (fun hHeld => ?_)
      clear hK
      try simp only [Act.put, List.setIfInBounds_toArray, List.set_cons_zero, List.set_cons_succ]
      refine wpAnyH_ready (rs := [7]) (by kernel_rfl) (by simp) ?_
      refine AllReadyH.cons rfl (fun K' hK => ?_) AllReadyH.nil
      have H := hdy8_.fill bg hgz hra hz twf
      rw [if_pos (by rfl)]
      refine wp_store_row 32 (.tmp 5) (.tmp 11) rfl g #[.int .i64 t.id, .int .i64 t.si, .int .i64 t.sr, .int .i64 t.cl, .int .i64 t.pt.kd, .int .i64 t.pt.wh, .int .i64 t.pt.sr, .int .i64 t.pt.tr, .int .i64 t.pt.pi, .int .i64 t.pt.le, .int .i64 t.pt.zo, .int .i64 t.gd.kd, .int .i64 t.gd.nn, .int .i64 t.ac.kd, .int .i64 t.ac.nn, .int .i64 t.ac.pi, .int .i64 t.ac.si, .int .i64 t.ac.zo, .bool t.ac.be, .slice t.ac.la t.ac.ln t.ac.lcap, .int .i64 t.un, .int .i64 t.le] (by first | rfl | simp [Act.eval]) rfl _ _ bg (by kernel_rfl) (by rfl) (by simp [Value.oneCell']) ?_
      refine hK.out _ _ (SK.out _ H.bx) (fun hHeld => ?_)
      clear hK
      try simp only [Act.put, List.setIfInBounds_toArray, List.set_cons_zero, List.set_cons_succ]
      refine wpAnyH_done (by kernel_rfl) ?_ _
      exact ⟨(x, g, (.agg #[.int .i64 t.id, .int .i64 t.si, .int .i64 t.sr, .int .i64 t.cl, .int .i64 t.pt.kd, .int .i64 t.pt.wh, .int .i64 t.pt.sr, .int .i64 t.pt.tr, .int .i64 t.pt.pi, .int .i64 t.pt.le, .int .i64 t.pt.zo, .int .i64 t.gd.kd, .int .i64 t.gd.nn, .int .i64 t.ac.kd, .int .i64 t.ac.nn, .int .i64 t.ac.pi, .int .i64 t.ac.si, .int .i64 t.ac.zo, .bool t.ac.be, .slice t.ac.la t.ac.ln t.ac.lcap, .int .i64 t.un, .int .i64 t.le])), rfl, t, H⟩
  rintro ⟨x, g, v11⟩ V ⟨t, H⟩
  dsimp only at H ⊢
  simp only [puts, List.foldl, Act.put, List.setIfInBounds_toArray, List.set_cons_zero, List.set_cons_succ]
  clear h0 hlw SK
  as_aux_lemma =>
    go_wp2_with fail
    refine (l1Below_any p a len cap _ _ (hc.only H.only hB) hB H.cur).mono ?_
    rintro e y9_ ⟨k, n0_, n1_, rfl, ho, hk⟩
    replace H := H.draw ho hk
    clear ho hk
    clear n0_ n1_
    go_upto_block 0 with fail
    go_cut [] (fun wc => ∃ t : Ef, DE w p a len cap s g t wc)
    case first =>
      go_upto_if 14 with fail
      cases t0 : (k == 0)
      case true =>
        go_wp2_with (refine wpL_build3 _ _ _ ?_)
        refine (l1Int_new p a len cap [0, 99, 100] 3 _ (hc.only H.only hB) hB H.cur (by decide) (by decide)).mono ?_
        rintro e y10_ ⟨z, m_, rfl, ho, hk⟩
        replace H := H.draw ho hk
        clear ho hk
        clear m_
        have kj := H.bg.cell 0
        simp at kj
        have fj := H.bg.froz 0
        have H' := H.putId (x := z)
        clear H
        go_wp2_with fail
        go_meet
        case rel => exact ⟨_, H'⟩
      case false =>
        go_upto_if 20 with fail
        cases t1 : (k == 1)
        case true =>
          go_wp2_with (refine wpL_build3 _ _ _ ?_)
          refine (l1Int_new p a len cap [-1, 2, 3] 3 _ (hc.only H.only hB) hB H.cur (by decide) (by decide)).mono ?_
          rintro e y11_ ⟨z, m_, rfl, ho, hk⟩
          replace H := H.draw ho hk
          clear ho hk
          clear m_
          have kj := H.bg.cell 1
          simp at kj
          have fj := H.bg.froz 1
          have H' := H.putSi (x := z)
          clear H
          go_wp2_with fail
          go_meet
          case rel => exact ⟨_, H'⟩
        case false =>
          go_upto_if 26 with fail
          cases t2 : (k == 2)
          case true =>
            go_wp2_with (refine wpL_build4 _ _ _ _ ?_)
            refine (l1Int_new p a len cap [-1, 0, 99, 100] 3 _ (hc.only H.only hB) hB H.cur (by decide) (by decide)).mono ?_
            rintro e y12_ ⟨z, m_, rfl, ho, hk⟩
            replace H := H.draw ho hk
            clear ho hk
            clear m_
            have kj := H.bg.cell 2
            simp at kj
            have fj := H.bg.froz 2
            have H' := H.putSr (x := z)
            clear H
            go_wp2_with fail
            go_meet
            case rel => exact ⟨_, H'⟩
          case false =>
            go_upto_if 32 with fail
            cases t3 : (k == 3)
            case true =>
              go_wp2_with (refine wpL_build3 _ _ _ ?_)
              refine (l1Int_new p a len cap [-1, 0, 5] 3 _ (hc.only H.only hB) hB H.cur (by decide) (by decide)).mono ?_
              rintro e y13_ ⟨z, m_, rfl, ho, hk⟩
              replace H := H.draw ho hk
              clear ho hk
              clear m_
              have kj := H.bg.cell 3
              simp at kj
              have fj := H.bg.froz 3
              have H' := H.putCl (x := z)
              clear H
              go_wp2_with fail
              go_meet
              case rel => exact ⟨_, H'⟩
            case false =>
              go_upto_if 38 with fail
              cases t4 : (k == 4)
              case true =>
                have X0 := H.bx.cell 0
                have X1 := H.bx.cell 1
                have X2 := H.bx.cell 2
                have X3 := H.bx.cell 3
                simp at X0 X1 X2 X3
                go_wp2_with fail
                refine (l7Any_any p a len cap s _ (hc.only H.only hB) hB H.cur hs (hrw.only H.only hC) hC).mono ?_
                rintro e y14_ ⟨q, qwf, rfl, ho, hk⟩
                replace H := H.draw ho hk
                clear ho hk
                clear X0 X1 X2 X3
                have ht : y14_.there g 4 7 := H.bg.thereL (by simp)
                have H' := H.putP q
                clear H
                generalize hU : y14_.setCells g 4 (#[.int .i64 q.kd, .int .i64 q.wh, .int .i64 q.sr, .int .i64 q.tr, .int .i64 q.pi, .int .i64 q.le, .int .i64 q.zo] : Array Value).toList = y15_ at H'
                go_wp2_with (refine wpList_store_mid rfl 25 (.tmp 43) (.tmp 42) rfl g 4 #[.int .i64 q.kd, .int .i64 q.wh, .int .i64 q.sr, .int .i64 q.tr, .int .i64 q.pi, .int .i64 q.le, .int .i64 q.zo] (by first | rfl | simp [Act.eval]) rfl ht (by kernel_rfl) (by simp [Value.oneCell']) ?_; rw [hU])
                clear ht hU
                go_meet
                case rel => exact ⟨_, H'⟩
              case false =>
                go_upto_if 44 with fail
                cases t5 : (k == 5)
                case true =>
                  go_wp2_with fail
                  refine (l8Any_any p a len cap _ (hc.only H.only hB) hB H.cur).mono ?_
                  rintro e y16_ ⟨q, rfl, ho, hk⟩
                  replace H := H.draw ho hk
                  clear ho hk
                  have ht : y16_.there g 11 2 := H.bg.thereL (by simp)
                  have H' := H.putG q
                  clear H
                  generalize hU : y16_.setCells g 11 (#[.int .i64 q.kd, .int .i64 q.nn] : Array Value).toList = y17_ at H'
                  go_wp2_with (refine wpList_store_mid rfl 27 (.tmp 48) (.tmp 47) rfl g 11 #[.int .i64 q.kd, .int .i64 q.nn] (by first | rfl | simp [Act.eval]) rfl ht (by kernel_rfl) (by simp [Value.oneCell']) ?_; rw [hU])
                  clear ht hU
                  go_meet
                  case rel => exact ⟨_, H'⟩
                case false =>
                  go_upto_if 49 with fail
                  cases t6 : (k == 6)
                  case true =>
                    have X0 := H.bx.cell 0
                    have X1 := H.bx.cell 1
                    have X2 := H.bx.cell 2
                    have X3 := H.bx.cell 3
                    simp at X0 X1 X2 X3
                    go_wp2_with fail
                    refine (l9Any_any p a len cap s _ (hc.only H.only hB) hB H.cur hs (hrw.only H.only hC) hC).mono ?_
                    rintro e y18_ ⟨q, twf, tl, rfl, ho, hk, hra⟩
                    have hBs : w.heap.size ≤ y9_.heap.size := H.only.size
                    replace H := H.draw ho hk
                    clear ho hk
                    clear X0 X1 X2 X3
                    have ht : y18_.there g 13 7 := H.bg.thereL (by simp)
                    have H' := H.putA hra hBs twf tl
                    clear H
                    generalize hU : y18_.setCells g 13 (#[.int .i64 q.kd, .int .i64 q.nn, .int .i64 q.pi, .int .i64 q.si, .int .i64 q.zo, .bool q.be, .slice q.la q.ln q.lcap] : Array Value).toList = y19_ at H'
                    go_wp2_with (refine wpList_store_mid rfl 30 (.tmp 54) (.tmp 53) rfl g 13 #[.int .i64 q.kd, .int .i64 q.nn, .int .i64 q.pi, .int .i64 q.si, .int .i64 q.zo, .bool q.be, .slice q.la q.ln q.lcap] (by first | rfl | simp [Act.eval]) rfl ht (by kernel_rfl) (by simp [Value.oneCell']) ?_; rw [hU])
                    clear ht hU
                    go_meet
                    case rel => exact ⟨_, H'⟩
                  case false =>
                    go_upto_if 55 with fail
                    cases t7 : (k == 7)
                    case true =>
                      go_wp2_with (refine wpL_build4 _ _ _ _ ?_)
                      refine (l1Int_new p a len cap [-2, 0, 9999, 10000] 3 _ (hc.only H.only hB) hB H.cur (by decide) (by decide)).mono ?_
                      rintro e y20_ ⟨z, m_, rfl, ho, hk⟩
                      replace H := H.draw ho hk
                      clear ho hk
                      clear m_
                      have kj := H.bg.cell 20
                      simp at kj
                      have fj := H.bg.froz 20
                      have H' := H.putUn (x := z)
                      clear H
                      go_wp2_with fail
                      go_meet
                      case rel => exact ⟨_, H'⟩
                    case false =>
                      go_upto_if 61 with fail
                      cases t8 : (k == 8)
                      case true =>
                        go_wp2_with (refine wpL_build5 _ _ _ _ _ ?_)
                        refine (l1Int_new p a len cap [-2, -1, 0, 1, 2147483648] 3 _ (hc.only H.only hB) hB H.cur (by decide) (by decide)).mono ?_
                        rintro e y21_ ⟨z, m_, rfl, ho, hk⟩
                        have i_z : inI64 z := list_in _ (by decide) z m_
                        replace H := H.draw ho hk
                        clear ho hk
                        clear m_
                        have kj := H.bg.cell 21
                        simp at kj
                        have fj := H.bg.froz 21
                        have H' := H.putLe i_z
                        clear H
                        go_wp2_with fail
                        go_meet
                        case rel => exact ⟨_, H'⟩
                      case false =>
                        go_wp2_with fail
                        go_meet
                        case rel => exact ⟨_, H⟩
    case rest =>
      clear H
      obtain ⟨t, H⟩ := hcut
      as_aux_lemma =>
        go_wp2_with first | (refine wpList_load_row rfl 32 _ rfl g (by rfl) _ _ _ _ H.bg Try.underlying32 rfl (by kernel_rfl) ?_) | (refine wpList_store_row rfl 32 (.tmp 4) _ rfl (w.heap.size + 1) _ (by rfl) (by rfl) _ _ H.br (by kernel_rfl) (by rfl) (by simp [Value.oneCell']) ?_)
        (try simp only [Exit.inBlock, Exit.then]); refine bodyPost_ret (results_cell_row rfl _ _ (w.heap.size + 1) _ _ _ _ rfl (setRow_heap _ _ _ _ _ _ H.br) Try.underlying32 rfl (by kernel_rfl)) rfl ?_
        exact ⟨t, H.wf, rfl, H.only.setRow (by omega) _, H.cur.setRow (by omega) _, row_setRow' H.rw (own_ne H.rw H.br (by decide)) _⟩
end Go.Proofs.Ytodfdfncdoliiad
