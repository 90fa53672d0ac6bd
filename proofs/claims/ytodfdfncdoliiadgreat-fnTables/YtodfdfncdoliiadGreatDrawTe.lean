/-
  Chapter 11: the draws DrawExpire, DrawUpdate. Written by tools/drawte.gen.py. Own work.
-/
import Derived.Test.YtodfdfncdoliiadGreatGDrawAd3
import Derived.Deep.RegionHeld
import Derived.Deep.RegionHeldLaw
import Derived.Deep.MidRow
namespace Go.Proofs.YtodfdfncdoliiadGreat
open Go.ChangeShapes Go.WideShapes Go.ChangeAt Go.RowKit
set_option maxRecDepth 100000
set_option linter.unusedVariables false
set_option linter.unusedSimpArgs false

theorem RowA.setCellU {w : World} {B : Nat} {t : Ac} {a : Addr} (h : RowA w B t) (hg : ∀ q, (Value.slice t.la t.ln t.lcap).ownBlock = some q → q ≠ a.block) (v : Value) : RowA (w.setCell a v) B t :=
  row_same h (fun q hq => Below.heap_setCell w a v q (hg q hq))
theorem DTb.setCellU {w : World} {B k : Nat} {v : Value} {g : Nat → Ef} {a : Addr} (h : DTb w B v k g) (hg : ∀ q, v.ownBlock = some q → q ≠ a.block) (hr : ∀ i, i < k → ∀ q, (Value.slice (g i).ac.la (g i).ac.ln (g i).ac.lcap).ownBlock = some q → q ≠ a.block) (u : Value) : DTb (w.setCell a u) B v k g :=
  ⟨row_same h.1 (fun q hq => Below.heap_setCell w a u q (hg q hq)), h.2.1, fun i hi => ⟨(h.2.2 i hi).1, row_same (h.2.2 i hi).2 (fun q hq => Below.heap_setCell w a u q (hr i hi q hq))⟩⟩
theorem BoxR.rangeU {w : World} {g t : Nat} {cs : Array Value} (h : BoxR w g t cs) : w.rangeAt g 0 cs.toList := fun j v hv => by
  have hc := cell_of_row w g (0 + j) cs t (0, 0) h
  rw [hc]
  simpa using hv
set_option maxHeartbeats 8000000 in
theorem drawExpire_any (a : Option Addr) (len cap : Nat) (w : World) (hc : Code w a len w.heap.size) :
    Calls Tryz.prog 27 #[.slice a len cap] w fun e w' => ∃ (t : Tb) (x : Int), t.okW w' ∧ t.n ≤ 7 ∧ (∀ i, i < t.n → (t.f i).ac.ln ≤ 5) ∧ e = .returned (.tuple #[.slice t.p t.n t.cap, .int .i64 x]) ∧ Below w.heap.size w w' := by
  go_enter Tryz.func27, Tryz.ntmps27
  go_wp2_with fail
  refine (l1New_any a len cap _ hc).mono ?_
  rintro e w1 ⟨h, rfl, hw⟩
  have hb : Below w.heap.size w w1 := by rw [hw]; exact (Below.refl _ w).alloc (Nat.le_refl _) _
  have hk : Cur w1 w.heap.size a len cap := by rw [hw]; exact Cur.made w a len cap h _
  have hBp : w.heap.size ≤ w.heap.size := Nat.le_refl _
  have hpz : w.heap.size < w1.heap.size := hk.1
  clear hw
  go_wp2_with fail
  refine (l5Draw_any w.heap.size a len cap _ (hc.below hb) hBp hk).mono ?_
  rintro e w2 ⟨s, hs, rfl, ho, hk2, hrw⟩
  have hcl : 0 ≤ s.cl ∧ s.cl ≤ 10000 := by have := hs.cl; omega
  replace hs := hs.an
  have hb2 := hb.trans (ho.below hBp hb.size)
  have hpw : w.heap.size < w2.heap.size := hk2.1
  clear hb ho hk
  have zx := boxR_new w2 37 #[.slice none 0 0, .slice none 0 0, .int .i64 0, .int .i64 0]
  have hbV := below_setRow ((Below.refl _ w2).alloc (Nat.le_refl _) (.cells #[.slice none 0 0, .slice none 0 0, .int .i64 0, .int .i64 0] 37)) (Nat.le_refl _) #[.slice s.pa s.pn s.pcap, .slice s.sa s.sn s.scap, .int .i64 s.ac, .int .i64 s.cl]
  have xs : BoxR ((w2.alloc (.cells #[.slice none 0 0, .slice none 0 0, .int .i64 0, .int .i64 0] 37)).setRow w2.heap.size #[.slice s.pa s.pn s.pcap, .slice s.sa s.sn s.scap, .int .i64 s.ac, .int .i64 s.cl]) w2.heap.size 37 #[.slice s.pa s.pn s.pcap, .slice s.sa s.sn s.scap, .int .i64 s.ac, .int .i64 s.cl] := setRow_heap _ _ _ _ _ _ zx
  generalize hV : ((w2.alloc (.cells #[.slice none 0 0, .slice none 0 0, .int .i64 0, .int .i64 0] 37)).setRow w2.heap.size #[.slice s.pa s.pn s.pcap, .slice s.sa s.sn s.scap, .int .i64 s.ac, .int .i64 s.cl]) = V at hbV xs
  have hb3 := below_app hb2 hbV hb2.size
  have hk3 : Cur V w.heap.size a len cap := hk2.same (hbV.block _ hk2.1) hbV.size
  have hrw3 := hrw.grew hbV
  clear hb2 hbV hk2 hrw
  go_upto_region 3 with (refine wpList_store_row rfl 37 (.tmp 5) _ rfl (w2.heap.size) #[.slice s.pa s.pn s.pcap, .slice s.sa s.sn s.scap, .int .i64 s.ac, .int .i64 s.cl] (by rfl) (by rfl) _ _ zx (by kernel_rfl) (by rfl) (by simp [Value.oneCell']) ?_; rw [hV])
  clear zx hV
  generalize w2.heap.size = gs at xs hpw ⊢
  have r0 := xs.cell 0
  have r1 := xs.cell 1
  have r2 := xs.cell 2
  have r3 := xs.cell 3
  simp at r0 r1 r2 r3
  go_wp2_with fail
  refine (l11Any_any w.heap.size a len cap s _ (hc.below hb3) hBp hk3 hs hcl hrw3 hpz).mono ?_
  rintro e w4 ⟨v, k, g, rfl, hk7, ho, hk4, D⟩
  clear r0 r1 r2 r3
  have hpV : w.heap.size < V.heap.size := hk3.1
  have hb4 := hb3.trans (ho.below hBp hb3.size)
  have xs4 := xs.onlyR ho (by omega)
  have hrw4 := hrw3.only ho hpz
  clear hb3 ho hk3 xs hrw3
  have r0 := xs4.cell 0
  have r1 := xs4.cell 1
  have r2 := xs4.cell 2
  have r3 := xs4.cell 3
  simp at r0 r1 r2 r3
  go_upto_region 4 with fail
  clear r0 r1 r2 r3 hrw4
  have hq : w4.drew.cell? ⟨gs, 3, none⟩ = some (.int .i64 s.cl) := by have := xs4.cell 3; simpa using this
  refine wp_region_held_drew (S := fun u : World => u.cell? ⟨gs, 3, none⟩ = some (.int .i64 s.cl)) (by kernel_rfl) hq (fun hHeld => ?_)
  have hbd : Below w4.heap.size w4 w4.drew := (Below.refl _ w4).drew
  replace D := D.grew hbd
  have hk5 : Cur w4.drew w.heap.size a len cap := hk4.same (hbd.block _ hk4.1) hbd.size
  have hb5 := below_app hb4 hbd hb4.size
  replace xs4 := xs4.grew hbd
  generalize w4.drew = U at D hk5 hb5 xs4 hHeld ⊢
  clear hbd hk4 hb4 hq
  refine wpAnyH_take (i := 0) (oi := ⟨some 14, _, _, _, _, _⟩) (v := v) rfl (by kernel_rfl) (by kernel_rfl) (by kernel_rfl) (fun _ _ _ h => h) (Or.inl ⟨by kernel_rfl, fun u hSu => by clear hSu; go_simp⟩) hHeld ?_
  try simp only [Act.put, List.setIfInBounds_toArray, List.set_cons_zero, List.set_cons_succ]
  refine wpAnyH_take (i := 1) (oi := ⟨some 15, _, _, _, _, _⟩) (v := .pointer (some ⟨gs, 3, none⟩)) rfl (by kernel_rfl) (by kernel_rfl) (by kernel_rfl) (fun _ _ _ h => h) (Or.inl ⟨by kernel_rfl, fun u hSu => by clear hSu; go_simp⟩) hHeld ?_
  try simp only [Act.put, List.setIfInBounds_toArray, List.set_cons_zero, List.set_cons_succ]
  refine wpAnyH_take (i := 2) (oi := ⟨some 16, _, _, _, _, _⟩) (v := .int .i64 s.cl) rfl (by kernel_rfl) (by kernel_rfl) (by kernel_rfl) (fun _ _ _ h => h) (Or.inl ⟨by kernel_rfl, fun u hSu => by have hcu := hSu; clear hSu; go_simp⟩) hHeld ?_
  try simp only [Act.put, List.setIfInBounds_toArray, List.set_cons_zero, List.set_cons_succ]
  refine wpAnyH_take (i := 3) (oi := ⟨some 17, _, _, _, _, _⟩) (v := .pointer (some ⟨w.heap.size, 0, none⟩)) rfl (by kernel_rfl) (by kernel_rfl) (by kernel_rfl) (fun _ _ _ h => h) (Or.inl ⟨by kernel_rfl, fun u hSu => by clear hSu; go_simp⟩) hHeld ?_
  try simp only [Act.put, List.setIfInBounds_toArray, List.set_cons_zero, List.set_cons_succ]
  refine wpAnyH_ready (rs := [4]) (by kernel_rfl) (by simp) ?_
  refine AllReadyH.cons rfl (fun K' hK => ?_) AllReadyH.nil
  go_simp
  go_at_call 52
  refine (l1Below_any w.heap.size a len cap 3 _ (hc.below hb5) (Nat.le_refl _) hk5).mono ?_
  rintro e w6 ⟨x, x0, x1, rfl, ho, hk6⟩
  have x2 := x1 (by omega)
  have hb6 := hb5.trans (ho.below (Nat.le_refl _) hb5.size)
  replace D := D.only ho hpV
  replace xs4 := xs4.onlyR ho (by omega)
  have hq : w6.cell? ⟨gs, 3, none⟩ = some (.int .i64 s.cl) := by have := xs4.cell 3; simpa using this
  clear hb5 ho hk5 hk6 x1
  refine hK.out _ _ hq (fun hHeld => ?_)
  clear hK
  try simp only [Act.put, List.setIfInBounds_toArray, List.set_cons_zero, List.set_cons_succ]
  refine wpAnyH_take (i := 5) (oi := ⟨some 19, _, _, _, _, _⟩) (v := .int .i64 (s.cl + x)) rfl (by kernel_rfl) (by kernel_rfl) (by kernel_rfl) (fun _ _ _ h => h) (Or.inl ⟨by kernel_rfl, fun u hSu => by clear hSu; go_simp; first | done | go_num | (rw [IntKind.wrap_i64]; omega) | (congr 1; rw [IntKind.wrap_i64]; omega)⟩) hHeld ?_
  try simp only [Act.put, List.setIfInBounds_toArray, List.set_cons_zero, List.set_cons_succ]
  refine wpAnyH_take (i := 6) (oi := ⟨some 20, _, _, _, _, _⟩) (v := .int .i64 (s.cl + x - 1)) rfl (by kernel_rfl) (by kernel_rfl) (by kernel_rfl) (fun _ _ _ h => h) (Or.inl ⟨by kernel_rfl, fun u hSu => by clear hSu; go_simp; first | done | go_num | (rw [IntKind.wrap_i64]; omega) | (congr 1; rw [IntKind.wrap_i64]; omega)⟩) hHeld ?_
  try simp only [Act.put, List.setIfInBounds_toArray, List.set_cons_zero, List.set_cons_succ]
  refine wpAnyH_take (i := 7) (oi := ⟨some 2, _, _, _, _, _⟩) (v := v) rfl (by kernel_rfl) (by kernel_rfl) (by kernel_rfl) (fun _ _ _ h => h) (Or.inl ⟨by kernel_rfl, fun u hSu => by clear hSu; go_simp⟩) hHeld ?_
  try simp only [Act.put, List.setIfInBounds_toArray, List.set_cons_zero, List.set_cons_succ]
  refine wpAnyH_take (i := 8) (oi := ⟨some 3, _, _, _, _, _⟩) (v := .int .i64 (s.cl + x - 1)) rfl (by kernel_rfl) (by kernel_rfl) (by kernel_rfl) (fun _ _ _ h => h) (Or.inl ⟨by kernel_rfl, fun u hSu => by clear hSu; go_simp⟩) hHeld ?_
  try simp only [Act.put, List.setIfInBounds_toArray, List.set_cons_zero, List.set_cons_succ]
  refine wpAnyH_done (by kernel_rfl) ?_ _
  clear hHeld hq xs4
  obtain ⟨t, rfl, rfl, tw, tl⟩ := D.tb
  clear D
  go_wp2
  go_ret2
  exact ⟨t, s.cl + x - 1, tw, by omega, tl, rfl, hb6⟩
set_option maxHeartbeats 8000000 in
theorem drawUpdate_any (a : Option Addr) (len cap : Nat) (w : World) (hc : Code w a len w.heap.size) :
    Calls Tryz.prog 29 #[.slice a len cap] w fun e w' => ∃ (t : Tb) (x : Ef), t.okW w' ∧ t.n ≤ 7 ∧ (∀ i, i < t.n → (t.f i).ac.ln ≤ 5) ∧ x.okW w' ∧ x.ac.ln ≤ 5 ∧ e = .returned (.tuple #[.slice t.p t.n t.cap, (.agg #[.int .i64 x.id, .int .i64 x.si, .int .i64 x.sr, .int .i64 x.cl, .int .i64 x.pt.kd, .int .i64 x.pt.wh, .int .i64 x.pt.sr, .int .i64 x.pt.tr, .int .i64 x.pt.pi, .int .i64 x.pt.le, .int .i64 x.pt.zo, .int .i64 x.gd.kd, .int .i64 x.gd.nn, .int .i64 x.ac.kd, .int .i64 x.ac.nn, .int .i64 x.ac.pi, .int .i64 x.ac.si, .int .i64 x.ac.zo, .bool x.ac.be, .slice x.ac.la x.ac.ln x.ac.lcap, .int .i64 x.un, .int .i64 x.le])]) ∧ Below w.heap.size w w' := by
  have hb0 := (Below.refl _ w).alloc (Nat.le_refl _) (.cells #[.int .i64 0, .int .i64 0, .int .i64 0, .int .i64 0, .int .i64 0, .int .i64 0, .int .i64 0, .int .i64 0, .int .i64 0, .int .i64 0, .int .i64 0, .int .i64 0, .int .i64 0, .int .i64 0, .int .i64 0, .int .i64 0, .int .i64 0, .int .i64 0, .bool false, .slice none 0 0, .int .i64 0, .int .i64 0] 32)
  have xr := boxR_new w 32 #[.int .i64 0, .int .i64 0, .int .i64 0, .int .i64 0, .int .i64 0, .int .i64 0, .int .i64 0, .int .i64 0, .int .i64 0, .int .i64 0, .int .i64 0, .int .i64 0, .int .i64 0, .int .i64 0, .int .i64 0, .int .i64 0, .int .i64 0, .int .i64 0, .bool false, .slice none 0 0, .int .i64 0, .int .i64 0]
  generalize hW : w.alloc (.cells #[.int .i64 0, .int .i64 0, .int .i64 0, .int .i64 0, .int .i64 0, .int .i64 0, .int .i64 0, .int .i64 0, .int .i64 0, .int .i64 0, .int .i64 0, .int .i64 0, .int .i64 0, .int .i64 0, .int .i64 0, .int .i64 0, .int .i64 0, .int .i64 0, .bool false, .slice none 0 0, .int .i64 0, .int .i64 0] 32) = W at hb0 xr
  have hrz : w.heap.size < W.heap.size := xr.lt
  go_enter Tryz.func29, Tryz.ntmps29
  go_wp2_with fail
  clear hW
  refine (l1New_any a len cap _ (hc.below hb0)).mono ?_
  rintro e w1 ⟨h, rfl, hw⟩
  have hb : Below w.heap.size w w1 := by rw [hw]; exact hb0.alloc hb0.size _
  have hk : Cur w1 W.heap.size a len cap := by rw [hw]; exact Cur.made W a len cap h _
  have xr1 : BoxR w1 w.heap.size 32 #[.int .i64 0, .int .i64 0, .int .i64 0, .int .i64 0, .int .i64 0, .int .i64 0, .int .i64 0, .int .i64 0, .int .i64 0, .int .i64 0, .int .i64 0, .int .i64 0, .int .i64 0, .int .i64 0, .int .i64 0, .int .i64 0, .int .i64 0, .int .i64 0, .bool false, .slice none 0 0, .int .i64 0, .int .i64 0] := by rw [hw]; exact xr.alloc _
  have hBp : w.heap.size ≤ W.heap.size := by omega
  have hpz : W.heap.size < w1.heap.size := hk.1
  clear hw xr hb0
  go_wp2_with fail
  refine (l5Draw_any W.heap.size a len cap _ (hc.below hb) hBp hk).mono ?_
  rintro e w2 ⟨s, hs, rfl, ho, hk2, hrw⟩
  have hcl : 0 ≤ s.cl ∧ s.cl ≤ 10000 := by have := hs.cl; omega
  replace hs := hs.an
  have hb2 := hb.trans (ho.below hBp hb.size)
  have xr2 := xr1.onlyR ho (by omega)
  have hpw : W.heap.size < w2.heap.size := hk2.1
  clear hb ho hk xr1
  have zx := boxR_new w2 37 #[.slice none 0 0, .slice none 0 0, .int .i64 0, .int .i64 0]
  have hbV := below_setRow ((Below.refl _ w2).alloc (Nat.le_refl _) (.cells #[.slice none 0 0, .slice none 0 0, .int .i64 0, .int .i64 0] 37)) (Nat.le_refl _) #[.slice s.pa s.pn s.pcap, .slice s.sa s.sn s.scap, .int .i64 s.ac, .int .i64 s.cl]
  have xs : BoxR ((w2.alloc (.cells #[.slice none 0 0, .slice none 0 0, .int .i64 0, .int .i64 0] 37)).setRow w2.heap.size #[.slice s.pa s.pn s.pcap, .slice s.sa s.sn s.scap, .int .i64 s.ac, .int .i64 s.cl]) w2.heap.size 37 #[.slice s.pa s.pn s.pcap, .slice s.sa s.sn s.scap, .int .i64 s.ac, .int .i64 s.cl] := setRow_heap _ _ _ _ _ _ zx
  generalize hV : ((w2.alloc (.cells #[.slice none 0 0, .slice none 0 0, .int .i64 0, .int .i64 0] 37)).setRow w2.heap.size #[.slice s.pa s.pn s.pcap, .slice s.sa s.sn s.scap, .int .i64 s.ac, .int .i64 s.cl]) = V at hbV xs
  have hb3 := below_app hb2 hbV hb2.size
  have xr3 := xr2.grew hbV
  have hk3 : Cur V W.heap.size a len cap := hk2.same (hbV.block _ hk2.1) hbV.size
  have hrw3 := hrw.grew hbV
  clear hb2 hbV xr2 hk2 hrw
  go_upto_region 3 with (refine wpList_store_row rfl 37 (.tmp 5) _ rfl (w2.heap.size) #[.slice s.pa s.pn s.pcap, .slice s.sa s.sn s.scap, .int .i64 s.ac, .int .i64 s.cl] (by rfl) (by rfl) _ _ zx (by kernel_rfl) (by rfl) (by simp [Value.oneCell']) ?_; rw [hV])
  clear zx hV
  generalize w2.heap.size = gs at xs hpw ⊢
  have r0 := xs.cell 0
  have r1 := xs.cell 1
  have r2 := xs.cell 2
  have r3 := xs.cell 3
  simp at r0 r1 r2 r3
  go_wp2_with fail
  refine (l11Any_any W.heap.size a len cap s _ (hc.below hb3) hBp hk3 hs hcl hrw3 hpz).mono ?_
  rintro e w4 ⟨v, k, g, rfl, hk7, ho, hk4, D⟩
  clear r0 r1 r2 r3
  have hVl : w.heap.size < V.heap.size := by have := xr3.lt; omega
  have hpV : W.heap.size < V.heap.size := hk3.1
  have hb4 := hb3.trans (ho.below hBp hb3.size)
  have xr4 := xr3.onlyR ho (by omega)
  have xs4 := xs.onlyR ho (by omega)
  have hrw4 := hrw3.only ho hpz
  clear hb3 ho hk3 xr3 xs hrw3
  have r0 := xs4.cell 0
  have r1 := xs4.cell 1
  have r2 := xs4.cell 2
  have r3 := xs4.cell 3
  simp at r0 r1 r2 r3
  go_wp2_with fail
  refine (l10Any_any W.heap.size a len cap s _ (hc.below hb4) hBp hk4 hs hcl hrw4 hpz).mono ?_
  rintro e w5 ⟨x, xw, rfl, ho, hk5, ra⟩
  clear r0 r1 r2 r3
  have hp4 : W.heap.size < w4.heap.size := hk4.1
  have hb5 := hb4.trans (ho.below hBp hb4.size)
  have xr5 := xr4.onlyR ho (by omega)
  replace D := D.only ho hpV
  clear hb4 ho hk4 xr4 xs4 hrw4
  obtain ⟨t, rfl, rfl, tw, tl⟩ := D.tb
  have zx := boxR_new w5 32 #[.int .i64 0, .int .i64 0, .int .i64 0, .int .i64 0, .int .i64 0, .int .i64 0, .int .i64 0, .int .i64 0, .int .i64 0, .int .i64 0, .int .i64 0, .int .i64 0, .int .i64 0, .int .i64 0, .int .i64 0, .int .i64 0, .int .i64 0, .int .i64 0, .bool false, .slice none 0 0, .int .i64 0, .int .i64 0]
  have hbV := below_setRow ((Below.refl _ w5).alloc (Nat.le_refl _) (.cells #[.int .i64 0, .int .i64 0, .int .i64 0, .int .i64 0, .int .i64 0, .int .i64 0, .int .i64 0, .int .i64 0, .int .i64 0, .int .i64 0, .int .i64 0, .int .i64 0, .int .i64 0, .int .i64 0, .int .i64 0, .int .i64 0, .int .i64 0, .int .i64 0, .bool false, .slice none 0 0, .int .i64 0, .int .i64 0] 32)) (Nat.le_refl _) #[.int .i64 x.id, .int .i64 x.si, .int .i64 x.sr, .int .i64 x.cl, .int .i64 x.pt.kd, .int .i64 x.pt.wh, .int .i64 x.pt.sr, .int .i64 x.pt.tr, .int .i64 x.pt.pi, .int .i64 x.pt.le, .int .i64 x.pt.zo, .int .i64 x.gd.kd, .int .i64 x.gd.nn, .int .i64 x.ac.kd, .int .i64 x.ac.nn, .int .i64 x.ac.pi, .int .i64 x.ac.si, .int .i64 x.ac.zo, .bool x.ac.be, .slice x.ac.la x.ac.ln x.ac.lcap, .int .i64 x.un, .int .i64 x.le]
  have xe : BoxR ((w5.alloc (.cells #[.int .i64 0, .int .i64 0, .int .i64 0, .int .i64 0, .int .i64 0, .int .i64 0, .int .i64 0, .int .i64 0, .int .i64 0, .int .i64 0, .int .i64 0, .int .i64 0, .int .i64 0, .int .i64 0, .int .i64 0, .int .i64 0, .int .i64 0, .int .i64 0, .bool false, .slice none 0 0, .int .i64 0, .int .i64 0] 32)).setRow w5.heap.size #[.int .i64 x.id, .int .i64 x.si, .int .i64 x.sr, .int .i64 x.cl, .int .i64 x.pt.kd, .int .i64 x.pt.wh, .int .i64 x.pt.sr, .int .i64 x.pt.tr, .int .i64 x.pt.pi, .int .i64 x.pt.le, .int .i64 x.pt.zo, .int .i64 x.gd.kd, .int .i64 x.gd.nn, .int .i64 x.ac.kd, .int .i64 x.ac.nn, .int .i64 x.ac.pi, .int .i64 x.ac.si, .int .i64 x.ac.zo, .bool x.ac.be, .slice x.ac.la x.ac.ln x.ac.lcap, .int .i64 x.un, .int .i64 x.le]) w5.heap.size 32 #[.int .i64 x.id, .int .i64 x.si, .int .i64 x.sr, .int .i64 x.cl, .int .i64 x.pt.kd, .int .i64 x.pt.wh, .int .i64 x.pt.sr, .int .i64 x.pt.tr, .int .i64 x.pt.pi, .int .i64 x.pt.le, .int .i64 x.pt.zo, .int .i64 x.gd.kd, .int .i64 x.gd.nn, .int .i64 x.ac.kd, .int .i64 x.ac.nn, .int .i64 x.ac.pi, .int .i64 x.ac.si, .int .i64 x.ac.zo, .bool x.ac.be, .slice x.ac.la x.ac.ln x.ac.lcap, .int .i64 x.un, .int .i64 x.le] := setRow_heap _ _ _ _ _ _ zx
  have hp5 : W.heap.size < w5.heap.size := hk5.1
  have hDl : ∀ q, (Value.slice t.p t.n t.cap).ownBlock = some q → q < w5.heap.size := fun q hq => (D.1.lt q hq).2
  go_upto_region 5 with (refine wpList_store_row rfl 32 (.tmp 7) _ rfl (w5.heap.size) #[.int .i64 x.id, .int .i64 x.si, .int .i64 x.sr, .int .i64 x.cl, .int .i64 x.pt.kd, .int .i64 x.pt.wh, .int .i64 x.pt.sr, .int .i64 x.pt.tr, .int .i64 x.pt.pi, .int .i64 x.pt.le, .int .i64 x.pt.zo, .int .i64 x.gd.kd, .int .i64 x.gd.nn, .int .i64 x.ac.kd, .int .i64 x.ac.nn, .int .i64 x.ac.pi, .int .i64 x.ac.si, .int .i64 x.ac.zo, .bool x.ac.be, .slice x.ac.la x.ac.ln x.ac.lcap, .int .i64 x.un, .int .i64 x.le] (by rfl) (by rfl) _ _ zx (by kernel_rfl) (by rfl) (by simp [Value.oneCell']) ?_)
  generalize hU : (w5.alloc (.cells #[.int .i64 0, .int .i64 0, .int .i64 0, .int .i64 0, .int .i64 0, .int .i64 0, .int .i64 0, .int .i64 0, .int .i64 0, .int .i64 0, .int .i64 0, .int .i64 0, .int .i64 0, .int .i64 0, .int .i64 0, .int .i64 0, .int .i64 0, .int .i64 0, .bool false, .slice none 0 0, .int .i64 0, .int .i64 0] 32)).setRow w5.heap.size #[.int .i64 x.id, .int .i64 x.si, .int .i64 x.sr, .int .i64 x.cl, .int .i64 x.pt.kd, .int .i64 x.pt.wh, .int .i64 x.pt.sr, .int .i64 x.pt.tr, .int .i64 x.pt.pi, .int .i64 x.pt.le, .int .i64 x.pt.zo, .int .i64 x.gd.kd, .int .i64 x.gd.nn, .int .i64 x.ac.kd, .int .i64 x.ac.nn, .int .i64 x.ac.pi, .int .i64 x.ac.si, .int .i64 x.ac.zo, .bool x.ac.be, .slice x.ac.la x.ac.ln x.ac.lcap, .int .i64 x.un, .int .i64 x.le] = U at hbV xe ⊢
  replace D := D.grew hbV
  replace ra := RowA.grew ra hbV
  replace tw := tw.grew hbV
  replace xr5 := xr5.grew hbV
  have hk6 : Cur U W.heap.size a len cap := hk5.same (hbV.block _ hk5.1) hbV.size
  replace hb5 := below_app hb5 hbV hb5.size
  have hgx : w.heap.size < w5.heap.size := by omega
  generalize w5.heap.size = gx at xe hp5 hgx hDl ⊢
  clear zx hbV hU hk5
  by_cases hn0 : t.n = 0
  case pos =>
    have y0 : ¬ (0 : Int) < (t.n : Int) := by omega
    replace hn0 : Hid (t.n = 0) := hn0
    go_upto_region 7 with fail
    have hb6 := below_app hb5 (Below.refl _ U).drew hb5.size
    replace D := D.grew (Below.refl _ U).drew
    replace ra := RowA.grew ra (Below.refl _ U).drew
    replace xr5 := xr5.grew (Below.refl _ U).drew
    replace xe := xe.grew (Below.refl _ U).drew
    refine wp_region_held_drew (S := fun u : World => BoxR u gx 32 #[.int .i64 x.id, .int .i64 x.si, .int .i64 x.sr, .int .i64 x.cl, .int .i64 x.pt.kd, .int .i64 x.pt.wh, .int .i64 x.pt.sr, .int .i64 x.pt.tr, .int .i64 x.pt.pi, .int .i64 x.pt.le, .int .i64 x.pt.zo, .int .i64 x.gd.kd, .int .i64 x.gd.nn, .int .i64 x.ac.kd, .int .i64 x.ac.nn, .int .i64 x.ac.pi, .int .i64 x.ac.si, .int .i64 x.ac.zo, .bool x.ac.be, .slice x.ac.la x.ac.ln x.ac.lcap, .int .i64 x.un, .int .i64 x.le]) (by kernel_rfl) xe (fun hHeld => ?_)
    clear hb5
    generalize U.drew = Y at hb6 D ra xr5 xe hHeld ⊢
    refine wpAnyH_take (i := 0) (oi := ⟨some 34, _, _, _, _, _⟩) (v := .slice t.p t.n t.cap) rfl (by kernel_rfl) (by kernel_rfl) (by kernel_rfl) (fun _ _ _ h => h) (Or.inl ⟨by kernel_rfl, fun u hSu => by clear hSu; go_simp⟩) hHeld ?_
    try simp only [Act.put, List.setIfInBounds_toArray, List.set_cons_zero, List.set_cons_succ]
    refine wpAnyH_take (i := 1) (oi := ⟨some 35, _, _, _, _, _⟩) (v := (.agg #[.int .i64 x.id, .int .i64 x.si, .int .i64 x.sr, .int .i64 x.cl, .int .i64 x.pt.kd, .int .i64 x.pt.wh, .int .i64 x.pt.sr, .int .i64 x.pt.tr, .int .i64 x.pt.pi, .int .i64 x.pt.le, .int .i64 x.pt.zo, .int .i64 x.gd.kd, .int .i64 x.gd.nn, .int .i64 x.ac.kd, .int .i64 x.ac.nn, .int .i64 x.ac.pi, .int .i64 x.ac.si, .int .i64 x.ac.zo, .bool x.ac.be, .slice x.ac.la x.ac.ln x.ac.lcap, .int .i64 x.un, .int .i64 x.le])) rfl (by kernel_rfl) (by kernel_rfl) (by kernel_rfl) (fun _ _ _ h => h) (yieldsIf_load_mid (by kernel_rfl) 32 (.tmp 7) rfl gx 0 (by rfl) (#[.int .i64 x.id, .int .i64 x.si, .int .i64 x.sr, .int .i64 x.cl, .int .i64 x.pt.kd, .int .i64 x.pt.wh, .int .i64 x.pt.sr, .int .i64 x.pt.tr, .int .i64 x.pt.pi, .int .i64 x.pt.le, .int .i64 x.pt.zo, .int .i64 x.gd.kd, .int .i64 x.gd.nn, .int .i64 x.ac.kd, .int .i64 x.ac.nn, .int .i64 x.ac.pi, .int .i64 x.ac.si, .int .i64 x.ac.zo, .bool x.ac.be, .slice x.ac.la x.ac.ln x.ac.lcap, .int .i64 x.un, .int .i64 x.le] : Array Value).toList _ (fun u hu => BoxR.rangeU hu) Tryz.underlying32 rfl (by kernel_rfl)) hHeld ?_
    try simp only [Act.put, List.setIfInBounds_toArray, List.set_cons_zero, List.set_cons_succ]
    refine wpAnyH_take (i := 2) (oi := ⟨some 2, _, _, _, _, _⟩) (v := .slice t.p t.n t.cap) rfl (by kernel_rfl) (by kernel_rfl) (by kernel_rfl) (fun _ _ _ h => h) (Or.inl ⟨by kernel_rfl, fun u hSu => by clear hSu; go_simp⟩) hHeld ?_
    try simp only [Act.put, List.setIfInBounds_toArray, List.set_cons_zero, List.set_cons_succ]
    have raZ : RowA (Y.setRow w.heap.size #[.int .i64 x.id, .int .i64 x.si, .int .i64 x.sr, .int .i64 x.cl, .int .i64 x.pt.kd, .int .i64 x.pt.wh, .int .i64 x.pt.sr, .int .i64 x.pt.tr, .int .i64 x.pt.pi, .int .i64 x.pt.le, .int .i64 x.pt.zo, .int .i64 x.gd.kd, .int .i64 x.gd.nn, .int .i64 x.ac.kd, .int .i64 x.ac.nn, .int .i64 x.ac.pi, .int .i64 x.ac.si, .int .i64 x.ac.zo, .bool x.ac.be, .slice x.ac.la x.ac.ln x.ac.lcap, .int .i64 x.un, .int .i64 x.le]) w4.heap.size x.ac := row_setRow' ra (own_ne ra xr5 (by decide)) _
    have DZ := D.setRow hVl (#[.int .i64 x.id, .int .i64 x.si, .int .i64 x.sr, .int .i64 x.cl, .int .i64 x.pt.kd, .int .i64 x.pt.wh, .int .i64 x.pt.sr, .int .i64 x.pt.tr, .int .i64 x.pt.pi, .int .i64 x.pt.le, .int .i64 x.pt.zo, .int .i64 x.gd.kd, .int .i64 x.gd.nn, .int .i64 x.ac.kd, .int .i64 x.ac.nn, .int .i64 x.ac.pi, .int .i64 x.ac.si, .int .i64 x.ac.zo, .bool x.ac.be, .slice x.ac.la x.ac.ln x.ac.lcap, .int .i64 x.un, .int .i64 x.le] : Array Value)
    have xr6 : BoxR (Y.setRow w.heap.size #[.int .i64 x.id, .int .i64 x.si, .int .i64 x.sr, .int .i64 x.cl, .int .i64 x.pt.kd, .int .i64 x.pt.wh, .int .i64 x.pt.sr, .int .i64 x.pt.tr, .int .i64 x.pt.pi, .int .i64 x.pt.le, .int .i64 x.pt.zo, .int .i64 x.gd.kd, .int .i64 x.gd.nn, .int .i64 x.ac.kd, .int .i64 x.ac.nn, .int .i64 x.ac.pi, .int .i64 x.ac.si, .int .i64 x.ac.zo, .bool x.ac.be, .slice x.ac.la x.ac.ln x.ac.lcap, .int .i64 x.un, .int .i64 x.le]) w.heap.size 32 #[.int .i64 x.id, .int .i64 x.si, .int .i64 x.sr, .int .i64 x.cl, .int .i64 x.pt.kd, .int .i64 x.pt.wh, .int .i64 x.pt.sr, .int .i64 x.pt.tr, .int .i64 x.pt.pi, .int .i64 x.pt.le, .int .i64 x.pt.zo, .int .i64 x.gd.kd, .int .i64 x.gd.nn, .int .i64 x.ac.kd, .int .i64 x.ac.nn, .int .i64 x.ac.pi, .int .i64 x.ac.si, .int .i64 x.ac.zo, .bool x.ac.be, .slice x.ac.la x.ac.ln x.ac.lcap, .int .i64 x.un, .int .i64 x.le] := setRow_heap _ _ _ _ _ _ xr5
    have hb7 := below_setRow hb6 (Nat.le_refl _) (#[.int .i64 x.id, .int .i64 x.si, .int .i64 x.sr, .int .i64 x.cl, .int .i64 x.pt.kd, .int .i64 x.pt.wh, .int .i64 x.pt.sr, .int .i64 x.pt.tr, .int .i64 x.pt.pi, .int .i64 x.pt.le, .int .i64 x.pt.zo, .int .i64 x.gd.kd, .int .i64 x.gd.nn, .int .i64 x.ac.kd, .int .i64 x.ac.nn, .int .i64 x.ac.pi, .int .i64 x.ac.si, .int .i64 x.ac.zo, .bool x.ac.be, .slice x.ac.la x.ac.ln x.ac.lcap, .int .i64 x.un, .int .i64 x.le] : Array Value)
    have yb7 : BoxR (Y.setRow w.heap.size #[.int .i64 x.id, .int .i64 x.si, .int .i64 x.sr, .int .i64 x.cl, .int .i64 x.pt.kd, .int .i64 x.pt.wh, .int .i64 x.pt.sr, .int .i64 x.pt.tr, .int .i64 x.pt.pi, .int .i64 x.pt.le, .int .i64 x.pt.zo, .int .i64 x.gd.kd, .int .i64 x.gd.nn, .int .i64 x.ac.kd, .int .i64 x.ac.nn, .int .i64 x.ac.pi, .int .i64 x.ac.si, .int .i64 x.ac.zo, .bool x.ac.be, .slice x.ac.la x.ac.ln x.ac.lcap, .int .i64 x.un, .int .i64 x.le]) gx 32 #[.int .i64 x.id, .int .i64 x.si, .int .i64 x.sr, .int .i64 x.cl, .int .i64 x.pt.kd, .int .i64 x.pt.wh, .int .i64 x.pt.sr, .int .i64 x.pt.tr, .int .i64 x.pt.pi, .int .i64 x.pt.le, .int .i64 x.pt.zo, .int .i64 x.gd.kd, .int .i64 x.gd.nn, .int .i64 x.ac.kd, .int .i64 x.ac.nn, .int .i64 x.ac.pi, .int .i64 x.ac.si, .int .i64 x.ac.zo, .bool x.ac.be, .slice x.ac.la x.ac.ln x.ac.lcap, .int .i64 x.un, .int .i64 x.le] := (heap_setRow_ne' _ _ _ _ (by omega)).trans xe
    refine wpAnyH_ready (rs := [3]) (by kernel_rfl) (by simp) ?_
    refine AllReadyH.cons (o := ⟨none, _, _, _, _, _⟩) rfl (fun K' hK => ?_) AllReadyH.nil
    rw [if_pos (by kernel_rfl)]
    refine wp_store_row 32 (.tmp 3) (.tmp 35) rfl w.heap.size #[.int .i64 x.id, .int .i64 x.si, .int .i64 x.sr, .int .i64 x.cl, .int .i64 x.pt.kd, .int .i64 x.pt.wh, .int .i64 x.pt.sr, .int .i64 x.pt.tr, .int .i64 x.pt.pi, .int .i64 x.pt.le, .int .i64 x.pt.zo, .int .i64 x.gd.kd, .int .i64 x.gd.nn, .int .i64 x.ac.kd, .int .i64 x.ac.nn, .int .i64 x.ac.pi, .int .i64 x.ac.si, .int .i64 x.ac.zo, .bool x.ac.be, .slice x.ac.la x.ac.ln x.ac.lcap, .int .i64 x.un, .int .i64 x.le] (by rfl) (by rfl) _ _ xr5 (by kernel_rfl) (by rfl) (by simp [Value.oneCell']) ?_
    refine hK.out _ _ yb7 (fun hHeld => ?_)
    clear hK hHeld
    try simp only [Act.put, List.setIfInBounds_toArray, List.set_cons_zero, List.set_cons_succ]
    refine wpAnyH_done (by kernel_rfl) ?_ _
    obtain ⟨lb, hok⟩ := RowA.okA raZ xw.2.1
    obtain ⟨t', hv', ht', tw', tl'⟩ := DZ.tb
    replace hv' : Hid (Value.slice t.p t.n t.cap = Value.slice t'.p t'.n t'.cap) := hv'
    clear D ra xr5 xe DZ raZ yb7 hb6 tw
    go_wp2
    (try simp only [Exit.inBlock, Exit.then]); refine bodyPost_ret (results_rowR rfl _ _ w.heap.size _ _ _ _ rfl xr6 Tryz.underlying32 rfl (by kernel_rfl)) rfl ?_
    first | refine ⟨t', tw', by omega, tl', ⟨x.id, x.si, x.sr, x.cl, x.pt, x.gd, { x.ac with lb := lb }, x.un, x.le⟩, ⟨hok, wf_i64 xw.1⟩, xw.2.2, ?_, hb7⟩ | refine ⟨t', ⟨x.id, x.si, x.sr, x.cl, x.pt, x.gd, { x.ac with lb := lb }, x.un, x.le⟩, tw', by omega, tl', ⟨hok, wf_i64 xw.1⟩, xw.2.2, ?_, hb7⟩
    rw [← hv'.out]
    rfl
  case neg =>
    have y0 : (0 : Int) < (t.n : Int) := by omega
    go_wp2_with fail
    refine (l1Once_any W.heap.size a len cap 2 _ (hc.below hb5) hBp hk6).mono ?_
    rintro e w6 ⟨bo, rfl, ho, hk7'⟩
    replace hb5 := hb5.trans (ho.below hBp hb5.size)
    have hpU : W.heap.size < U.heap.size := hk6.1
    replace D := D.only ho hpV
    replace ra := RowA.only ra ho hp4
    replace xr5 := xr5.onlyR ho (by omega)
    replace xe := xe.onlyR ho (by omega)
    clear ho hk6 tw
    cases bo
    case false =>
      have tw := trivial
      go_upto_region 7 with fail
      have hb6 := below_app hb5 (Below.refl _ w6).drew hb5.size
      replace D := D.grew (Below.refl _ w6).drew
      replace ra := RowA.grew ra (Below.refl _ w6).drew
      replace xr5 := xr5.grew (Below.refl _ w6).drew
      replace xe := xe.grew (Below.refl _ w6).drew
      refine wp_region_held_drew (S := fun u : World => BoxR u gx 32 #[.int .i64 x.id, .int .i64 x.si, .int .i64 x.sr, .int .i64 x.cl, .int .i64 x.pt.kd, .int .i64 x.pt.wh, .int .i64 x.pt.sr, .int .i64 x.pt.tr, .int .i64 x.pt.pi, .int .i64 x.pt.le, .int .i64 x.pt.zo, .int .i64 x.gd.kd, .int .i64 x.gd.nn, .int .i64 x.ac.kd, .int .i64 x.ac.nn, .int .i64 x.ac.pi, .int .i64 x.ac.si, .int .i64 x.ac.zo, .bool x.ac.be, .slice x.ac.la x.ac.ln x.ac.lcap, .int .i64 x.un, .int .i64 x.le]) (by kernel_rfl) xe (fun hHeld => ?_)
      clear hb5
      generalize w6.drew = Y at hb6 D ra xr5 xe hHeld ⊢
      refine wpAnyH_take (i := 0) (oi := ⟨some 34, _, _, _, _, _⟩) (v := .slice t.p t.n t.cap) rfl (by kernel_rfl) (by kernel_rfl) (by kernel_rfl) (fun _ _ _ h => h) (Or.inl ⟨by kernel_rfl, fun u hSu => by clear hSu; go_simp⟩) hHeld ?_
      try simp only [Act.put, List.setIfInBounds_toArray, List.set_cons_zero, List.set_cons_succ]
      refine wpAnyH_take (i := 1) (oi := ⟨some 35, _, _, _, _, _⟩) (v := (.agg #[.int .i64 x.id, .int .i64 x.si, .int .i64 x.sr, .int .i64 x.cl, .int .i64 x.pt.kd, .int .i64 x.pt.wh, .int .i64 x.pt.sr, .int .i64 x.pt.tr, .int .i64 x.pt.pi, .int .i64 x.pt.le, .int .i64 x.pt.zo, .int .i64 x.gd.kd, .int .i64 x.gd.nn, .int .i64 x.ac.kd, .int .i64 x.ac.nn, .int .i64 x.ac.pi, .int .i64 x.ac.si, .int .i64 x.ac.zo, .bool x.ac.be, .slice x.ac.la x.ac.ln x.ac.lcap, .int .i64 x.un, .int .i64 x.le])) rfl (by kernel_rfl) (by kernel_rfl) (by kernel_rfl) (fun _ _ _ h => h) (yieldsIf_load_mid (by kernel_rfl) 32 (.tmp 7) rfl gx 0 (by rfl) (#[.int .i64 x.id, .int .i64 x.si, .int .i64 x.sr, .int .i64 x.cl, .int .i64 x.pt.kd, .int .i64 x.pt.wh, .int .i64 x.pt.sr, .int .i64 x.pt.tr, .int .i64 x.pt.pi, .int .i64 x.pt.le, .int .i64 x.pt.zo, .int .i64 x.gd.kd, .int .i64 x.gd.nn, .int .i64 x.ac.kd, .int .i64 x.ac.nn, .int .i64 x.ac.pi, .int .i64 x.ac.si, .int .i64 x.ac.zo, .bool x.ac.be, .slice x.ac.la x.ac.ln x.ac.lcap, .int .i64 x.un, .int .i64 x.le] : Array Value).toList _ (fun u hu => BoxR.rangeU hu) Tryz.underlying32 rfl (by kernel_rfl)) hHeld ?_
      try simp only [Act.put, List.setIfInBounds_toArray, List.set_cons_zero, List.set_cons_succ]
      refine wpAnyH_take (i := 2) (oi := ⟨some 2, _, _, _, _, _⟩) (v := .slice t.p t.n t.cap) rfl (by kernel_rfl) (by kernel_rfl) (by kernel_rfl) (fun _ _ _ h => h) (Or.inl ⟨by kernel_rfl, fun u hSu => by clear hSu; go_simp⟩) hHeld ?_
      try simp only [Act.put, List.setIfInBounds_toArray, List.set_cons_zero, List.set_cons_succ]
      have raZ : RowA (Y.setRow w.heap.size #[.int .i64 x.id, .int .i64 x.si, .int .i64 x.sr, .int .i64 x.cl, .int .i64 x.pt.kd, .int .i64 x.pt.wh, .int .i64 x.pt.sr, .int .i64 x.pt.tr, .int .i64 x.pt.pi, .int .i64 x.pt.le, .int .i64 x.pt.zo, .int .i64 x.gd.kd, .int .i64 x.gd.nn, .int .i64 x.ac.kd, .int .i64 x.ac.nn, .int .i64 x.ac.pi, .int .i64 x.ac.si, .int .i64 x.ac.zo, .bool x.ac.be, .slice x.ac.la x.ac.ln x.ac.lcap, .int .i64 x.un, .int .i64 x.le]) w4.heap.size x.ac := row_setRow' ra (own_ne ra xr5 (by decide)) _
      have DZ := D.setRow hVl (#[.int .i64 x.id, .int .i64 x.si, .int .i64 x.sr, .int .i64 x.cl, .int .i64 x.pt.kd, .int .i64 x.pt.wh, .int .i64 x.pt.sr, .int .i64 x.pt.tr, .int .i64 x.pt.pi, .int .i64 x.pt.le, .int .i64 x.pt.zo, .int .i64 x.gd.kd, .int .i64 x.gd.nn, .int .i64 x.ac.kd, .int .i64 x.ac.nn, .int .i64 x.ac.pi, .int .i64 x.ac.si, .int .i64 x.ac.zo, .bool x.ac.be, .slice x.ac.la x.ac.ln x.ac.lcap, .int .i64 x.un, .int .i64 x.le] : Array Value)
      have xr6 : BoxR (Y.setRow w.heap.size #[.int .i64 x.id, .int .i64 x.si, .int .i64 x.sr, .int .i64 x.cl, .int .i64 x.pt.kd, .int .i64 x.pt.wh, .int .i64 x.pt.sr, .int .i64 x.pt.tr, .int .i64 x.pt.pi, .int .i64 x.pt.le, .int .i64 x.pt.zo, .int .i64 x.gd.kd, .int .i64 x.gd.nn, .int .i64 x.ac.kd, .int .i64 x.ac.nn, .int .i64 x.ac.pi, .int .i64 x.ac.si, .int .i64 x.ac.zo, .bool x.ac.be, .slice x.ac.la x.ac.ln x.ac.lcap, .int .i64 x.un, .int .i64 x.le]) w.heap.size 32 #[.int .i64 x.id, .int .i64 x.si, .int .i64 x.sr, .int .i64 x.cl, .int .i64 x.pt.kd, .int .i64 x.pt.wh, .int .i64 x.pt.sr, .int .i64 x.pt.tr, .int .i64 x.pt.pi, .int .i64 x.pt.le, .int .i64 x.pt.zo, .int .i64 x.gd.kd, .int .i64 x.gd.nn, .int .i64 x.ac.kd, .int .i64 x.ac.nn, .int .i64 x.ac.pi, .int .i64 x.ac.si, .int .i64 x.ac.zo, .bool x.ac.be, .slice x.ac.la x.ac.ln x.ac.lcap, .int .i64 x.un, .int .i64 x.le] := setRow_heap _ _ _ _ _ _ xr5
      have hb7 := below_setRow hb6 (Nat.le_refl _) (#[.int .i64 x.id, .int .i64 x.si, .int .i64 x.sr, .int .i64 x.cl, .int .i64 x.pt.kd, .int .i64 x.pt.wh, .int .i64 x.pt.sr, .int .i64 x.pt.tr, .int .i64 x.pt.pi, .int .i64 x.pt.le, .int .i64 x.pt.zo, .int .i64 x.gd.kd, .int .i64 x.gd.nn, .int .i64 x.ac.kd, .int .i64 x.ac.nn, .int .i64 x.ac.pi, .int .i64 x.ac.si, .int .i64 x.ac.zo, .bool x.ac.be, .slice x.ac.la x.ac.ln x.ac.lcap, .int .i64 x.un, .int .i64 x.le] : Array Value)
      have yb7 : BoxR (Y.setRow w.heap.size #[.int .i64 x.id, .int .i64 x.si, .int .i64 x.sr, .int .i64 x.cl, .int .i64 x.pt.kd, .int .i64 x.pt.wh, .int .i64 x.pt.sr, .int .i64 x.pt.tr, .int .i64 x.pt.pi, .int .i64 x.pt.le, .int .i64 x.pt.zo, .int .i64 x.gd.kd, .int .i64 x.gd.nn, .int .i64 x.ac.kd, .int .i64 x.ac.nn, .int .i64 x.ac.pi, .int .i64 x.ac.si, .int .i64 x.ac.zo, .bool x.ac.be, .slice x.ac.la x.ac.ln x.ac.lcap, .int .i64 x.un, .int .i64 x.le]) gx 32 #[.int .i64 x.id, .int .i64 x.si, .int .i64 x.sr, .int .i64 x.cl, .int .i64 x.pt.kd, .int .i64 x.pt.wh, .int .i64 x.pt.sr, .int .i64 x.pt.tr, .int .i64 x.pt.pi, .int .i64 x.pt.le, .int .i64 x.pt.zo, .int .i64 x.gd.kd, .int .i64 x.gd.nn, .int .i64 x.ac.kd, .int .i64 x.ac.nn, .int .i64 x.ac.pi, .int .i64 x.ac.si, .int .i64 x.ac.zo, .bool x.ac.be, .slice x.ac.la x.ac.ln x.ac.lcap, .int .i64 x.un, .int .i64 x.le] := (heap_setRow_ne' _ _ _ _ (by omega)).trans xe
      refine wpAnyH_ready (rs := [3]) (by kernel_rfl) (by simp) ?_
      refine AllReadyH.cons (o := ⟨none, _, _, _, _, _⟩) rfl (fun K' hK => ?_) AllReadyH.nil
      rw [if_pos (by kernel_rfl)]
      refine wp_store_row 32 (.tmp 3) (.tmp 35) rfl w.heap.size #[.int .i64 x.id, .int .i64 x.si, .int .i64 x.sr, .int .i64 x.cl, .int .i64 x.pt.kd, .int .i64 x.pt.wh, .int .i64 x.pt.sr, .int .i64 x.pt.tr, .int .i64 x.pt.pi, .int .i64 x.pt.le, .int .i64 x.pt.zo, .int .i64 x.gd.kd, .int .i64 x.gd.nn, .int .i64 x.ac.kd, .int .i64 x.ac.nn, .int .i64 x.ac.pi, .int .i64 x.ac.si, .int .i64 x.ac.zo, .bool x.ac.be, .slice x.ac.la x.ac.ln x.ac.lcap, .int .i64 x.un, .int .i64 x.le] (by rfl) (by rfl) _ _ xr5 (by kernel_rfl) (by rfl) (by simp [Value.oneCell']) ?_
      refine hK.out _ _ yb7 (fun hHeld => ?_)
      clear hK hHeld
      try simp only [Act.put, List.setIfInBounds_toArray, List.set_cons_zero, List.set_cons_succ]
      refine wpAnyH_done (by kernel_rfl) ?_ _
      obtain ⟨lb, hok⟩ := RowA.okA raZ xw.2.1
      obtain ⟨t', hv', ht', tw', tl'⟩ := DZ.tb
      replace hv' : Hid (Value.slice t.p t.n t.cap = Value.slice t'.p t'.n t'.cap) := hv'
      clear D ra xr5 xe DZ raZ yb7 hb6 tw
      go_wp2
      (try simp only [Exit.inBlock, Exit.then]); refine bodyPost_ret (results_rowR rfl _ _ w.heap.size _ _ _ _ rfl xr6 Tryz.underlying32 rfl (by kernel_rfl)) rfl ?_
      first | refine ⟨t', tw', by omega, tl', ⟨x.id, x.si, x.sr, x.cl, x.pt, x.gd, { x.ac with lb := lb }, x.un, x.le⟩, ⟨hok, wf_i64 xw.1⟩, xw.2.2, ?_, hb7⟩ | refine ⟨t', ⟨x.id, x.si, x.sr, x.cl, x.pt, x.gd, { x.ac with lb := lb }, x.un, x.le⟩, tw', by omega, tl', ⟨hok, wf_i64 xw.1⟩, xw.2.2, ?_, hb7⟩
      rw [← hv'.out]
      rfl
    case true =>
      go_wp2_with fail
      refine (l1Below_any W.heap.size a len cap t.n _ (hc.below hb5) hBp hk7').mono ?_
      rintro e w7 ⟨z, z0, z1, rfl, ho, hk8⟩
      have z2 := z1 (by omega)
      obtain ⟨i, rfl⟩ := Int.eq_ofNat_of_zero_le z0
      replace hb5 := hb5.trans (ho.below hBp hb5.size)
      replace D := D.only ho hpV
      replace ra := RowA.only ra ho hp4
      replace xr5 := xr5.onlyR ho (by omega)
      replace xe := xe.onlyR ho (by omega)
      clear ho hk7' hk8 z1
      obtain ⟨t2, hv2, ht2, tw2, tl2⟩ := D.tb
      simp only [Value.slice.injEq] at hv2
      obtain ⟨hv2, hv3, hv4⟩ := hv2
      have hi2 : i < t2.n := by omega
      obtain ⟨o1, hp2, h4⟩ : ∃ o1, t2.p = some ⟨t2.b, o1, none⟩ ∧ ∀ j, j < t2.n → ∀ l v, (efC (t2.f j))[l]? = some v → w7.cell? ⟨t2.b, o1 + j * 22 + l, none⟩ = some v := tw2.2.2.1.resolve_left (by omega)
      have ci : w7.cell? ⟨t2.b, o1 + i * 22, none⟩ = some (.int .i64 (t2.f i).id) := h4 i hi2 0 _ rfl
      have hp : t.p = some ⟨t2.b, o1, none⟩ := hv2.trans hp2
      generalize (t2.f i).id = nid at ci
      generalize t2.b = b2 at ci hp
      clear h4 hp2 tw2 tl2 hv2 hv3 hv4 ht2 hi2
      have c0 := xe.cell 0
      have f0 := xe.froz 0
      simp at c0
      have zb := hb5.setCell (p := ⟨gx, 0, none⟩) (show w.heap.size ≤ gx by omega) (.int .i64 nid)
      have xe2 := xe.put 0 (.int .i64 nid)
      simp only [List.setIfInBounds_toArray, List.set_cons_zero, List.set_cons_succ] at xe2
      go_upto_region 7 with fail
      generalize hU : w7.setCell ⟨gx, 0, none⟩ (.int .i64 nid) = V7 at zb xe2 ⊢
      have D2 : DTb V7 V.heap.size (.slice t.p t.n t.cap) t.n g := by rw [← hU]; exact DTb.setCellU D (fun q hq => by have := hDl q hq; dsimp only; omega) (fun i hi q hq e => own_ne (D.2.2 i hi).2 xe (by decide) (by rw [hq, e])) _
      have ra2 : RowA V7 w4.heap.size x.ac := by rw [← hU]; exact RowA.setCellU ra (fun q hq e => own_ne ra xe (by decide) (by rw [hq, e])) _
      have xr7 : BoxR V7 w.heap.size 32 #[.int .i64 0, .int .i64 0, .int .i64 0, .int .i64 0, .int .i64 0, .int .i64 0, .int .i64 0, .int .i64 0, .int .i64 0, .int .i64 0, .int .i64 0, .int .i64 0, .int .i64 0, .int .i64 0, .int .i64 0, .int .i64 0, .int .i64 0, .int .i64 0, .bool false, .slice none 0 0, .int .i64 0, .int .i64 0] := by rw [← hU]; exact xr5.other (q := ⟨gx, 0, none⟩) (by simp; omega) _
      clear D ra xr5 xe c0 f0 hU ci hb5
      have D := D2
      have ra := ra2
      have xr5 := xr7
      have hb5 := zb
      clear D2 ra2 xr7 zb
      obtain ⟨y, hy⟩ : ∃ y : Ef, Hid (y = { x with id := nid }) := ⟨_, (rfl : ({ x with id := nid } : Ef) = _)⟩
      have ye : BoxR V7 gx 32 #[.int .i64 y.id, .int .i64 y.si, .int .i64 y.sr, .int .i64 y.cl, .int .i64 y.pt.kd, .int .i64 y.pt.wh, .int .i64 y.pt.sr, .int .i64 y.pt.tr, .int .i64 y.pt.pi, .int .i64 y.pt.le, .int .i64 y.pt.zo, .int .i64 y.gd.kd, .int .i64 y.gd.nn, .int .i64 y.ac.kd, .int .i64 y.ac.nn, .int .i64 y.ac.pi, .int .i64 y.ac.si, .int .i64 y.ac.zo, .bool y.ac.be, .slice y.ac.la y.ac.ln y.ac.lcap, .int .i64 y.un, .int .i64 y.le] := by rw [hy.out]; exact xe2
      replace ra : RowA V7 w4.heap.size y.ac := by rw [hy.out]; exact ra
      have yw : EW y := by rw [hy.out]; exact xw
      clear xe2 hy xw
      have tw := trivial
      go_upto_region 7 with fail
      have hb6 := below_app hb5 (Below.refl _ V7).drew hb5.size
      replace D := D.grew (Below.refl _ V7).drew
      replace ra := RowA.grew ra (Below.refl _ V7).drew
      replace xr5 := xr5.grew (Below.refl _ V7).drew
      replace ye := ye.grew (Below.refl _ V7).drew
      refine wp_region_held_drew (S := fun u : World => BoxR u gx 32 #[.int .i64 y.id, .int .i64 y.si, .int .i64 y.sr, .int .i64 y.cl, .int .i64 y.pt.kd, .int .i64 y.pt.wh, .int .i64 y.pt.sr, .int .i64 y.pt.tr, .int .i64 y.pt.pi, .int .i64 y.pt.le, .int .i64 y.pt.zo, .int .i64 y.gd.kd, .int .i64 y.gd.nn, .int .i64 y.ac.kd, .int .i64 y.ac.nn, .int .i64 y.ac.pi, .int .i64 y.ac.si, .int .i64 y.ac.zo, .bool y.ac.be, .slice y.ac.la y.ac.ln y.ac.lcap, .int .i64 y.un, .int .i64 y.le]) (by kernel_rfl) ye (fun hHeld => ?_)
      clear hb5
      generalize V7.drew = Y at hb6 D ra xr5 ye hHeld ⊢
      refine wpAnyH_take (i := 0) (oi := ⟨some 34, _, _, _, _, _⟩) (v := .slice t.p t.n t.cap) rfl (by kernel_rfl) (by kernel_rfl) (by kernel_rfl) (fun _ _ _ h => h) (Or.inl ⟨by kernel_rfl, fun u hSu => by clear hSu; go_simp⟩) hHeld ?_
      try simp only [Act.put, List.setIfInBounds_toArray, List.set_cons_zero, List.set_cons_succ]
      refine wpAnyH_take (i := 1) (oi := ⟨some 35, _, _, _, _, _⟩) (v := (.agg #[.int .i64 y.id, .int .i64 y.si, .int .i64 y.sr, .int .i64 y.cl, .int .i64 y.pt.kd, .int .i64 y.pt.wh, .int .i64 y.pt.sr, .int .i64 y.pt.tr, .int .i64 y.pt.pi, .int .i64 y.pt.le, .int .i64 y.pt.zo, .int .i64 y.gd.kd, .int .i64 y.gd.nn, .int .i64 y.ac.kd, .int .i64 y.ac.nn, .int .i64 y.ac.pi, .int .i64 y.ac.si, .int .i64 y.ac.zo, .bool y.ac.be, .slice y.ac.la y.ac.ln y.ac.lcap, .int .i64 y.un, .int .i64 y.le])) rfl (by kernel_rfl) (by kernel_rfl) (by kernel_rfl) (fun _ _ _ h => h) (yieldsIf_load_mid (by kernel_rfl) 32 (.tmp 7) rfl gx 0 (by rfl) (#[.int .i64 y.id, .int .i64 y.si, .int .i64 y.sr, .int .i64 y.cl, .int .i64 y.pt.kd, .int .i64 y.pt.wh, .int .i64 y.pt.sr, .int .i64 y.pt.tr, .int .i64 y.pt.pi, .int .i64 y.pt.le, .int .i64 y.pt.zo, .int .i64 y.gd.kd, .int .i64 y.gd.nn, .int .i64 y.ac.kd, .int .i64 y.ac.nn, .int .i64 y.ac.pi, .int .i64 y.ac.si, .int .i64 y.ac.zo, .bool y.ac.be, .slice y.ac.la y.ac.ln y.ac.lcap, .int .i64 y.un, .int .i64 y.le] : Array Value).toList _ (fun u hu => BoxR.rangeU hu) Tryz.underlying32 rfl (by kernel_rfl)) hHeld ?_
      try simp only [Act.put, List.setIfInBounds_toArray, List.set_cons_zero, List.set_cons_succ]
      refine wpAnyH_take (i := 2) (oi := ⟨some 2, _, _, _, _, _⟩) (v := .slice t.p t.n t.cap) rfl (by kernel_rfl) (by kernel_rfl) (by kernel_rfl) (fun _ _ _ h => h) (Or.inl ⟨by kernel_rfl, fun u hSu => by clear hSu; go_simp⟩) hHeld ?_
      try simp only [Act.put, List.setIfInBounds_toArray, List.set_cons_zero, List.set_cons_succ]
      have raZ : RowA (Y.setRow w.heap.size #[.int .i64 y.id, .int .i64 y.si, .int .i64 y.sr, .int .i64 y.cl, .int .i64 y.pt.kd, .int .i64 y.pt.wh, .int .i64 y.pt.sr, .int .i64 y.pt.tr, .int .i64 y.pt.pi, .int .i64 y.pt.le, .int .i64 y.pt.zo, .int .i64 y.gd.kd, .int .i64 y.gd.nn, .int .i64 y.ac.kd, .int .i64 y.ac.nn, .int .i64 y.ac.pi, .int .i64 y.ac.si, .int .i64 y.ac.zo, .bool y.ac.be, .slice y.ac.la y.ac.ln y.ac.lcap, .int .i64 y.un, .int .i64 y.le]) w4.heap.size y.ac := row_setRow' ra (own_ne ra xr5 (by decide)) _
      have DZ := D.setRow hVl (#[.int .i64 y.id, .int .i64 y.si, .int .i64 y.sr, .int .i64 y.cl, .int .i64 y.pt.kd, .int .i64 y.pt.wh, .int .i64 y.pt.sr, .int .i64 y.pt.tr, .int .i64 y.pt.pi, .int .i64 y.pt.le, .int .i64 y.pt.zo, .int .i64 y.gd.kd, .int .i64 y.gd.nn, .int .i64 y.ac.kd, .int .i64 y.ac.nn, .int .i64 y.ac.pi, .int .i64 y.ac.si, .int .i64 y.ac.zo, .bool y.ac.be, .slice y.ac.la y.ac.ln y.ac.lcap, .int .i64 y.un, .int .i64 y.le] : Array Value)
      have xr6 : BoxR (Y.setRow w.heap.size #[.int .i64 y.id, .int .i64 y.si, .int .i64 y.sr, .int .i64 y.cl, .int .i64 y.pt.kd, .int .i64 y.pt.wh, .int .i64 y.pt.sr, .int .i64 y.pt.tr, .int .i64 y.pt.pi, .int .i64 y.pt.le, .int .i64 y.pt.zo, .int .i64 y.gd.kd, .int .i64 y.gd.nn, .int .i64 y.ac.kd, .int .i64 y.ac.nn, .int .i64 y.ac.pi, .int .i64 y.ac.si, .int .i64 y.ac.zo, .bool y.ac.be, .slice y.ac.la y.ac.ln y.ac.lcap, .int .i64 y.un, .int .i64 y.le]) w.heap.size 32 #[.int .i64 y.id, .int .i64 y.si, .int .i64 y.sr, .int .i64 y.cl, .int .i64 y.pt.kd, .int .i64 y.pt.wh, .int .i64 y.pt.sr, .int .i64 y.pt.tr, .int .i64 y.pt.pi, .int .i64 y.pt.le, .int .i64 y.pt.zo, .int .i64 y.gd.kd, .int .i64 y.gd.nn, .int .i64 y.ac.kd, .int .i64 y.ac.nn, .int .i64 y.ac.pi, .int .i64 y.ac.si, .int .i64 y.ac.zo, .bool y.ac.be, .slice y.ac.la y.ac.ln y.ac.lcap, .int .i64 y.un, .int .i64 y.le] := setRow_heap _ _ _ _ _ _ xr5
      have hb7 := below_setRow hb6 (Nat.le_refl _) (#[.int .i64 y.id, .int .i64 y.si, .int .i64 y.sr, .int .i64 y.cl, .int .i64 y.pt.kd, .int .i64 y.pt.wh, .int .i64 y.pt.sr, .int .i64 y.pt.tr, .int .i64 y.pt.pi, .int .i64 y.pt.le, .int .i64 y.pt.zo, .int .i64 y.gd.kd, .int .i64 y.gd.nn, .int .i64 y.ac.kd, .int .i64 y.ac.nn, .int .i64 y.ac.pi, .int .i64 y.ac.si, .int .i64 y.ac.zo, .bool y.ac.be, .slice y.ac.la y.ac.ln y.ac.lcap, .int .i64 y.un, .int .i64 y.le] : Array Value)
      have yb7 : BoxR (Y.setRow w.heap.size #[.int .i64 y.id, .int .i64 y.si, .int .i64 y.sr, .int .i64 y.cl, .int .i64 y.pt.kd, .int .i64 y.pt.wh, .int .i64 y.pt.sr, .int .i64 y.pt.tr, .int .i64 y.pt.pi, .int .i64 y.pt.le, .int .i64 y.pt.zo, .int .i64 y.gd.kd, .int .i64 y.gd.nn, .int .i64 y.ac.kd, .int .i64 y.ac.nn, .int .i64 y.ac.pi, .int .i64 y.ac.si, .int .i64 y.ac.zo, .bool y.ac.be, .slice y.ac.la y.ac.ln y.ac.lcap, .int .i64 y.un, .int .i64 y.le]) gx 32 #[.int .i64 y.id, .int .i64 y.si, .int .i64 y.sr, .int .i64 y.cl, .int .i64 y.pt.kd, .int .i64 y.pt.wh, .int .i64 y.pt.sr, .int .i64 y.pt.tr, .int .i64 y.pt.pi, .int .i64 y.pt.le, .int .i64 y.pt.zo, .int .i64 y.gd.kd, .int .i64 y.gd.nn, .int .i64 y.ac.kd, .int .i64 y.ac.nn, .int .i64 y.ac.pi, .int .i64 y.ac.si, .int .i64 y.ac.zo, .bool y.ac.be, .slice y.ac.la y.ac.ln y.ac.lcap, .int .i64 y.un, .int .i64 y.le] := (heap_setRow_ne' _ _ _ _ (by omega)).trans ye
      refine wpAnyH_ready (rs := [3]) (by kernel_rfl) (by simp) ?_
      refine AllReadyH.cons (o := ⟨none, _, _, _, _, _⟩) rfl (fun K' hK => ?_) AllReadyH.nil
      rw [if_pos (by kernel_rfl)]
      refine wp_store_row 32 (.tmp 3) (.tmp 35) rfl w.heap.size #[.int .i64 y.id, .int .i64 y.si, .int .i64 y.sr, .int .i64 y.cl, .int .i64 y.pt.kd, .int .i64 y.pt.wh, .int .i64 y.pt.sr, .int .i64 y.pt.tr, .int .i64 y.pt.pi, .int .i64 y.pt.le, .int .i64 y.pt.zo, .int .i64 y.gd.kd, .int .i64 y.gd.nn, .int .i64 y.ac.kd, .int .i64 y.ac.nn, .int .i64 y.ac.pi, .int .i64 y.ac.si, .int .i64 y.ac.zo, .bool y.ac.be, .slice y.ac.la y.ac.ln y.ac.lcap, .int .i64 y.un, .int .i64 y.le] (by rfl) (by rfl) _ _ xr5 (by kernel_rfl) (by rfl) (by simp [Value.oneCell']) ?_
      refine hK.out _ _ yb7 (fun hHeld => ?_)
      clear hK hHeld
      try simp only [Act.put, List.setIfInBounds_toArray, List.set_cons_zero, List.set_cons_succ]
      refine wpAnyH_done (by kernel_rfl) ?_ _
      obtain ⟨lb, hok⟩ := RowA.okA raZ yw.2.1
      obtain ⟨t', hv', ht', tw', tl'⟩ := DZ.tb
      replace hv' : Hid (Value.slice t.p t.n t.cap = Value.slice t'.p t'.n t'.cap) := hv'
      clear D ra xr5 ye DZ raZ yb7 hb6 tw
      go_wp2
      (try simp only [Exit.inBlock, Exit.then]); refine bodyPost_ret (results_rowR rfl _ _ w.heap.size _ _ _ _ rfl xr6 Tryz.underlying32 rfl (by kernel_rfl)) rfl ?_
      first | refine ⟨t', tw', by omega, tl', ⟨y.id, y.si, y.sr, y.cl, y.pt, y.gd, { y.ac with lb := lb }, y.un, y.le⟩, ⟨hok, wf_i64 yw.1⟩, yw.2.2, ?_, hb7⟩ | refine ⟨t', ⟨y.id, y.si, y.sr, y.cl, y.pt, y.gd, { y.ac with lb := lb }, y.un, y.le⟩, tw', by omega, tl', ⟨hok, wf_i64 yw.1⟩, yw.2.2, ?_, hb7⟩
      rw [← hv'.out]
      rfl
end Go.Proofs.YtodfdfncdoliiadGreat
