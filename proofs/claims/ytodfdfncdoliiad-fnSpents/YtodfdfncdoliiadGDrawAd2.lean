/-
  Chapter 9: the draw DrawAmount. Written by tools/drawad.gen.py. Chapter 10: the draw DrawSpent. Written by tools/drawef.gen.py. Own work.
-/
import Derived.Test.YtodfdfncdoliiadDrawA3
import Derived.Test.YtodfdfncdoliiadDrawT3
import Derived.Test.YtodfdfncdoliiadDrawEg
import Derived.Deep.DeepCutAuto
import Derived.Deep.CutBlock
import Derived.Deep.RegionHeld
namespace Go.Proofs.Ytodfdfncdoliiad
open Go.ChangeShapes Go.WideShapes Go.ChangeAt Go.RowKit
set_option maxRecDepth 100000
set_option linter.unusedVariables false
set_option linter.unusedSimpArgs false

theorem RowA.okA {w : World} {B : Nat} {t : Ac} (h : RowA w B t) (hw : t.wf) : ∃ lb, ({ t with lb := lb } : Ac).ok w := by
  have hi : ∀ x ∈ [t.kd, t.nn, t.pi, t.si, t.zo], (Lit.int .i64 x).wf = true := fun x hx => by
    simp only [List.mem_cons, List.mem_nil_iff, or_false] at hx
    rcases hx with rfl | rfl | rfl | rfl | rfl
    · exact wf_i64 hw.1.1
    · exact wf_i64 hw.1.2.1
    · exact wf_i64 hw.1.2.2.1
    · exact wf_i64 hw.1.2.2.2.1
    · exact wf_i64 hw.1.2.2.2.2
  by_cases hn : t.ln = 0
  · obtain ⟨_, _, hv, h1, h2⟩ := row_form h
    simp only [Value.slice.injEq, true_and] at hv
    obtain ⟨_, hv2⟩ := hv
    exact ⟨0, by show t.ln ≤ t.lcap; omega, by show t.lcap ≤ maxLen; omega, .inl hn, hi, hw.2⟩
  · obtain ⟨lb, h1, h2, h3⟩ := h.own hn
    exact ⟨lb, h1, h2, h3.rd, hi, hw.2⟩
set_option maxHeartbeats 400000 in
theorem l1Amount_any (p : Nat) (a : Option Addr) (len cap : Nat) (w : World) {B : Nat} (hc : Code w a len B) (hB : B ≤ p) (hcur : Cur w p a len cap) :
    Calls Try.prog 16 #[.pointer (some ⟨p, 0, none⟩)] w fun e w' => ∃ x : Int, inI64 x ∧ e = .returned (.int .i64 x) ∧ Only p w w' ∧ Cur w' p a len cap := by
  go_enter Try.func16, Try.ntmps16
  go_wp2_with fail
  refine (l1Int_new p a len cap [0, 1, 2, 3, 5, 9, 10, 2147483646, 2147483647] 3 w hc hB hcur (by decide) (by decide)).mono ?_
  rintro e w2 ⟨x, hx, rfl, ho2, hk2⟩
  go_wp2
  go_ret
  exact ⟨x, list_in _ (by decide) x hx, rfl, ho2, hk2⟩
end Go.Proofs.Ytodfdfncdoliiad
namespace Go.Proofs.Ytodfdfncdoliiad
open Go.ChangeShapes Go.WideShapes Go.ChangeAt Go.RowKit
set_option maxRecDepth 100000
set_option linter.unusedVariables false
set_option linter.unusedSimpArgs false

theorem BoxR.rangeD {w : World} {g t : Nat} {cs : Array Value} (h : BoxR w g t cs) : w.rangeAt g 0 cs.toList := fun j v hv => by
  have hc := cell_of_row w g (0 + j) cs t (0, 0) h
  rw [hc]
  simpa using hv
set_option maxHeartbeats 8000000 in
theorem drawSpent_any (a : Option Addr) (len cap : Nat) (w : World) (hc : Code w a len w.heap.size) :
    Calls Try.prog 5 #[.slice a len cap] w fun e w' => ∃ (t : Ef) (x : Int), t.okW w' ∧ t.ac.ln ≤ 5 ∧ inI64 x ∧ e = .returned (.tuple #[(.agg #[.int .i64 t.id, .int .i64 t.si, .int .i64 t.sr, .int .i64 t.cl, .int .i64 t.pt.kd, .int .i64 t.pt.wh, .int .i64 t.pt.sr, .int .i64 t.pt.tr, .int .i64 t.pt.pi, .int .i64 t.pt.le, .int .i64 t.pt.zo, .int .i64 t.gd.kd, .int .i64 t.gd.nn, .int .i64 t.ac.kd, .int .i64 t.ac.nn, .int .i64 t.ac.pi, .int .i64 t.ac.si, .int .i64 t.ac.zo, .bool t.ac.be, .slice t.ac.la t.ac.ln t.ac.lcap, .int .i64 t.un, .int .i64 t.le]), .int .i64 x]) ∧ Below w.heap.size w w' := by
  have hb0 := (Below.refl _ w).alloc (Nat.le_refl _) (.cells #[.int .i64 0, .int .i64 0, .int .i64 0, .int .i64 0, .int .i64 0, .int .i64 0, .int .i64 0, .int .i64 0, .int .i64 0, .int .i64 0, .int .i64 0, .int .i64 0, .int .i64 0, .int .i64 0, .int .i64 0, .int .i64 0, .int .i64 0, .int .i64 0, .bool false, .slice none 0 0, .int .i64 0, .int .i64 0] 32)
  have xr := boxR_new w 32 #[.int .i64 0, .int .i64 0, .int .i64 0, .int .i64 0, .int .i64 0, .int .i64 0, .int .i64 0, .int .i64 0, .int .i64 0, .int .i64 0, .int .i64 0, .int .i64 0, .int .i64 0, .int .i64 0, .int .i64 0, .int .i64 0, .int .i64 0, .int .i64 0, .bool false, .slice none 0 0, .int .i64 0, .int .i64 0]
  generalize hW : w.alloc (.cells #[.int .i64 0, .int .i64 0, .int .i64 0, .int .i64 0, .int .i64 0, .int .i64 0, .int .i64 0, .int .i64 0, .int .i64 0, .int .i64 0, .int .i64 0, .int .i64 0, .int .i64 0, .int .i64 0, .int .i64 0, .int .i64 0, .int .i64 0, .int .i64 0, .bool false, .slice none 0 0, .int .i64 0, .int .i64 0] 32) = W at hb0 xr
  have hrz : w.heap.size < W.heap.size := xr.lt
  go_enter Try.func5, Try.ntmps5
  go_wp2_with fail
  clear hW
  refine (l1New_any a len cap _ (hc.below hb0)).mono ?_
  rintro e w1 ⟨h, rfl, hw⟩
  have hb : Below w.heap.size w w1 := by rw [hw]; exact hb0.alloc hb0.size _
  have hk : Cur w1 W.heap.size a len cap := by rw [hw]; exact Cur.made W a len cap h _
  have xr1 : BoxR w1 w.heap.size 32 #[.int .i64 0, .int .i64 0, .int .i64 0, .int .i64 0, .int .i64 0, .int .i64 0, .int .i64 0, .int .i64 0, .int .i64 0, .int .i64 0, .int .i64 0, .int .i64 0, .int .i64 0, .int .i64 0, .int .i64 0, .int .i64 0, .int .i64 0, .int .i64 0, .bool false, .slice none 0 0, .int .i64 0, .int .i64 0] := by rw [hw]; exact xr.alloc _
  have hBp : w.heap.size ≤ W.heap.size := by omega
  have hpz : W.heap.size < w1.heap.size := hk.1
  clear hw xr
  go_wp2_with fail
  refine (l5Draw_any W.heap.size a len cap _ (hc.below hb) hBp hk).mono ?_
  rintro e w2 ⟨s, hs, rfl, ho, hk2, hrw⟩
  have hcl : 0 ≤ s.cl ∧ s.cl ≤ 10000 := by have := hs.cl; omega
  replace hs := hs.an
  have hb2 := hb.trans (ho.below hBp hb.size)
  have xr2 := xr1.onlyR ho (by omega)
  have hsz1 := ho.size
  clear hb ho hk xr1
  go_wp2_with fail
  refine (l10Any_any W.heap.size a len cap s _ (hc.below hb2) hBp hk2 hs hcl hrw hpz).mono ?_
  rintro e w3 ⟨t, tw, rfl, ho, hk9, hra⟩
  have hb9 := hb2.trans (ho.below hBp hb2.size)
  have xr9 := xr2.onlyR ho (by omega)
  have hsz2 := hb2.size
  have hsz3 := ho.size
  have hpra : W.heap.size < w2.heap.size := hk2.1
  clear ho hk2 hb2 xr2
  have zx := boxR_new w3 32 #[.int .i64 0, .int .i64 0, .int .i64 0, .int .i64 0, .int .i64 0, .int .i64 0, .int .i64 0, .int .i64 0, .int .i64 0, .int .i64 0, .int .i64 0, .int .i64 0, .int .i64 0, .int .i64 0, .int .i64 0, .int .i64 0, .int .i64 0, .int .i64 0, .bool false, .slice none 0 0, .int .i64 0, .int .i64 0]
  have hbV := below_setRow ((Below.refl _ w3).alloc (Nat.le_refl _) (.cells #[.int .i64 0, .int .i64 0, .int .i64 0, .int .i64 0, .int .i64 0, .int .i64 0, .int .i64 0, .int .i64 0, .int .i64 0, .int .i64 0, .int .i64 0, .int .i64 0, .int .i64 0, .int .i64 0, .int .i64 0, .int .i64 0, .int .i64 0, .int .i64 0, .bool false, .slice none 0 0, .int .i64 0, .int .i64 0] 32)) (Nat.le_refl _) #[.int .i64 t.id, .int .i64 t.si, .int .i64 t.sr, .int .i64 t.cl, .int .i64 t.pt.kd, .int .i64 t.pt.wh, .int .i64 t.pt.sr, .int .i64 t.pt.tr, .int .i64 t.pt.pi, .int .i64 t.pt.le, .int .i64 t.pt.zo, .int .i64 t.gd.kd, .int .i64 t.gd.nn, .int .i64 t.ac.kd, .int .i64 t.ac.nn, .int .i64 t.ac.pi, .int .i64 t.ac.si, .int .i64 t.ac.zo, .bool t.ac.be, .slice t.ac.la t.ac.ln t.ac.lcap, .int .i64 t.un, .int .i64 t.le]
  have xg : BoxR ((w3.alloc (.cells #[.int .i64 0, .int .i64 0, .int .i64 0, .int .i64 0, .int .i64 0, .int .i64 0, .int .i64 0, .int .i64 0, .int .i64 0, .int .i64 0, .int .i64 0, .int .i64 0, .int .i64 0, .int .i64 0, .int .i64 0, .int .i64 0, .int .i64 0, .int .i64 0, .bool false, .slice none 0 0, .int .i64 0, .int .i64 0] 32)).setRow w3.heap.size #[.int .i64 t.id, .int .i64 t.si, .int .i64 t.sr, .int .i64 t.cl, .int .i64 t.pt.kd, .int .i64 t.pt.wh, .int .i64 t.pt.sr, .int .i64 t.pt.tr, .int .i64 t.pt.pi, .int .i64 t.pt.le, .int .i64 t.pt.zo, .int .i64 t.gd.kd, .int .i64 t.gd.nn, .int .i64 t.ac.kd, .int .i64 t.ac.nn, .int .i64 t.ac.pi, .int .i64 t.ac.si, .int .i64 t.ac.zo, .bool t.ac.be, .slice t.ac.la t.ac.ln t.ac.lcap, .int .i64 t.un, .int .i64 t.le]) w3.heap.size 32 #[.int .i64 t.id, .int .i64 t.si, .int .i64 t.sr, .int .i64 t.cl, .int .i64 t.pt.kd, .int .i64 t.pt.wh, .int .i64 t.pt.sr, .int .i64 t.pt.tr, .int .i64 t.pt.pi, .int .i64 t.pt.le, .int .i64 t.pt.zo, .int .i64 t.gd.kd, .int .i64 t.gd.nn, .int .i64 t.ac.kd, .int .i64 t.ac.nn, .int .i64 t.ac.pi, .int .i64 t.ac.si, .int .i64 t.ac.zo, .bool t.ac.be, .slice t.ac.la t.ac.ln t.ac.lcap, .int .i64 t.un, .int .i64 t.le] := setRow_heap _ _ _ _ _ _ zx
  have hgw : W.heap.size < w3.heap.size := hk9.1
  generalize hV : ((w3.alloc (.cells #[.int .i64 0, .int .i64 0, .int .i64 0, .int .i64 0, .int .i64 0, .int .i64 0, .int .i64 0, .int .i64 0, .int .i64 0, .int .i64 0, .int .i64 0, .int .i64 0, .int .i64 0, .int .i64 0, .int .i64 0, .int .i64 0, .int .i64 0, .int .i64 0, .bool false, .slice none 0 0, .int .i64 0, .int .i64 0] 32)).setRow w3.heap.size #[.int .i64 t.id, .int .i64 t.si, .int .i64 t.sr, .int .i64 t.cl, .int .i64 t.pt.kd, .int .i64 t.pt.wh, .int .i64 t.pt.sr, .int .i64 t.pt.tr, .int .i64 t.pt.pi, .int .i64 t.pt.le, .int .i64 t.pt.zo, .int .i64 t.gd.kd, .int .i64 t.gd.nn, .int .i64 t.ac.kd, .int .i64 t.ac.nn, .int .i64 t.ac.pi, .int .i64 t.ac.si, .int .i64 t.ac.zo, .bool t.ac.be, .slice t.ac.la t.ac.ln t.ac.lcap, .int .i64 t.un, .int .i64 t.le]) = V at hbV xg
  have hbA := below_app hb9 hbV hb9.size
  have xrA := xr9.grew hbV
  have hkA : Cur V W.heap.size a len cap := hk9.same (hbV.block _ hk9.1) hbV.size
  replace hra := hra.grew hbV
  clear hb9 hbV xr9 hk9
  go_upto_region 3 with (refine wpList_store_row rfl 32 (.tmp 5) _ rfl (w3.heap.size) #[.int .i64 t.id, .int .i64 t.si, .int .i64 t.sr, .int .i64 t.cl, .int .i64 t.pt.kd, .int .i64 t.pt.wh, .int .i64 t.pt.sr, .int .i64 t.pt.tr, .int .i64 t.pt.pi, .int .i64 t.pt.le, .int .i64 t.pt.zo, .int .i64 t.gd.kd, .int .i64 t.gd.nn, .int .i64 t.ac.kd, .int .i64 t.ac.nn, .int .i64 t.ac.pi, .int .i64 t.ac.si, .int .i64 t.ac.zo, .bool t.ac.be, .slice t.ac.la t.ac.ln t.ac.lcap, .int .i64 t.un, .int .i64 t.le] (by rfl) (by rfl) _ _ zx (by kernel_rfl) (by rfl) (by simp [Value.oneCell']) ?_; rw [hV])
  clear zx hV
  generalize w3.heap.size = g at xg hgw ⊢
  as_aux_lemma =>
    go_wp2_with fail
    refine (l1Once_any W.heap.size a len cap _ _ (hc.below hbA) hBp hkA).mono ?_
    rintro e WK ⟨b, rfl, ho, hkK⟩
    have hbK := hbA.trans (ho.below hBp hbA.size)
    have xrK := xrA.onlyR ho (by omega)
    have xgK := xg.onlyR ho (by omega)
    have hraK := hra.only ho hpra
    clear ho hbA xrA xg hra hkA
    cases b
    case true =>
      go_wp2_with fail
      have hcD : Code WK.drew a len w.heap.size := hc.below hbK.drew
      refine wp_region_held_drew (S := fun u : World => BoxR u g 32 #[.int .i64 t.id, .int .i64 t.si, .int .i64 t.sr, .int .i64 t.cl, .int .i64 t.pt.kd, .int .i64 t.pt.wh, .int .i64 t.pt.sr, .int .i64 t.pt.tr, .int .i64 t.pt.pi, .int .i64 t.pt.le, .int .i64 t.pt.zo, .int .i64 t.gd.kd, .int .i64 t.gd.nn, .int .i64 t.ac.kd, .int .i64 t.ac.nn, .int .i64 t.ac.pi, .int .i64 t.ac.si, .int .i64 t.ac.zo, .bool t.ac.be, .slice t.ac.la t.ac.ln t.ac.lcap, .int .i64 t.un, .int .i64 t.le]) (by kernel_rfl) (show BoxR WK.drew g 32 #[.int .i64 t.id, .int .i64 t.si, .int .i64 t.sr, .int .i64 t.cl, .int .i64 t.pt.kd, .int .i64 t.pt.wh, .int .i64 t.pt.sr, .int .i64 t.pt.tr, .int .i64 t.pt.pi, .int .i64 t.pt.le, .int .i64 t.pt.zo, .int .i64 t.gd.kd, .int .i64 t.gd.nn, .int .i64 t.ac.kd, .int .i64 t.ac.nn, .int .i64 t.ac.pi, .int .i64 t.ac.si, .int .i64 t.ac.zo, .bool t.ac.be, .slice t.ac.la t.ac.ln t.ac.lcap, .int .i64 t.un, .int .i64 t.le] from xgK) (fun hHeld => ?_)
      refine wpAnyH_take (i := 0) (oi := ⟨some 14, _, _, _, _, _⟩) (v := .agg (#[.int .i64 t.id, .int .i64 t.si, .int .i64 t.sr, .int .i64 t.cl, .int .i64 t.pt.kd, .int .i64 t.pt.wh, .int .i64 t.pt.sr, .int .i64 t.pt.tr, .int .i64 t.pt.pi, .int .i64 t.pt.le, .int .i64 t.pt.zo, .int .i64 t.gd.kd, .int .i64 t.gd.nn, .int .i64 t.ac.kd, .int .i64 t.ac.nn, .int .i64 t.ac.pi, .int .i64 t.ac.si, .int .i64 t.ac.zo, .bool t.ac.be, .slice t.ac.la t.ac.ln t.ac.lcap, .int .i64 t.un, .int .i64 t.le] : Array Value)) rfl (by kernel_rfl) (by kernel_rfl) (by kernel_rfl) (fun _ _ _ h => h) (yieldsIf_load_mid (by kernel_rfl) 32 (.tmp 5) rfl (g) 0 (by rfl) (#[.int .i64 t.id, .int .i64 t.si, .int .i64 t.sr, .int .i64 t.cl, .int .i64 t.pt.kd, .int .i64 t.pt.wh, .int .i64 t.pt.sr, .int .i64 t.pt.tr, .int .i64 t.pt.pi, .int .i64 t.pt.le, .int .i64 t.pt.zo, .int .i64 t.gd.kd, .int .i64 t.gd.nn, .int .i64 t.ac.kd, .int .i64 t.ac.nn, .int .i64 t.ac.pi, .int .i64 t.ac.si, .int .i64 t.ac.zo, .bool t.ac.be, .slice t.ac.la t.ac.ln t.ac.lcap, .int .i64 t.un, .int .i64 t.le] : Array Value).toList _ (fun u hu => BoxR.rangeD hu) Try.underlying32 rfl (by kernel_rfl)) hHeld ?_
      try simp only [Act.put, List.setIfInBounds_toArray, List.set_cons_zero, List.set_cons_succ]
      refine wpAnyH_take (i := 1) (oi := ⟨some 15, _, _, _, _, _⟩) (v := .pointer (some ⟨W.heap.size, 0, none⟩)) rfl (by kernel_rfl) (by kernel_rfl) (by kernel_rfl) (fun _ _ _ h => h) (Or.inl ⟨by kernel_rfl, fun u hSu => by clear hSu; go_simp⟩) hHeld ?_
      try simp only [Act.put, List.setIfInBounds_toArray, List.set_cons_zero, List.set_cons_succ]
      refine wpAnyH_ready (rs := [2]) (by kernel_rfl) (by simp) ?_
      refine AllReadyH.cons rfl (fun K' hK => ?_) AllReadyH.nil
      go_simp
      go_at_call 15
      refine (l1Raw_any W.heap.size a len cap WK.drew hcD hBp hkK).mono ?_
      rintro e w5 ⟨x, hx, rfl, ho, hk5⟩
      have hb5 : Below w.heap.size w w5 := hbK.drew.trans (ho.below hBp hbK.drew.size)
      have xr5 : BoxR w5 w.heap.size 32 #[.int .i64 0, .int .i64 0, .int .i64 0, .int .i64 0, .int .i64 0, .int .i64 0, .int .i64 0, .int .i64 0, .int .i64 0, .int .i64 0, .int .i64 0, .int .i64 0, .int .i64 0, .int .i64 0, .int .i64 0, .int .i64 0, .int .i64 0, .int .i64 0, .bool false, .slice none 0 0, .int .i64 0, .int .i64 0] := BoxR.onlyR (w := WK.drew) xrK ho (by omega)
      have xg5 : BoxR w5 g 32 #[.int .i64 t.id, .int .i64 t.si, .int .i64 t.sr, .int .i64 t.cl, .int .i64 t.pt.kd, .int .i64 t.pt.wh, .int .i64 t.pt.sr, .int .i64 t.pt.tr, .int .i64 t.pt.pi, .int .i64 t.pt.le, .int .i64 t.pt.zo, .int .i64 t.gd.kd, .int .i64 t.gd.nn, .int .i64 t.ac.kd, .int .i64 t.ac.nn, .int .i64 t.ac.pi, .int .i64 t.ac.si, .int .i64 t.ac.zo, .bool t.ac.be, .slice t.ac.la t.ac.ln t.ac.lcap, .int .i64 t.un, .int .i64 t.le] := BoxR.onlyR (w := WK.drew) xgK ho (by omega)
      have hra5 : RowA w5 w2.heap.size t.ac := RowA.only (w := WK.drew) hraK ho hpra
      clear ho hk5
      refine hK.out _ _ xg5 (fun hHeld => ?_)
      clear hK
      try simp only [Act.put, List.setIfInBounds_toArray, List.set_cons_zero, List.set_cons_succ]
      have hraZ : RowA (w5.setRow w.heap.size #[.int .i64 t.id, .int .i64 t.si, .int .i64 t.sr, .int .i64 t.cl, .int .i64 t.pt.kd, .int .i64 t.pt.wh, .int .i64 t.pt.sr, .int .i64 t.pt.tr, .int .i64 t.pt.pi, .int .i64 t.pt.le, .int .i64 t.pt.zo, .int .i64 t.gd.kd, .int .i64 t.gd.nn, .int .i64 t.ac.kd, .int .i64 t.ac.nn, .int .i64 t.ac.pi, .int .i64 t.ac.si, .int .i64 t.ac.zo, .bool t.ac.be, .slice t.ac.la t.ac.ln t.ac.lcap, .int .i64 t.un, .int .i64 t.le]) w2.heap.size t.ac := row_setRow' hra5 (own_ne hra5 xr5 (by decide)) _
      have xr6 : BoxR (w5.setRow w.heap.size #[.int .i64 t.id, .int .i64 t.si, .int .i64 t.sr, .int .i64 t.cl, .int .i64 t.pt.kd, .int .i64 t.pt.wh, .int .i64 t.pt.sr, .int .i64 t.pt.tr, .int .i64 t.pt.pi, .int .i64 t.pt.le, .int .i64 t.pt.zo, .int .i64 t.gd.kd, .int .i64 t.gd.nn, .int .i64 t.ac.kd, .int .i64 t.ac.nn, .int .i64 t.ac.pi, .int .i64 t.ac.si, .int .i64 t.ac.zo, .bool t.ac.be, .slice t.ac.la t.ac.ln t.ac.lcap, .int .i64 t.un, .int .i64 t.le]) w.heap.size 32 #[.int .i64 t.id, .int .i64 t.si, .int .i64 t.sr, .int .i64 t.cl, .int .i64 t.pt.kd, .int .i64 t.pt.wh, .int .i64 t.pt.sr, .int .i64 t.pt.tr, .int .i64 t.pt.pi, .int .i64 t.pt.le, .int .i64 t.pt.zo, .int .i64 t.gd.kd, .int .i64 t.gd.nn, .int .i64 t.ac.kd, .int .i64 t.ac.nn, .int .i64 t.ac.pi, .int .i64 t.ac.si, .int .i64 t.ac.zo, .bool t.ac.be, .slice t.ac.la t.ac.ln t.ac.lcap, .int .i64 t.un, .int .i64 t.le] := setRow_heap _ _ _ _ _ _ xr5
      have xg6 : BoxR (w5.setRow w.heap.size #[.int .i64 t.id, .int .i64 t.si, .int .i64 t.sr, .int .i64 t.cl, .int .i64 t.pt.kd, .int .i64 t.pt.wh, .int .i64 t.pt.sr, .int .i64 t.pt.tr, .int .i64 t.pt.pi, .int .i64 t.pt.le, .int .i64 t.pt.zo, .int .i64 t.gd.kd, .int .i64 t.gd.nn, .int .i64 t.ac.kd, .int .i64 t.ac.nn, .int .i64 t.ac.pi, .int .i64 t.ac.si, .int .i64 t.ac.zo, .bool t.ac.be, .slice t.ac.la t.ac.ln t.ac.lcap, .int .i64 t.un, .int .i64 t.le]) g 32 #[.int .i64 t.id, .int .i64 t.si, .int .i64 t.sr, .int .i64 t.cl, .int .i64 t.pt.kd, .int .i64 t.pt.wh, .int .i64 t.pt.sr, .int .i64 t.pt.tr, .int .i64 t.pt.pi, .int .i64 t.pt.le, .int .i64 t.pt.zo, .int .i64 t.gd.kd, .int .i64 t.gd.nn, .int .i64 t.ac.kd, .int .i64 t.ac.nn, .int .i64 t.ac.pi, .int .i64 t.ac.si, .int .i64 t.ac.zo, .bool t.ac.be, .slice t.ac.la t.ac.ln t.ac.lcap, .int .i64 t.un, .int .i64 t.le] := oldRow9 xg5 (by omega)
      have hb6 := below_setRow hb5 (Nat.le_refl _) #[.int .i64 t.id, .int .i64 t.si, .int .i64 t.sr, .int .i64 t.cl, .int .i64 t.pt.kd, .int .i64 t.pt.wh, .int .i64 t.pt.sr, .int .i64 t.pt.tr, .int .i64 t.pt.pi, .int .i64 t.pt.le, .int .i64 t.pt.zo, .int .i64 t.gd.kd, .int .i64 t.gd.nn, .int .i64 t.ac.kd, .int .i64 t.ac.nn, .int .i64 t.ac.pi, .int .i64 t.ac.si, .int .i64 t.ac.zo, .bool t.ac.be, .slice t.ac.la t.ac.ln t.ac.lcap, .int .i64 t.un, .int .i64 t.le]
      refine wpAnyH_ready (rs := [3]) (by kernel_rfl) (by simp) ?_
      refine AllReadyH.cons rfl (fun K' hK => ?_) AllReadyH.nil
      rw [if_pos (by rfl)]
      refine wp_store_row 32 (.tmp 2) (.tmp 14) rfl w.heap.size #[.int .i64 t.id, .int .i64 t.si, .int .i64 t.sr, .int .i64 t.cl, .int .i64 t.pt.kd, .int .i64 t.pt.wh, .int .i64 t.pt.sr, .int .i64 t.pt.tr, .int .i64 t.pt.pi, .int .i64 t.pt.le, .int .i64 t.pt.zo, .int .i64 t.gd.kd, .int .i64 t.gd.nn, .int .i64 t.ac.kd, .int .i64 t.ac.nn, .int .i64 t.ac.pi, .int .i64 t.ac.si, .int .i64 t.ac.zo, .bool t.ac.be, .slice t.ac.la t.ac.ln t.ac.lcap, .int .i64 t.un, .int .i64 t.le] (by first | rfl | simp [Act.eval]) rfl _ _ xr5 (by kernel_rfl) (by rfl) (by simp [Value.oneCell']) ?_
      refine hK.out _ _ xg6 (fun hHeld => ?_)
      clear hK
      try simp only [Act.put, List.setIfInBounds_toArray, List.set_cons_zero, List.set_cons_succ]
      generalize w5.setRow w.heap.size #[.int .i64 t.id, .int .i64 t.si, .int .i64 t.sr, .int .i64 t.cl, .int .i64 t.pt.kd, .int .i64 t.pt.wh, .int .i64 t.pt.sr, .int .i64 t.pt.tr, .int .i64 t.pt.pi, .int .i64 t.pt.le, .int .i64 t.pt.zo, .int .i64 t.gd.kd, .int .i64 t.gd.nn, .int .i64 t.ac.kd, .int .i64 t.ac.nn, .int .i64 t.ac.pi, .int .i64 t.ac.si, .int .i64 t.ac.zo, .bool t.ac.be, .slice t.ac.la t.ac.ln t.ac.lcap, .int .i64 t.un, .int .i64 t.le] = X6 at xr6 xg6 hb6 hraZ hHeld ⊢
      refine wpAnyH_take (i := 4) (oi := ⟨some 3, _, _, _, _, _⟩) (v := .int .i64 x) rfl (by kernel_rfl) (by kernel_rfl) (by kernel_rfl) (fun _ _ _ h => h) (Or.inl ⟨by kernel_rfl, fun u hSu => by clear hSu; go_simp⟩) hHeld ?_
      try simp only [Act.put, List.setIfInBounds_toArray, List.set_cons_zero, List.set_cons_succ]
      refine wpAnyH_done (by kernel_rfl) ?_ _
      clear hHeld
      go_wp2
      (try simp only [Exit.inBlock, Exit.then]); refine bodyPost_ret (results_rowC rfl _ _ w.heap.size _ _ _ _ rfl xr6 Try.underlying32 rfl (by kernel_rfl)) rfl ?_
      obtain ⟨lb, hok⟩ := RowA.okA hraZ tw.2.1
      first | exact ⟨⟨t.id, t.si, t.sr, t.cl, t.pt, t.gd, { t.ac with lb := lb }, t.un, t.le⟩, x, ⟨hok, wf_i64 tw.1⟩, tw.2.2, hx, rfl, hb6⟩ | exact ⟨⟨t.id, t.si, t.sr, t.cl, t.pt, t.gd, { t.ac with lb := lb }, t.un, t.le⟩, ⟨hok, wf_i64 tw.1⟩, tw.2.2, x, hx, rfl, hb6⟩ | exact ⟨⟨t.id, t.si, t.sr, t.cl, t.pt, t.gd, { t.ac with lb := lb }, t.un, t.le⟩, ⟨hok, wf_i64 tw.1⟩, tw.2.2, ⟨x, hx, rfl⟩, hb6⟩
    case false =>
      go_wp2_with fail
      have hcD : Code WK.drew a len w.heap.size := hc.below hbK.drew
      refine wp_region_held_drew (S := fun u : World => BoxR u g 32 #[.int .i64 t.id, .int .i64 t.si, .int .i64 t.sr, .int .i64 t.cl, .int .i64 t.pt.kd, .int .i64 t.pt.wh, .int .i64 t.pt.sr, .int .i64 t.pt.tr, .int .i64 t.pt.pi, .int .i64 t.pt.le, .int .i64 t.pt.zo, .int .i64 t.gd.kd, .int .i64 t.gd.nn, .int .i64 t.ac.kd, .int .i64 t.ac.nn, .int .i64 t.ac.pi, .int .i64 t.ac.si, .int .i64 t.ac.zo, .bool t.ac.be, .slice t.ac.la t.ac.ln t.ac.lcap, .int .i64 t.un, .int .i64 t.le]) (by kernel_rfl) (show BoxR WK.drew g 32 #[.int .i64 t.id, .int .i64 t.si, .int .i64 t.sr, .int .i64 t.cl, .int .i64 t.pt.kd, .int .i64 t.pt.wh, .int .i64 t.pt.sr, .int .i64 t.pt.tr, .int .i64 t.pt.pi, .int .i64 t.pt.le, .int .i64 t.pt.zo, .int .i64 t.gd.kd, .int .i64 t.gd.nn, .int .i64 t.ac.kd, .int .i64 t.ac.nn, .int .i64 t.ac.pi, .int .i64 t.ac.si, .int .i64 t.ac.zo, .bool t.ac.be, .slice t.ac.la t.ac.ln t.ac.lcap, .int .i64 t.un, .int .i64 t.le] from xgK) (fun hHeld => ?_)
      refine wpAnyH_take (i := 0) (oi := ⟨some 17, _, _, _, _, _⟩) (v := .agg (#[.int .i64 t.id, .int .i64 t.si, .int .i64 t.sr, .int .i64 t.cl, .int .i64 t.pt.kd, .int .i64 t.pt.wh, .int .i64 t.pt.sr, .int .i64 t.pt.tr, .int .i64 t.pt.pi, .int .i64 t.pt.le, .int .i64 t.pt.zo, .int .i64 t.gd.kd, .int .i64 t.gd.nn, .int .i64 t.ac.kd, .int .i64 t.ac.nn, .int .i64 t.ac.pi, .int .i64 t.ac.si, .int .i64 t.ac.zo, .bool t.ac.be, .slice t.ac.la t.ac.ln t.ac.lcap, .int .i64 t.un, .int .i64 t.le] : Array Value)) rfl (by kernel_rfl) (by kernel_rfl) (by kernel_rfl) (fun _ _ _ h => h) (yieldsIf_load_mid (by kernel_rfl) 32 (.tmp 5) rfl (g) 0 (by rfl) (#[.int .i64 t.id, .int .i64 t.si, .int .i64 t.sr, .int .i64 t.cl, .int .i64 t.pt.kd, .int .i64 t.pt.wh, .int .i64 t.pt.sr, .int .i64 t.pt.tr, .int .i64 t.pt.pi, .int .i64 t.pt.le, .int .i64 t.pt.zo, .int .i64 t.gd.kd, .int .i64 t.gd.nn, .int .i64 t.ac.kd, .int .i64 t.ac.nn, .int .i64 t.ac.pi, .int .i64 t.ac.si, .int .i64 t.ac.zo, .bool t.ac.be, .slice t.ac.la t.ac.ln t.ac.lcap, .int .i64 t.un, .int .i64 t.le] : Array Value).toList _ (fun u hu => BoxR.rangeD hu) Try.underlying32 rfl (by kernel_rfl)) hHeld ?_
      try simp only [Act.put, List.setIfInBounds_toArray, List.set_cons_zero, List.set_cons_succ]
      refine wpAnyH_take (i := 1) (oi := ⟨some 18, _, _, _, _, _⟩) (v := .pointer (some ⟨W.heap.size, 0, none⟩)) rfl (by kernel_rfl) (by kernel_rfl) (by kernel_rfl) (fun _ _ _ h => h) (Or.inl ⟨by kernel_rfl, fun u hSu => by clear hSu; go_simp⟩) hHeld ?_
      try simp only [Act.put, List.setIfInBounds_toArray, List.set_cons_zero, List.set_cons_succ]
      refine wpAnyH_ready (rs := [2]) (by kernel_rfl) (by simp) ?_
      refine AllReadyH.cons rfl (fun K' hK => ?_) AllReadyH.nil
      go_simp
      go_at_call 16
      refine (l1Amount_any W.heap.size a len cap WK.drew hcD hBp hkK).mono ?_
      rintro e w5 ⟨x, hx, rfl, ho, hk5⟩
      have hb5 : Below w.heap.size w w5 := hbK.drew.trans (ho.below hBp hbK.drew.size)
      have xr5 : BoxR w5 w.heap.size 32 #[.int .i64 0, .int .i64 0, .int .i64 0, .int .i64 0, .int .i64 0, .int .i64 0, .int .i64 0, .int .i64 0, .int .i64 0, .int .i64 0, .int .i64 0, .int .i64 0, .int .i64 0, .int .i64 0, .int .i64 0, .int .i64 0, .int .i64 0, .int .i64 0, .bool false, .slice none 0 0, .int .i64 0, .int .i64 0] := BoxR.onlyR (w := WK.drew) xrK ho (by omega)
      have xg5 : BoxR w5 g 32 #[.int .i64 t.id, .int .i64 t.si, .int .i64 t.sr, .int .i64 t.cl, .int .i64 t.pt.kd, .int .i64 t.pt.wh, .int .i64 t.pt.sr, .int .i64 t.pt.tr, .int .i64 t.pt.pi, .int .i64 t.pt.le, .int .i64 t.pt.zo, .int .i64 t.gd.kd, .int .i64 t.gd.nn, .int .i64 t.ac.kd, .int .i64 t.ac.nn, .int .i64 t.ac.pi, .int .i64 t.ac.si, .int .i64 t.ac.zo, .bool t.ac.be, .slice t.ac.la t.ac.ln t.ac.lcap, .int .i64 t.un, .int .i64 t.le] := BoxR.onlyR (w := WK.drew) xgK ho (by omega)
      have hra5 : RowA w5 w2.heap.size t.ac := RowA.only (w := WK.drew) hraK ho hpra
      clear ho hk5
      refine hK.out _ _ xg5 (fun hHeld => ?_)
      clear hK
      try simp only [Act.put, List.setIfInBounds_toArray, List.set_cons_zero, List.set_cons_succ]
      have hraZ : RowA (w5.setRow w.heap.size #[.int .i64 t.id, .int .i64 t.si, .int .i64 t.sr, .int .i64 t.cl, .int .i64 t.pt.kd, .int .i64 t.pt.wh, .int .i64 t.pt.sr, .int .i64 t.pt.tr, .int .i64 t.pt.pi, .int .i64 t.pt.le, .int .i64 t.pt.zo, .int .i64 t.gd.kd, .int .i64 t.gd.nn, .int .i64 t.ac.kd, .int .i64 t.ac.nn, .int .i64 t.ac.pi, .int .i64 t.ac.si, .int .i64 t.ac.zo, .bool t.ac.be, .slice t.ac.la t.ac.ln t.ac.lcap, .int .i64 t.un, .int .i64 t.le]) w2.heap.size t.ac := row_setRow' hra5 (own_ne hra5 xr5 (by decide)) _
      have xr6 : BoxR (w5.setRow w.heap.size #[.int .i64 t.id, .int .i64 t.si, .int .i64 t.sr, .int .i64 t.cl, .int .i64 t.pt.kd, .int .i64 t.pt.wh, .int .i64 t.pt.sr, .int .i64 t.pt.tr, .int .i64 t.pt.pi, .int .i64 t.pt.le, .int .i64 t.pt.zo, .int .i64 t.gd.kd, .int .i64 t.gd.nn, .int .i64 t.ac.kd, .int .i64 t.ac.nn, .int .i64 t.ac.pi, .int .i64 t.ac.si, .int .i64 t.ac.zo, .bool t.ac.be, .slice t.ac.la t.ac.ln t.ac.lcap, .int .i64 t.un, .int .i64 t.le]) w.heap.size 32 #[.int .i64 t.id, .int .i64 t.si, .int .i64 t.sr, .int .i64 t.cl, .int .i64 t.pt.kd, .int .i64 t.pt.wh, .int .i64 t.pt.sr, .int .i64 t.pt.tr, .int .i64 t.pt.pi, .int .i64 t.pt.le, .int .i64 t.pt.zo, .int .i64 t.gd.kd, .int .i64 t.gd.nn, .int .i64 t.ac.kd, .int .i64 t.ac.nn, .int .i64 t.ac.pi, .int .i64 t.ac.si, .int .i64 t.ac.zo, .bool t.ac.be, .slice t.ac.la t.ac.ln t.ac.lcap, .int .i64 t.un, .int .i64 t.le] := setRow_heap _ _ _ _ _ _ xr5
      have xg6 : BoxR (w5.setRow w.heap.size #[.int .i64 t.id, .int .i64 t.si, .int .i64 t.sr, .int .i64 t.cl, .int .i64 t.pt.kd, .int .i64 t.pt.wh, .int .i64 t.pt.sr, .int .i64 t.pt.tr, .int .i64 t.pt.pi, .int .i64 t.pt.le, .int .i64 t.pt.zo, .int .i64 t.gd.kd, .int .i64 t.gd.nn, .int .i64 t.ac.kd, .int .i64 t.ac.nn, .int .i64 t.ac.pi, .int .i64 t.ac.si, .int .i64 t.ac.zo, .bool t.ac.be, .slice t.ac.la t.ac.ln t.ac.lcap, .int .i64 t.un, .int .i64 t.le]) g 32 #[.int .i64 t.id, .int .i64 t.si, .int .i64 t.sr, .int .i64 t.cl, .int .i64 t.pt.kd, .int .i64 t.pt.wh, .int .i64 t.pt.sr, .int .i64 t.pt.tr, .int .i64 t.pt.pi, .int .i64 t.pt.le, .int .i64 t.pt.zo, .int .i64 t.gd.kd, .int .i64 t.gd.nn, .int .i64 t.ac.kd, .int .i64 t.ac.nn, .int .i64 t.ac.pi, .int .i64 t.ac.si, .int .i64 t.ac.zo, .bool t.ac.be, .slice t.ac.la t.ac.ln t.ac.lcap, .int .i64 t.un, .int .i64 t.le] := oldRow9 xg5 (by omega)
      have hb6 := below_setRow hb5 (Nat.le_refl _) #[.int .i64 t.id, .int .i64 t.si, .int .i64 t.sr, .int .i64 t.cl, .int .i64 t.pt.kd, .int .i64 t.pt.wh, .int .i64 t.pt.sr, .int .i64 t.pt.tr, .int .i64 t.pt.pi, .int .i64 t.pt.le, .int .i64 t.pt.zo, .int .i64 t.gd.kd, .int .i64 t.gd.nn, .int .i64 t.ac.kd, .int .i64 t.ac.nn, .int .i64 t.ac.pi, .int .i64 t.ac.si, .int .i64 t.ac.zo, .bool t.ac.be, .slice t.ac.la t.ac.ln t.ac.lcap, .int .i64 t.un, .int .i64 t.le]
      refine wpAnyH_ready (rs := [3]) (by kernel_rfl) (by simp) ?_
      refine AllReadyH.cons rfl (fun K' hK => ?_) AllReadyH.nil
      rw [if_pos (by rfl)]
      refine wp_store_row 32 (.tmp 2) (.tmp 17) rfl w.heap.size #[.int .i64 t.id, .int .i64 t.si, .int .i64 t.sr, .int .i64 t.cl, .int .i64 t.pt.kd, .int .i64 t.pt.wh, .int .i64 t.pt.sr, .int .i64 t.pt.tr, .int .i64 t.pt.pi, .int .i64 t.pt.le, .int .i64 t.pt.zo, .int .i64 t.gd.kd, .int .i64 t.gd.nn, .int .i64 t.ac.kd, .int .i64 t.ac.nn, .int .i64 t.ac.pi, .int .i64 t.ac.si, .int .i64 t.ac.zo, .bool t.ac.be, .slice t.ac.la t.ac.ln t.ac.lcap, .int .i64 t.un, .int .i64 t.le] (by first | rfl | simp [Act.eval]) rfl _ _ xr5 (by kernel_rfl) (by rfl) (by simp [Value.oneCell']) ?_
      refine hK.out _ _ xg6 (fun hHeld => ?_)
      clear hK
      try simp only [Act.put, List.setIfInBounds_toArray, List.set_cons_zero, List.set_cons_succ]
      generalize w5.setRow w.heap.size #[.int .i64 t.id, .int .i64 t.si, .int .i64 t.sr, .int .i64 t.cl, .int .i64 t.pt.kd, .int .i64 t.pt.wh, .int .i64 t.pt.sr, .int .i64 t.pt.tr, .int .i64 t.pt.pi, .int .i64 t.pt.le, .int .i64 t.pt.zo, .int .i64 t.gd.kd, .int .i64 t.gd.nn, .int .i64 t.ac.kd, .int .i64 t.ac.nn, .int .i64 t.ac.pi, .int .i64 t.ac.si, .int .i64 t.ac.zo, .bool t.ac.be, .slice t.ac.la t.ac.ln t.ac.lcap, .int .i64 t.un, .int .i64 t.le] = X6 at xr6 xg6 hb6 hraZ hHeld ⊢
      refine wpAnyH_take (i := 4) (oi := ⟨some 3, _, _, _, _, _⟩) (v := .int .i64 x) rfl (by kernel_rfl) (by kernel_rfl) (by kernel_rfl) (fun _ _ _ h => h) (Or.inl ⟨by kernel_rfl, fun u hSu => by clear hSu; go_simp⟩) hHeld ?_
      try simp only [Act.put, List.setIfInBounds_toArray, List.set_cons_zero, List.set_cons_succ]
      refine wpAnyH_done (by kernel_rfl) ?_ _
      clear hHeld
      go_wp2
      (try simp only [Exit.inBlock, Exit.then]); refine bodyPost_ret (results_rowC rfl _ _ w.heap.size _ _ _ _ rfl xr6 Try.underlying32 rfl (by kernel_rfl)) rfl ?_
      obtain ⟨lb, hok⟩ := RowA.okA hraZ tw.2.1
      first | exact ⟨⟨t.id, t.si, t.sr, t.cl, t.pt, t.gd, { t.ac with lb := lb }, t.un, t.le⟩, x, ⟨hok, wf_i64 tw.1⟩, tw.2.2, hx, rfl, hb6⟩ | exact ⟨⟨t.id, t.si, t.sr, t.cl, t.pt, t.gd, { t.ac with lb := lb }, t.un, t.le⟩, ⟨hok, wf_i64 tw.1⟩, tw.2.2, x, hx, rfl, hb6⟩ | exact ⟨⟨t.id, t.si, t.sr, t.cl, t.pt, t.gd, { t.ac with lb := lb }, t.un, t.le⟩, ⟨hok, wf_i64 tw.1⟩, tw.2.2, ⟨x, hx, rfl⟩, hb6⟩
end Go.Proofs.Ytodfdfncdoliiad
