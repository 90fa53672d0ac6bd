/-
  Chapter 9: the draw DrawAmount. Written by tools/drawad.gen.py. Chapter 11: the draws DrawInstall, DrawDrop. Written by tools/drawtab.gen.py. Chapter 11: the draws DrawTableOk, DrawSameTable, DrawExpire. Written by tools/drawtab.gen.py. Own work.
-/
import Derived.Test.YtodfdfncdoliiadGreatDrawA3
import Derived.Test.YtodfdfncdoliiadGreatDrawT3
import Derived.Test.YtodfdfncdoliiadGreatGDrawTa2
import Derived.Test.YtodfdfncdoliiadGreatTaE
import Derived.Test.YtodfdfncdoliiadGreatTaG
import Derived.Deep.RegionHeld
import Derived.Deep.MidRow
namespace Go.Proofs.YtodfdfncdoliiadGreat
open Go.ChangeShapes Go.WideShapes Go.ChangeAt Go.RowKit
set_option maxRecDepth 100000
set_option linter.unusedVariables false
set_option linter.unusedSimpArgs false

theorem RowA.okA {w : World} {B : Nat} {t : Ac} (h : RowA w B t) (hw : t.wf) : ∃ lb, ({ t with lb := lb } : Ac).ok w := by
  have hi : ∀ x ∈ [t.kd, t.nn, t.pi, t.si, t.zo], (Lit.int .i64 x).wf = true := fun x hx => by
    simp only [List.mem_cons, List.mem_nil_iff, or_false] at hx
    rcases hx with rfl | rfl | rfl | rfl | rfl
    · exact wf_i64 hw.1.1
    · exact wf_i64 hw.1.2.1
    · exact wf_i64 hw.1.2.2.1
    · exact wf_i64 hw.1.2.2.2.1
    · exact wf_i64 hw.1.2.2.2.2
  by_cases hn : t.ln = 0
  · obtain ⟨_, _, hv, h1, h2⟩ := row_form h
    simp only [Value.slice.injEq, true_and] at hv
    obtain ⟨_, hv2⟩ := hv
    exact ⟨0, by show t.ln ≤ t.lcap; omega, by show t.lcap ≤ maxLen; omega, .inl hn, hi, hw.2⟩
  · obtain ⟨lb, h1, h2, h3⟩ := h.own hn
    exact ⟨lb, h1, h2, h3.rd, hi, hw.2⟩
end Go.Proofs.YtodfdfncdoliiadGreat
namespace Go.Proofs.YtodfdfncdoliiadGreat
open Go.ChangeShapes Go.WideShapes Go.ChangeAt Go.RowKit
set_option maxRecDepth 100000
set_option linter.unusedVariables false
set_option linter.unusedSimpArgs false

theorem results_rowR {P : Program} {fn : Func} {p u : Tmp} {ty : TypeId} (h : fn.results = #[.tmp u, .cell p ty]) (tmps : Array Value) (w : World) (g : Nat) (t : TypeId) (cs : Array Value) (fr : Nat × Nat) (d : TypeDesc)
    (hp : tmps.getD p undef = .pointer (some ⟨g, 0, none⟩)) (hg : w.heap[g]? = some (.cells cs t fr))
    (hu : P.underlying ty = some d) (hd : (match d with | .struct _ | .array _ _ => true | _ => false) = true) (hi : (P.info? ty).map (·.size) = some cs.size) :
    (results fn tmps).run P w = .ok (.tuple #[tmps.getD u undef, .agg cs]) w := by
  have hp' : tmps[p]?.getD undef = .pointer (some ⟨g, 0, none⟩) := by simpa using hp
  simp [results, h, hp', asAddr, run_loadVar_row w g t ty cs fr d hg hu hd hi]
/-- a list that was drawn, in the words of the contracts -/
theorem DTb.tb {w : World} {B k : Nat} {v : Value} {g : Nat → Ef} (h : DTb w B v k g) : ∃ t : Tb, v = .slice t.p t.n t.cap ∧ t.n = k ∧ t.okW w ∧ ∀ i, i < t.n → (t.f i).ac.ln ≤ 5 := by
  obtain ⟨h1, h2, h3⟩ := h
  have hc : ∀ q c, v = .slice (some q) k c → c ≤ maxLen := fun q c e => by
    subst e
    rcases h1.2 with ⟨p1, _⟩ | ⟨_, _, _, p1, _, _, _, p2, _⟩
    · cases p1
    · cases p1; exact p2
  obtain ⟨b, cap, rfl, hk, ho⟩ := own_ofE efC_len h1 h2
  have each : ∀ i, i < k → ∃ lb : Nat, ({ (g i).ac with lb := lb } : Ac).ok w := fun i hi => RowA.okA (h3 i hi).2 (h3 i hi).1.2.1
  obtain ⟨lb, hlb⟩ := Deep.choose_lt each
  refine ⟨⟨some ⟨b, 0, none⟩, k, cap, b, fun i => ⟨(g i).id, (g i).si, (g i).sr, (g i).cl, (g i).pt, (g i).gd, { (g i).ac with lb := lb i }, (g i).un, (g i).le⟩⟩, rfl, rfl, ⟨hk, hc _ _ rfl, ?_, fun i hi => ⟨⟨hlb i hi, wf_i64 (h3 i hi).1.1⟩, ?_⟩⟩, fun i hi => (h3 i hi).1.2.2⟩
  · rcases ho.rd with q | ⟨off, q1, q2⟩
    · exact .inl q
    · exact .inr ⟨off, q1, fun i hi j v hv => q2 i hi j v hv⟩
  · have := (h3 i hi).1.2.2
    show (g i).ac.ln ≤ 1048577
    omega
theorem DTb.setRow {w : World} {B k g0 : Nat} {v : Value} {g : Nat → Ef} (h : DTb w B v k g) (hg : g0 < B) (cs : Array Value) : DTb (w.setRow g0 cs) B v k g :=
  ⟨row_setRow' h.1 (fun e => by have := (h.1.lt g0 e.symm).1; omega) cs, h.2.1, fun i hi => ⟨(h.2.2 i hi).1, row_setRow' (h.2.2 i hi).2 (fun e => by have := (World.ownsRow.lt (h.2.2 i hi).2 g0 e.symm).1; omega) cs⟩⟩
set_option maxHeartbeats 8000000 in
theorem drawDrop_any (a : Option Addr) (len cap : Nat) (w : World) (hc : Code w a len w.heap.size) :
    Calls Tryz.prog 41 #[.slice a len cap] w fun e w' => ∃ (t : Tb) (x : Int), t.okW w' ∧ t.n ≤ 7 ∧ (∀ i, i < t.n → (t.f i).ac.ln ≤ 5) ∧ 0 ≤ x ∧ x < 9 ∧ e = .returned (.tuple #[.slice t.p t.n t.cap, .int .i64 x]) ∧ Below w.heap.size w w' := by
  go_enter Tryz.func41, Tryz.ntmps41
  go_wp2_with fail
  refine (l1New_any a len cap _ hc).mono ?_
  rintro e w1 ⟨h, rfl, hw⟩
  have hb : Below w.heap.size w w1 := by rw [hw]; exact (Below.refl _ w).alloc (Nat.le_refl _) _
  have hk : Cur w1 w.heap.size a len cap := by rw [hw]; exact Cur.made w a len cap h _
  have hpz : w.heap.size < w1.heap.size := hk.1
  clear hw
  go_wp2_with fail
  refine (l5Draw_any w.heap.size a len cap _ (hc.below hb) (Nat.le_refl _) hk).mono ?_
  rintro e w2 ⟨s, hs, rfl, ho, hk2, hrw⟩
  have hcl : 0 ≤ s.cl ∧ s.cl ≤ 10000 := by have := hs.cl; omega
  replace hs := hs.an
  have hb2 := hb.trans (ho.below (Nat.le_refl _) hb.size)
  clear hb ho hk
  go_wp2_with fail
  refine (l11Any_any w.heap.size a len cap s _ (hc.below hb2) (Nat.le_refl _) hk2 hs hcl hrw hpz).mono ?_
  rintro e w3 ⟨v, k, g, rfl, hk7, ho, hk3, D⟩
  have hb3 := hb2.trans (ho.below (Nat.le_refl _) hb2.size)
  have hp2 : w.heap.size < w2.heap.size := hk2.1
  clear hb2 ho hk2 hrw
  go_wp2_with fail
  refine (l1Below_any w.heap.size a len cap 9 _ (hc.below hb3) (Nat.le_refl _) hk3).mono ?_
  rintro e w4 ⟨x, x0, x1, rfl, ho, hk4⟩
  have x2 := x1 (by omega)
  have hb4 := hb3.trans (ho.below (Nat.le_refl _) hb3.size)
  replace D := D.only ho hp2
  obtain ⟨t, rfl, rfl, tw, tl⟩ := D.tb
  clear hb3 ho hk3 hk4 x1 D
  go_wp2
  go_ret2
  exact ⟨t, x, tw, by omega, tl, x0, x2, rfl, hb4⟩
set_option maxHeartbeats 8000000 in
theorem drawInstall_any (a : Option Addr) (len cap : Nat) (w : World) (hc : Code w a len w.heap.size) :
    Calls Tryz.prog 38 #[.slice a len cap] w fun e w' => ∃ (t : Tb) (x : Ef), t.okW w' ∧ t.n ≤ 7 ∧ (∀ i, i < t.n → (t.f i).ac.ln ≤ 5) ∧ x.okW w' ∧ x.ac.ln ≤ 5 ∧ e = .returned (.tuple #[.slice t.p t.n t.cap, (.agg #[.int .i64 x.id, .int .i64 x.si, .int .i64 x.sr, .int .i64 x.cl, .int .i64 x.pt.kd, .int .i64 x.pt.wh, .int .i64 x.pt.sr, .int .i64 x.pt.tr, .int .i64 x.pt.pi, .int .i64 x.pt.le, .int .i64 x.pt.zo, .int .i64 x.gd.kd, .int .i64 x.gd.nn, .int .i64 x.ac.kd, .int .i64 x.ac.nn, .int .i64 x.ac.pi, .int .i64 x.ac.si, .int .i64 x.ac.zo, .bool x.ac.be, .slice x.ac.la x.ac.ln x.ac.lcap, .int .i64 x.un, .int .i64 x.le])]) ∧ Below w.heap.size w w' := by
  have hb0 := (Below.refl _ w).alloc (Nat.le_refl _) (.cells #[.int .i64 0, .int .i64 0, .int .i64 0, .int .i64 0, .int .i64 0, .int .i64 0, .int .i64 0, .int .i64 0, .int .i64 0, .int .i64 0, .int .i64 0, .int .i64 0, .int .i64 0, .int .i64 0, .int .i64 0, .int .i64 0, .int .i64 0, .int .i64 0, .bool false, .slice none 0 0, .int .i64 0, .int .i64 0] 32)
  have xr := boxR_new w 32 #[.int .i64 0, .int .i64 0, .int .i64 0, .int .i64 0, .int .i64 0, .int .i64 0, .int .i64 0, .int .i64 0, .int .i64 0, .int .i64 0, .int .i64 0, .int .i64 0, .int .i64 0, .int .i64 0, .int .i64 0, .int .i64 0, .int .i64 0, .int .i64 0, .bool false, .slice none 0 0, .int .i64 0, .int .i64 0]
  generalize hW : w.alloc (.cells #[.int .i64 0, .int .i64 0, .int .i64 0, .int .i64 0, .int .i64 0, .int .i64 0, .int .i64 0, .int .i64 0, .int .i64 0, .int .i64 0, .int .i64 0, .int .i64 0, .int .i64 0, .int .i64 0, .int .i64 0, .int .i64 0, .int .i64 0, .int .i64 0, .bool false, .slice none 0 0, .int .i64 0, .int .i64 0] 32) = W at hb0 xr
  have hrz : w.heap.size < W.heap.size := xr.lt
  go_enter Tryz.func38, Tryz.ntmps38
  go_wp2_with fail
  clear hW
  refine (l1New_any a len cap _ (hc.below hb0)).mono ?_
  rintro e w1 ⟨h, rfl, hw⟩
  have hb : Below w.heap.size w w1 := by rw [hw]; exact hb0.alloc hb0.size _
  have hk : Cur w1 W.heap.size a len cap := by rw [hw]; exact Cur.made W a len cap h _
  have xr1 : BoxR w1 w.heap.size 32 #[.int .i64 0, .int .i64 0, .int .i64 0, .int .i64 0, .int .i64 0, .int .i64 0, .int .i64 0, .int .i64 0, .int .i64 0, .int .i64 0, .int .i64 0, .int .i64 0, .int .i64 0, .int .i64 0, .int .i64 0, .int .i64 0, .int .i64 0, .int .i64 0, .bool false, .slice none 0 0, .int .i64 0, .int .i64 0] := by rw [hw]; exact xr.alloc _
  have hBp : w.heap.size ≤ W.heap.size := by omega
  have hpz : W.heap.size < w1.heap.size := hk.1
  clear hw xr hb0
  go_wp2_with fail
  refine (l5Draw_any W.heap.size a len cap _ (hc.below hb) hBp hk).mono ?_
  rintro e w2 ⟨s, hs, rfl, ho, hk2, hrw⟩
  have hcl : 0 ≤ s.cl ∧ s.cl ≤ 10000 := by have := hs.cl; omega
  replace hs := hs.an
  have hb2 := hb.trans (ho.below hBp hb.size)
  have xr2 := xr1.onlyR ho (by omega)
  have hpw : W.heap.size < w2.heap.size := hk2.1
  clear hb ho hk xr1
  have zx := boxR_new w2 37 #[.slice none 0 0, .slice none 0 0, .int .i64 0, .int .i64 0]
  have hbV := below_setRow ((Below.refl _ w2).alloc (Nat.le_refl _) (.cells #[.slice none 0 0, .slice none 0 0, .int .i64 0, .int .i64 0] 37)) (Nat.le_refl _) #[.slice s.pa s.pn s.pcap, .slice s.sa s.sn s.scap, .int .i64 s.ac, .int .i64 s.cl]
  have xs : BoxR ((w2.alloc (.cells #[.slice none 0 0, .slice none 0 0, .int .i64 0, .int .i64 0] 37)).setRow w2.heap.size #[.slice s.pa s.pn s.pcap, .slice s.sa s.sn s.scap, .int .i64 s.ac, .int .i64 s.cl]) w2.heap.size 37 #[.slice s.pa s.pn s.pcap, .slice s.sa s.sn s.scap, .int .i64 s.ac, .int .i64 s.cl] := setRow_heap _ _ _ _ _ _ zx
  generalize hV : ((w2.alloc (.cells #[.slice none 0 0, .slice none 0 0, .int .i64 0, .int .i64 0] 37)).setRow w2.heap.size #[.slice s.pa s.pn s.pcap, .slice s.sa s.sn s.scap, .int .i64 s.ac, .int .i64 s.cl]) = V at hbV xs
  have hb3 := below_app hb2 hbV hb2.size
  have xr3 := xr2.grew hbV
  have hk3 : Cur V W.heap.size a len cap := hk2.same (hbV.block _ hk2.1) hbV.size
  have hrw3 := hrw.grew hbV
  clear hb2 hbV xr2 hk2 hrw
  go_upto_region 3 with (refine wpList_store_row rfl 37 (.tmp 5) _ rfl (w2.heap.size) #[.slice s.pa s.pn s.pcap, .slice s.sa s.sn s.scap, .int .i64 s.ac, .int .i64 s.cl] (by rfl) (by rfl) _ _ zx (by kernel_rfl) (by rfl) (by simp [Value.oneCell']) ?_; rw [hV])
  clear zx hV
  generalize w2.heap.size = gs at xs hpw ⊢
  have r0 := xs.cell 0
  have r1 := xs.cell 1
  have r2 := xs.cell 2
  have r3 := xs.cell 3
  simp at r0 r1 r2 r3
  go_wp2_with fail
  refine (l11Any_any W.heap.size a len cap s _ (hc.below hb3) hBp hk3 hs hcl hrw3 hpz).mono ?_
  rintro e w4 ⟨v, k, g, rfl, hk7, ho, hk4, D⟩
  clear r0 r1 r2 r3
  have hVl : w.heap.size < V.heap.size := by have := xr3.lt; omega
  have hpV : W.heap.size < V.heap.size := hk3.1
  have hb4 := hb3.trans (ho.below hBp hb3.size)
  have xr4 := xr3.onlyR ho (by omega)
  have xs4 := xs.onlyR ho (by omega)
  have hrw4 := hrw3.only ho hpz
  clear hb3 ho hk3 xr3 xs hrw3
  have r0 := xs4.cell 0
  have r1 := xs4.cell 1
  have r2 := xs4.cell 2
  have r3 := xs4.cell 3
  simp at r0 r1 r2 r3
  go_wp2_with fail
  refine (l10Any_any W.heap.size a len cap s _ (hc.below hb4) hBp hk4 hs hcl hrw4 hpz).mono ?_
  rintro e w5 ⟨x, xw, rfl, ho, hk5, ra⟩
  clear r0 r1 r2 r3
  have hp4 : w.heap.size < w4.heap.size := xr4.lt
  have hb5 := hb4.trans (ho.below hBp hb4.size)
  have xr5 := xr4.onlyR ho (by omega)
  replace D := (D.only ho hpV).setRow hVl #[.int .i64 x.id, .int .i64 x.si, .int .i64 x.sr, .int .i64 x.cl, .int .i64 x.pt.kd, .int .i64 x.pt.wh, .int .i64 x.pt.sr, .int .i64 x.pt.tr, .int .i64 x.pt.pi, .int .i64 x.pt.le, .int .i64 x.pt.zo, .int .i64 x.gd.kd, .int .i64 x.gd.nn, .int .i64 x.ac.kd, .int .i64 x.ac.nn, .int .i64 x.ac.pi, .int .i64 x.ac.si, .int .i64 x.ac.zo, .bool x.ac.be, .slice x.ac.la x.ac.ln x.ac.lcap, .int .i64 x.un, .int .i64 x.le]
  have raZ : RowA (w5.setRow w.heap.size #[.int .i64 x.id, .int .i64 x.si, .int .i64 x.sr, .int .i64 x.cl, .int .i64 x.pt.kd, .int .i64 x.pt.wh, .int .i64 x.pt.sr, .int .i64 x.pt.tr, .int .i64 x.pt.pi, .int .i64 x.pt.le, .int .i64 x.pt.zo, .int .i64 x.gd.kd, .int .i64 x.gd.nn, .int .i64 x.ac.kd, .int .i64 x.ac.nn, .int .i64 x.ac.pi, .int .i64 x.ac.si, .int .i64 x.ac.zo, .bool x.ac.be, .slice x.ac.la x.ac.ln x.ac.lcap, .int .i64 x.un, .int .i64 x.le]) w4.heap.size x.ac := row_setRow' ra (own_ne ra xr5 (by decide)) _
  have xr6 : BoxR (w5.setRow w.heap.size #[.int .i64 x.id, .int .i64 x.si, .int .i64 x.sr, .int .i64 x.cl, .int .i64 x.pt.kd, .int .i64 x.pt.wh, .int .i64 x.pt.sr, .int .i64 x.pt.tr, .int .i64 x.pt.pi, .int .i64 x.pt.le, .int .i64 x.pt.zo, .int .i64 x.gd.kd, .int .i64 x.gd.nn, .int .i64 x.ac.kd, .int .i64 x.ac.nn, .int .i64 x.ac.pi, .int .i64 x.ac.si, .int .i64 x.ac.zo, .bool x.ac.be, .slice x.ac.la x.ac.ln x.ac.lcap, .int .i64 x.un, .int .i64 x.le]) w.heap.size 32 #[.int .i64 x.id, .int .i64 x.si, .int .i64 x.sr, .int .i64 x.cl, .int .i64 x.pt.kd, .int .i64 x.pt.wh, .int .i64 x.pt.sr, .int .i64 x.pt.tr, .int .i64 x.pt.pi, .int .i64 x.pt.le, .int .i64 x.pt.zo, .int .i64 x.gd.kd, .int .i64 x.gd.nn, .int .i64 x.ac.kd, .int .i64 x.ac.nn, .int .i64 x.ac.pi, .int .i64 x.ac.si, .int .i64 x.ac.zo, .bool x.ac.be, .slice x.ac.la x.ac.ln x.ac.lcap, .int .i64 x.un, .int .i64 x.le] := setRow_heap _ _ _ _ _ _ xr5
  have hb6 := below_setRow hb5 (Nat.le_refl _) #[.int .i64 x.id, .int .i64 x.si, .int .i64 x.sr, .int .i64 x.cl, .int .i64 x.pt.kd, .int .i64 x.pt.wh, .int .i64 x.pt.sr, .int .i64 x.pt.tr, .int .i64 x.pt.pi, .int .i64 x.pt.le, .int .i64 x.pt.zo, .int .i64 x.gd.kd, .int .i64 x.gd.nn, .int .i64 x.ac.kd, .int .i64 x.ac.nn, .int .i64 x.ac.pi, .int .i64 x.ac.si, .int .i64 x.ac.zo, .bool x.ac.be, .slice x.ac.la x.ac.ln x.ac.lcap, .int .i64 x.un, .int .i64 x.le]
  obtain ⟨lb, hok⟩ := RowA.okA raZ xw.2.1
  clear hb4 ho hk4 xr4 xs4 hrw4 hk5 ra hb5 raZ
  obtain ⟨t, rfl, rfl, tw, tl⟩ := D.tb
  clear D
  go_wp2_with (refine wpList_store_row rfl 32 (.tmp 3) _ rfl (w.heap.size) #[.int .i64 x.id, .int .i64 x.si, .int .i64 x.sr, .int .i64 x.cl, .int .i64 x.pt.kd, .int .i64 x.pt.wh, .int .i64 x.pt.sr, .int .i64 x.pt.tr, .int .i64 x.pt.pi, .int .i64 x.pt.le, .int .i64 x.pt.zo, .int .i64 x.gd.kd, .int .i64 x.gd.nn, .int .i64 x.ac.kd, .int .i64 x.ac.nn, .int .i64 x.ac.pi, .int .i64 x.ac.si, .int .i64 x.ac.zo, .bool x.ac.be, .slice x.ac.la x.ac.ln x.ac.lcap, .int .i64 x.un, .int .i64 x.le] (by rfl) (by rfl) _ _ xr5 (by kernel_rfl) (by rfl) (by simp [Value.oneCell']) ?_)
  (try simp only [Exit.inBlock, Exit.then]); refine bodyPost_ret (results_rowR rfl _ _ w.heap.size _ _ _ _ rfl xr6 Tryz.underlying32 rfl (by kernel_rfl)) rfl ?_
  exact ⟨t, ⟨x.id, x.si, x.sr, x.cl, x.pt, x.gd, { x.ac with lb := lb }, x.un, x.le⟩, tw, hk7, tl, ⟨hok, wf_i64 xw.1⟩, xw.2.2, rfl, hb6⟩
end Go.Proofs.YtodfdfncdoliiadGreat
namespace Go.Proofs.YtodfdfncdoliiadGreat
open Go.ChangeShapes Go.WideShapes Go.ChangeAt Go.RowKit
set_option maxRecDepth 100000
set_option linter.unusedVariables false
set_option linter.unusedSimpArgs false

set_option maxHeartbeats 4000000 in
theorem drawTableOk_any (a : Option Addr) (len cap : Nat) (w : World) (hc : Code w a len w.heap.size) :
    Calls Tryz.prog 25 #[.slice a len cap] w fun e w' => ∃ (t : Tb), t.okW w' ∧ t.n ≤ 7 ∧ (∀ i, i < t.n → (t.f i).ac.ln ≤ 5) ∧ e = .returned (.slice t.p t.n t.cap) ∧ Below w.heap.size w w' := by
  go_enter Tryz.func25, Tryz.ntmps25
  go_wp2_with fail
  refine (l1New_any a len cap _ hc).mono ?_
  rintro e w1 ⟨h, rfl, hw⟩
  have hb : Below w.heap.size w w1 := by rw [hw]; exact (Below.refl _ w).alloc (Nat.le_refl _) _
  have hk : Cur w1 w.heap.size a len cap := by rw [hw]; exact Cur.made w a len cap h _
  have hpz : w.heap.size < w1.heap.size := hk.1
  clear hw
  go_wp2_with fail
  refine (l5Draw_any w.heap.size a len cap _ (hc.below hb) (Nat.le_refl _) hk).mono ?_
  rintro e w2 ⟨s, hs, rfl, ho, hk2, hrw⟩
  have hcl : 0 ≤ s.cl ∧ s.cl ≤ 10000 := by have := hs.cl; omega
  replace hs := hs.an
  have hb2 := hb.trans (ho.below (Nat.le_refl _) hb.size)
  have hpw : w.heap.size < w2.heap.size := hk2.1
  clear hb ho hk
  go_wp2_with fail
  refine (l11Any_any w.heap.size a len cap s _ (hc.below hb2) (Nat.le_refl _) hk2 hs hcl hrw hpz).mono ?_
  rintro e w3 ⟨v, k, g, rfl, hk7, ho, hk3, D⟩
  have hb3 := hb2.trans (ho.below (Nat.le_refl _) hb2.size)
  obtain ⟨t, rfl, rfl, tw, tl⟩ := D.tb
  clear hb2 ho hk2 hrw hk3 D
  go_wp2
  go_ret
  first | exact ⟨t, ⟨tw, hk7, tl⟩, rfl, hb3⟩ | exact ⟨t, tw, hk7, tl, rfl, hb3⟩
set_option maxHeartbeats 8000000 in
theorem drawSameTable_any (a : Option Addr) (len cap : Nat) (w : World) (hc : Code w a len w.heap.size) :
    Calls Tryz.prog 26 #[.slice a len cap] w fun e w' => ∃ (t q : Tb), (t.okW w' ∧ t.n ≤ 7 ∧ (∀ i, i < t.n → (t.f i).ac.ln ≤ 5)) ∧ (q.okW w' ∧ q.n ≤ 7 ∧ (∀ i, i < q.n → (q.f i).ac.ln ≤ 5)) ∧ e = .returned (.tuple #[.slice t.p t.n t.cap, .slice q.p q.n q.cap]) ∧ Below w.heap.size w w' := by
  go_enter Tryz.func26, Tryz.ntmps26
  go_wp2_with fail
  refine (l1New_any a len cap _ hc).mono ?_
  rintro e w1 ⟨h, rfl, hw⟩
  have hb : Below w.heap.size w w1 := by rw [hw]; exact (Below.refl _ w).alloc (Nat.le_refl _) _
  have hk : Cur w1 w.heap.size a len cap := by rw [hw]; exact Cur.made w a len cap h _
  have hpz : w.heap.size < w1.heap.size := hk.1
  clear hw
  go_wp2_with fail
  refine (l5Draw_any w.heap.size a len cap _ (hc.below hb) (Nat.le_refl _) hk).mono ?_
  rintro e w2 ⟨s, hs, rfl, ho, hk2, hrw⟩
  have hcl : 0 ≤ s.cl ∧ s.cl ≤ 10000 := by have := hs.cl; omega
  replace hs := hs.an
  have hb2 := hb.trans (ho.below (Nat.le_refl _) hb.size)
  have hpw : w.heap.size < w2.heap.size := hk2.1
  clear hb ho hk
  have zx := boxR_new w2 37 #[.slice none 0 0, .slice none 0 0, .int .i64 0, .int .i64 0]
  have hbV := below_setRow ((Below.refl _ w2).alloc (Nat.le_refl _) (.cells #[.slice none 0 0, .slice none 0 0, .int .i64 0, .int .i64 0] 37)) (Nat.le_refl _) #[.slice s.pa s.pn s.pcap, .slice s.sa s.sn s.scap, .int .i64 s.ac, .int .i64 s.cl]
  have xs : BoxR ((w2.alloc (.cells #[.slice none 0 0, .slice none 0 0, .int .i64 0, .int .i64 0] 37)).setRow w2.heap.size #[.slice s.pa s.pn s.pcap, .slice s.sa s.sn s.scap, .int .i64 s.ac, .int .i64 s.cl]) w2.heap.size 37 #[.slice s.pa s.pn s.pcap, .slice s.sa s.sn s.scap, .int .i64 s.ac, .int .i64 s.cl] := setRow_heap _ _ _ _ _ _ zx
  generalize hV : ((w2.alloc (.cells #[.slice none 0 0, .slice none 0 0, .int .i64 0, .int .i64 0] 37)).setRow w2.heap.size #[.slice s.pa s.pn s.pcap, .slice s.sa s.sn s.scap, .int .i64 s.ac, .int .i64 s.cl]) = V at hbV xs
  have hb3 := below_app hb2 hbV hb2.size
  have hk3 : Cur V w.heap.size a len cap := hk2.same (hbV.block _ hk2.1) hbV.size
  have hrw3 := hrw.grew hbV
  clear hb2 hbV hk2 hrw
  go_upto_region 3 with (refine wpList_store_row rfl 37 (.tmp 5) _ rfl (w2.heap.size) #[.slice s.pa s.pn s.pcap, .slice s.sa s.sn s.scap, .int .i64 s.ac, .int .i64 s.cl] (by rfl) (by rfl) _ _ zx (by kernel_rfl) (by rfl) (by simp [Value.oneCell']) ?_; rw [hV])
  clear zx hV
  generalize w2.heap.size = gs at xs hpw ⊢
  have r0 := xs.cell 0
  have r1 := xs.cell 1
  have r2 := xs.cell 2
  have r3 := xs.cell 3
  simp at r0 r1 r2 r3
  go_wp2_with fail
  refine (l11Any_any w.heap.size a len cap s _ (hc.below hb3) (Nat.le_refl _) hk3 hs hcl hrw3 hpz).mono ?_
  rintro e w4 ⟨v, k, g, rfl, hk7, ho, hk4, D⟩
  clear r0 r1 r2 r3
  have hpV : w.heap.size < V.heap.size := hk3.1
  have hb4 := hb3.trans (ho.below (Nat.le_refl _) hb3.size)
  have xs4 := xs.onlyR ho (by omega)
  have hrw4 := hrw3.only ho hpz
  clear hb3 ho hk3 xs hrw3
  go_wp2_with fail
  refine (l1Once_any w.heap.size a len cap _ _ (hc.below hb4) (Nat.le_refl _) hk4).mono ?_
  rintro e w5 ⟨b, rfl, ho, hk5⟩
  replace D := D.only ho hpV
  have hb5 := hb4.trans (ho.below (Nat.le_refl _) hb4.size)
  have xs5 := xs4.onlyR ho (by omega)
  have hrw5 := hrw4.only ho hpz
  clear hb4 ho hk4 xs4 hrw4
  cases b
  case true =>
    obtain ⟨t, rfl, rfl, tw, tl⟩ := D.tb
    clear D
    go_wp2_with fail
    refine (l11Copy_build t _ tw (by omega)).mono ?_
    rintro e w6 ⟨v6, g6, rfl, hb6, B6⟩
    obtain ⟨b6, cap6, rfl, _⟩ := B6.tb
    have qw := B6.okW tw.2.2.2 rfl
    have hln := fun i hi => (B6.2.2.1 i hi).2.2.ac.ln
    go_wp2
    go_ret2
    exact ⟨t, ⟨some ⟨b6, 0, none⟩, t.n, cap6, b6, g6⟩, ⟨tw.grew hb6, hk7, tl⟩, ⟨qw, hk7, fun i hi => by have h1 := hln i hi; have h2 := tl i hi; dsimp only; omega⟩, rfl, below_app hb5 hb6 hb5.size⟩
  case false =>
    have r0 := xs5.cell 0
    have r1 := xs5.cell 1
    have r2 := xs5.cell 2
    have r3 := xs5.cell 3
    simp at r0 r1 r2 r3
    go_wp2_with fail
    refine (l11Any_any w.heap.size a len cap s _ (hc.below hb5) (Nat.le_refl _) hk5 hs hcl hrw5 hpz).mono ?_
    rintro e w6 ⟨v6, k6, g6, rfl, hk76, ho, hk6, D6⟩
    clear r0 r1 r2 r3
    replace D := D.only ho hpV
    have hb6 := hb5.trans (ho.below (Nat.le_refl _) hb5.size)
    obtain ⟨t, rfl, rfl, tw, tl⟩ := D.tb
    obtain ⟨q, rfl, rfl, qw, ql⟩ := D6.tb
    go_wp2
    go_ret2
    exact ⟨t, q, ⟨tw, hk7, tl⟩, ⟨qw, hk76, ql⟩, rfl, hb6⟩
end Go.Proofs.YtodfdfncdoliiadGreat
