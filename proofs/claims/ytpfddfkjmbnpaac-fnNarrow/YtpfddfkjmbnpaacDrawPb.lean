/-
  Chapter 7: the draw DrawNarrower. Written by tools/drawpa.gen.py. Own work.
-/
import Derived.Test.YtpfddfkjmbnpaacDrawPa
import Derived.Deep.RegionHeld
namespace Go.Proofs.Ytpfddfkjmbnpaac
open Go.ChangeShapes Go.WideShapes Go.ChangeAt Go.RowKit
set_option maxRecDepth 100000
set_option linter.unusedVariables false
set_option linter.unusedSimpArgs false

theorem results_two {P : Program} {fn : Func} {p q : Tmp} {ty ty2 : TypeId} (h : fn.results = #[.cell p ty, .cell q ty2]) (tmps : Array Value) (w : World) (g g2 : Nat) (t t2 : TypeId) (cs cs2 : Array Value) (fr fr2 : Nat × Nat) (d d2 : TypeDesc)
    (hp : tmps.getD p undef = .pointer (some ⟨g, 0, none⟩)) (hg : w.heap[g]? = some (.cells cs t fr))
    (hu : P.underlying ty = some d) (hd : (match d with | .struct _ | .array _ _ => true | _ => false) = true) (hi : (P.info? ty).map (·.size) = some cs.size)
    (hp2 : tmps.getD q undef = .pointer (some ⟨g2, 0, none⟩)) (hg2 : w.heap[g2]? = some (.cells cs2 t2 fr2))
    (hu2 : P.underlying ty2 = some d2) (hd2 : (match d2 with | .struct _ | .array _ _ => true | _ => false) = true) (hi2 : (P.info? ty2).map (·.size) = some cs2.size) :
    (results fn tmps).run P w = .ok (.tuple #[.agg cs, .agg cs2]) w := by
  have hp' : tmps[p]?.getD undef = .pointer (some ⟨g, 0, none⟩) := by simpa using hp
  have hp2' : tmps[q]?.getD undef = .pointer (some ⟨g2, 0, none⟩) := by simpa using hp2
  simp [results, h, hp', hp2', asAddr, run_loadVar_row w g t ty cs fr d hg hu hd hi, run_loadVar_row w g2 t2 ty2 cs2 fr2 d2 hg2 hu2 hd2 hi2]
theorem BoxPt.old {w : World} {p q : Nat} {t : Nat} {x : Pt} {cs : Array Value} (h : BoxPt w p t x) (hne : p ≠ q) : BoxPt (w.setRow q cs) p t x := (heap_setRow_ne' w _ _ _ (by omega)).trans h
theorem BoxPt.newRow {w : World} {q t : Nat} {x y : Pt} (h : BoxPt w q t x) : BoxPt (w.setRow q #[.int .i64 y.kd, .int .i64 y.wh, .int .i64 y.sr, .int .i64 y.tr, .int .i64 y.pi, .int .i64 y.le, .int .i64 y.zo]) q t y := setRow_heap _ _ _ _ _ _ h
theorem BoxPt.other {w : World} {b t : Nat} {x : Pt} (h : BoxPt w b t x) {q : Addr} (hq : b ≠ q.block) (v : Value) : BoxPt (w.setCell q v) b t x := (Below.heap_setCell w q v b hq).trans h
set_option maxHeartbeats 4000000 in
theorem drawNarrower_any (a : Option Addr) (len cap : Nat) (w : World) (hc : Code w a len w.heap.size) :
    Calls Try.prog 8 #[.slice a len cap] w fun e w' => ∃ p q : Pt, p.wf ∧ q.wf ∧ e = .returned (.tuple #[(.agg #[.int .i64 p.kd, .int .i64 p.wh, .int .i64 p.sr, .int .i64 p.tr, .int .i64 p.pi, .int .i64 p.le, .int .i64 p.zo]), (.agg #[.int .i64 q.kd, .int .i64 q.wh, .int .i64 q.sr, .int .i64 q.tr, .int .i64 q.pi, .int .i64 q.le, .int .i64 q.zo])]) ∧ Below w.heap.size w w' := by
  have hb0 := ((Below.refl _ w).alloc (Nat.le_refl _) (.cells #[.int .i64 0, .int .i64 0, .int .i64 0, .int .i64 0, .int .i64 0, .int .i64 0, .int .i64 0] 29)).alloc (by simp) (.cells #[.int .i64 0, .int .i64 0, .int .i64 0, .int .i64 0, .int .i64 0, .int .i64 0, .int .i64 0] 29)
  have xr := (boxPt_new w 29 ⟨0, 0, 0, 0, 0, 0, 0⟩).alloc (.cells #[.int .i64 0, .int .i64 0, .int .i64 0, .int .i64 0, .int .i64 0, .int .i64 0, .int .i64 0] 29)
  have xq : BoxPt ((w.alloc (.cells #[.int .i64 0, .int .i64 0, .int .i64 0, .int .i64 0, .int .i64 0, .int .i64 0, .int .i64 0] 29)).alloc (.cells #[.int .i64 0, .int .i64 0, .int .i64 0, .int .i64 0, .int .i64 0, .int .i64 0, .int .i64 0] 29)) (w.heap.size + 1) 29 ⟨0, 0, 0, 0, 0, 0, 0⟩ := heap_alloc2_new _ _ _
  generalize hW : ((w.alloc (.cells #[.int .i64 0, .int .i64 0, .int .i64 0, .int .i64 0, .int .i64 0, .int .i64 0, .int .i64 0] 29)).alloc (.cells #[.int .i64 0, .int .i64 0, .int .i64 0, .int .i64 0, .int .i64 0, .int .i64 0, .int .i64 0] 29)) = W at hb0 xr xq
  have hrz : w.heap.size + 1 < W.heap.size := xq.lt
  go_enter Try.func8, Try.ntmps8
  go_wp2_with fail
  clear hW
  refine (l1New_any a len cap _ (hc.below hb0)).mono ?_
  rintro e w1 ⟨h, rfl, hw⟩
  have hb : Below w.heap.size w w1 := by rw [hw]; exact hb0.alloc hb0.size _
  have hk : Cur w1 W.heap.size a len cap := by rw [hw]; exact Cur.made W a len cap h _
  have xr1 : BoxPt w1 w.heap.size 29 ⟨0, 0, 0, 0, 0, 0, 0⟩ := by rw [hw]; exact xr.alloc _
  have xq1 : BoxPt w1 (w.heap.size + 1) 29 ⟨0, 0, 0, 0, 0, 0, 0⟩ := by rw [hw]; exact xq.alloc _
  have hBp : w.heap.size ≤ W.heap.size := by omega
  have hpz : W.heap.size < w1.heap.size := hk.1
  clear hw xr xq
  go_wp2_with fail
  refine (l5Draw_any W.heap.size a len cap _ (hc.below hb) hBp hk).mono ?_
  rintro e w2 ⟨s, hs, rfl, ho, hk2, hrw⟩
  have han := hs.an
  have hb2 := hb.trans (ho.below hBp hb.size)
  have xr2 := xr1.onlyP ho (by omega)
  have xq2 := xq1.onlyP ho (by omega)
  have hz12 := ho.size
  clear hb ho hk xr1 xq1 hs
  have xg := boxR_new w2 27 #[.slice s.pa s.pn s.pcap, .slice s.sa s.sn s.scap, .int .i64 s.ac, .int .i64 s.cl]
  have hbV := below_new2'' w2 (.cells #[.slice s.pa s.pn s.pcap, .slice s.sa s.sn s.scap, .int .i64 s.ac, .int .i64 s.cl] 27)
  have oV : Only W.heap.size w2 (w2.alloc (.cells #[.slice s.pa s.pn s.pcap, .slice s.sa s.sn s.scap, .int .i64 s.ac, .int .i64 s.cl] 27)) := (Only.refl _ w2).alloc _
  generalize hV : w2.alloc (.cells #[.slice s.pa s.pn s.pcap, .slice s.sa s.sn s.scap, .int .i64 s.ac, .int .i64 s.cl] 27) = V at xg hbV oV
  have hrV := hrw.only oV hpz
  have hb3 := below_app hb2 hbV hb2.size
  have xr3 := xr2.grew hbV
  have xq3 := xq2.grew hbV
  have hk3 : Cur V W.heap.size a len cap := hk2.same (hbV.block _ hk2.1) hbV.size
  clear hb2 hbV xr2 xq2 hk2 oV hrw
  have X0 := xg.cell 0
  have X1 := xg.cell 1
  have X2 := xg.cell 2
  have X3 := xg.cell 3
  simp at X0 X1 X2 X3
  have hlg : w2.heap.size < V.heap.size := xg.lt
  have HXS : Hid (∀ u : World, BoxR u w2.heap.size 27 #[.slice s.pa s.pn s.pcap, .slice s.sa s.sn s.scap, .int .i64 s.ac, .int .i64 s.cl] → u.cell? ⟨w2.heap.size, 0, none⟩ = some (.slice s.pa s.pn s.pcap) ∧ u.cell? ⟨w2.heap.size, 1, none⟩ = some (.slice s.sa s.sn s.scap) ∧ u.cell? ⟨w2.heap.size, 2, none⟩ = some (.int .i64 s.ac) ∧ u.cell? ⟨w2.heap.size, 3, none⟩ = some (.int .i64 s.cl)) := fun u h => by
    have Y0 := h.cell 0
    have Y1 := h.cell 1
    have Y2 := h.cell 2
    have Y3 := h.cell 3
    simp at Y0 Y1 Y2 Y3
    exact ⟨Y0, Y1, Y2, Y3⟩
  go_wp2_with fail
  clear hV X0 X1 X2 X3
  refine (l7Any_any W.heap.size a len cap s _ (hc.below hb3) hBp hk3 han hrV hpz).mono ?_
  rintro e w3 ⟨p, hp, rfl, ho, hk4⟩
  have hb4 := hb3.trans (ho.below hBp hb3.size)
  have xr4 := xr3.onlyP ho (by omega)
  have xq4 := xq3.onlyP ho (by omega)
  have xg4 := xg.onlyR ho (by omega)
  have hr4 := hrV.only ho hpz
  have hz3 := ho.size
  clear hb3 ho hk3 xr3 xq3 hrV xg
  have bp := boxPt_new w3 29 p
  have hbV := below_new2'' w3 (.cells #[.int .i64 p.kd, .int .i64 p.wh, .int .i64 p.sr, .int .i64 p.tr, .int .i64 p.pi, .int .i64 p.le, .int .i64 p.zo] 29)
  have oV : Only W.heap.size w3 (w3.alloc (.cells #[.int .i64 p.kd, .int .i64 p.wh, .int .i64 p.sr, .int .i64 p.tr, .int .i64 p.pi, .int .i64 p.le, .int .i64 p.zo] 29)) := (Only.refl _ w3).alloc _
  generalize hV : w3.alloc (.cells #[.int .i64 p.kd, .int .i64 p.wh, .int .i64 p.sr, .int .i64 p.tr, .int .i64 p.pi, .int .i64 p.le, .int .i64 p.zo] 29) = V3 at bp hbV oV
  have hr5 := hr4.only oV hpz
  have hb5 := below_app hb4 hbV hb4.size
  have xr5 := xr4.grew hbV
  have xq5 := xq4.grew hbV
  have xg5 := xg4.grew hbV
  have hk5 : Cur V3 W.heap.size a len cap := hk4.same (hbV.block _ hk4.1) hbV.size
  have hlp : w3.heap.size < V3.heap.size := bp.lt
  clear hb4 hbV xr4 xq4 hk4 oV hr4 xg4
  obtain ⟨X0, X1, X2, X3⟩ := HXS.out V3 xg5
  go_wp2_with fail
  clear hV X0 X1 X2 X3 HXS
  refine (l7Any_any W.heap.size a len cap s _ (hc.below hb5) hBp hk5 han hr5 hpz).mono ?_
  rintro e w4 ⟨q, hq, rfl, ho, hk6⟩
  have hb6 := hb5.trans (ho.below hBp hb5.size)
  have xr6 := xr5.onlyP ho (by omega)
  have xq6 := xq5.onlyP ho (by omega)
  have bp6 := bp.onlyP ho (by omega)
  have hz4 := ho.size
  clear hb5 ho hk5 xr5 xq5 hr5 xg5 bp han
  have bq := boxPt_new w4 29 q
  have hbV := below_new2'' w4 (.cells #[.int .i64 q.kd, .int .i64 q.wh, .int .i64 q.sr, .int .i64 q.tr, .int .i64 q.pi, .int .i64 q.le, .int .i64 q.zo] 29)
  generalize hV : w4.alloc (.cells #[.int .i64 q.kd, .int .i64 q.wh, .int .i64 q.sr, .int .i64 q.tr, .int .i64 q.pi, .int .i64 q.le, .int .i64 q.zo] 29) = V4 at bq hbV
  have hb7 := below_app hb6 hbV hb6.size
  have xr7 := xr6.grew hbV
  have xq7 := xq6.grew hbV
  have bp7 := bp6.grew hbV
  have hk7 : Cur V4 W.heap.size a len cap := hk6.same (hbV.block _ hk6.1) hbV.size
  clear hb6 hbV xr6 xq6 hk6 bp6
  go_wp2_with fail
  clear hV
  refine (l1Once_any W.heap.size a len cap _ _ (hc.below hb7) hBp hk7).mono ?_
  rintro e V5 ⟨bb, rfl, ho, hk8⟩
  have hb8 := hb7.trans (ho.below hBp hb7.size)
  have xr8 := xr7.onlyP ho (by omega)
  have xq8 := xq7.onlyP ho (by omega)
  have bp8 := bp7.onlyP ho (by omega)
  have bq8 := bq.onlyP ho (by omega)
  clear hb7 ho hk7 xr7 xq7 bp7 bq
  obtain ⟨g, hg⟩ : ∃ g, w3.heap.size = g := ⟨_, rfl⟩
  obtain ⟨k, hkk⟩ : ∃ k, w4.heap.size = k := ⟨_, rfl⟩
  rw [hg] at bp8 ⊢
  rw [hkk] at bq8 ⊢
  have hgk : w.heap.size + 1 < g ∧ g < k ∧ W.heap.size < g := by omega
  obtain ⟨hg1, hg2, hg3⟩ := hgk
  clear hg hkk hz3 hz4 hlp hlg hz12
  go_upto_if 19 with fail
  go_cut [] (fun wc => ∃ q : Pt, q.wf ∧ Below w.heap.size w wc ∧ BoxPt wc w.heap.size 29 ⟨0, 0, 0, 0, 0, 0, 0⟩ ∧ BoxPt wc (w.heap.size + 1) 29 ⟨0, 0, 0, 0, 0, 0, 0⟩ ∧ BoxPt wc g 29 p ∧ BoxPt wc k 29 q)
  case first =>
    cases bb with
    | false =>
      go_wp2_with fail
      go_meet
      case rel => exact ⟨q, hq, hb8, xr8, xq8, bp8, bq8⟩
    | true =>
      obtain ⟨k0, k1, k2, k3, k4, k5, k6⟩ : CellsPt _ _ _ := bp8.cells
      have hb9 := below_setRow hb8 (by omega : w.heap.size ≤ k) #[.int .i64 p.kd, .int .i64 p.wh, .int .i64 p.sr, .int .i64 p.tr, .int .i64 p.pi, .int .i64 p.le, .int .i64 p.zo]
      have xr9 := xr8.old (cs := #[.int .i64 p.kd, .int .i64 p.wh, .int .i64 p.sr, .int .i64 p.tr, .int .i64 p.pi, .int .i64 p.le, .int .i64 p.zo]) (q := k) (by omega)
      have xq9 := xq8.old (cs := #[.int .i64 p.kd, .int .i64 p.wh, .int .i64 p.sr, .int .i64 p.tr, .int .i64 p.pi, .int .i64 p.le, .int .i64 p.zo]) (q := k) (by omega)
      have bp9 := bp8.old (cs := #[.int .i64 p.kd, .int .i64 p.wh, .int .i64 p.sr, .int .i64 p.tr, .int .i64 p.pi, .int .i64 p.le, .int .i64 p.zo]) (q := k) (by omega)
      have bq9 : BoxPt (V5.setRow k #[.int .i64 p.kd, .int .i64 p.wh, .int .i64 p.sr, .int .i64 p.tr, .int .i64 p.pi, .int .i64 p.le, .int .i64 p.zo]) k 29 p := bq8.newRow
      have hkpz : W.heap.size < k := by omega
      have hk9 : Cur (V5.setRow k #[.int .i64 p.kd, .int .i64 p.wh, .int .i64 p.sr, .int .i64 p.tr, .int .i64 p.pi, .int .i64 p.le, .int .i64 p.zo]) W.heap.size a len cap := hk8.setRow hkpz _
      go_wp2_with (refine wpList_store_row rfl 29 (.tmp 7) _ rfl k _ (by rfl) (by rfl) _ _ bq8 (by kernel_rfl) (by rfl) (by simp [Value.oneCell']) ?_)
      generalize V5.setRow k #[.int .i64 p.kd, .int .i64 p.wh, .int .i64 p.sr, .int .i64 p.tr, .int .i64 p.pi, .int .i64 p.le, .int .i64 p.zo] = V6 at hb9 xr9 xq9 bp9 bq9 hk9 ⊢
      clear hk8 hb8 xr8 xq8 bp8 bq8 k0 k1 k2 k3 k4 k5 k6
      refine (l1Below_any W.heap.size a len cap _ _ (hc.below hb9) hBp hk9).mono ?_
      rintro e V7 ⟨x, n0_, n1_, rfl, ho, hk10⟩
      clear n0_ n1_
      have hb10 := hb9.trans (ho.below hBp hb9.size)
      have xr10 := xr9.onlyP ho (by omega)
      have xq10 := xq9.onlyP ho (by omega)
      have bp10 := bp9.onlyP ho (by omega)
      have bq10 := bq9.onlyP ho (by omega)
      clear hb9 ho hk9 xr9 xq9 bp9 bq9
      have kp := pt_at hp
      cases t0 : (x == 0)
      case true =>
        have kj : V7.cell? ⟨k, 1, none⟩ = some (.int .i64 p.wh) := bq10.cells.2.1
        have fj := bq10.froz 1
        have i_0 : inI64 0 := by unfold inI64; omega
        go_wp2_with fail
        go_meet
        case rel => exact ⟨{ p with wh := 0 }, pt_wf kp.1 i_0 kp.2.2.1 kp.2.2.2.1 kp.2.2.2.2.1 kp.2.2.2.2.2.1 kp.2.2.2.2.2.2, hb10.setCell (p := ⟨k, 1, none⟩) (by show w.heap.size ≤ k; omega) _, xr10.other (by show w.heap.size ≠ k; omega) _, xq10.other (by show w.heap.size + 1 ≠ k; omega) _, bp10.other (by show g ≠ k; omega) _, bq10.put 1 _ rfl⟩
      case false =>
        cases t1 : (x == 1)
        case true =>
          have kj : V7.cell? ⟨k, 2, none⟩ = some (.int .i64 p.sr) := bq10.cells.2.2.1
          have fj := bq10.froz 2
          have i_0 : inI64 0 := by unfold inI64; omega
          go_wp2_with fail
          go_meet
          case rel => exact ⟨{ p with sr := 0 }, pt_wf kp.1 kp.2.1 i_0 kp.2.2.2.1 kp.2.2.2.2.1 kp.2.2.2.2.2.1 kp.2.2.2.2.2.2, hb10.setCell (p := ⟨k, 2, none⟩) (by show w.heap.size ≤ k; omega) _, xr10.other (by show w.heap.size ≠ k; omega) _, xq10.other (by show w.heap.size + 1 ≠ k; omega) _, bp10.other (by show g ≠ k; omega) _, bq10.put 2 _ rfl⟩
        case false =>
          cases t2 : (x == 2)
          case true =>
            have kj : V7.cell? ⟨k, 4, none⟩ = some (.int .i64 p.pi) := bq10.cells.2.2.2.2.1
            have fj := bq10.froz 4
            have i_0 : inI64 0 := by unfold inI64; omega
            go_wp2_with fail
            go_meet
            case rel => exact ⟨{ p with pi := 0 }, pt_wf kp.1 kp.2.1 kp.2.2.1 kp.2.2.2.1 i_0 kp.2.2.2.2.2.1 kp.2.2.2.2.2.2, hb10.setCell (p := ⟨k, 4, none⟩) (by show w.heap.size ≤ k; omega) _, xr10.other (by show w.heap.size ≠ k; omega) _, xq10.other (by show w.heap.size + 1 ≠ k; omega) _, bp10.other (by show g ≠ k; omega) _, bq10.put 4 _ rfl⟩
          case false =>
            cases t3 : (x == 3)
            case true =>
              have kj : V7.cell? ⟨k, 5, none⟩ = some (.int .i64 p.le) := bq10.cells.2.2.2.2.2.1
              have fj := bq10.froz 5
              have i_0 : inI64 0 := by unfold inI64; omega
              go_wp2_with fail
              go_meet
              case rel => exact ⟨{ p with le := 0 }, pt_wf kp.1 kp.2.1 kp.2.2.1 kp.2.2.2.1 kp.2.2.2.2.1 i_0 kp.2.2.2.2.2.2, hb10.setCell (p := ⟨k, 5, none⟩) (by show w.heap.size ≤ k; omega) _, xr10.other (by show w.heap.size ≠ k; omega) _, xq10.other (by show w.heap.size + 1 ≠ k; omega) _, bp10.other (by show g ≠ k; omega) _, bq10.put 5 _ rfl⟩
            case false =>
              go_wp2_with fail
              go_meet
              case rel => exact ⟨p, hp, hb10, xr10, xq10, bp10, bq10⟩
  case rest =>
    obtain ⟨q, hq, hbN, xrN, xqN, bpN, bqN⟩ := hcut
    clear xr8 xq8 bp8 bq8 hb8 hk8
    go_wp2_with fail
    refine wp_region_held_drew (S := fun u : World => BoxPt u g 29 p ∧ BoxPt u k 29 q) (by kernel_rfl) ⟨bpN, bqN⟩ (fun hHeld => ?_)
    refine wpAnyH_take (i := 0) (oi := ⟨some 35, .load 29 (.tmp 6), 29, _, _, none⟩) (v := (.agg #[.int .i64 p.kd, .int .i64 p.wh, .int .i64 p.sr, .int .i64 p.tr, .int .i64 p.pi, .int .i64 p.le, .int .i64 p.zo])) rfl (by kernel_rfl) (by kernel_rfl) (by kernel_rfl) (fun _ _ _ h => h) (Or.inl ⟨by rfl, fun u hSu => by obtain ⟨k0, k1, k2, k3, k4, k5, k6⟩ : CellsPt _ _ _ := hSu.1.cells; clear hSu; go_simp⟩) hHeld ?_
    try simp only [Act.put, List.setIfInBounds_toArray, List.set_cons_zero, List.set_cons_succ]
    refine wpAnyH_take (i := 1) (oi := ⟨some 36, .load 29 (.tmp 7), 29, _, _, none⟩) (v := (.agg #[.int .i64 q.kd, .int .i64 q.wh, .int .i64 q.sr, .int .i64 q.tr, .int .i64 q.pi, .int .i64 q.le, .int .i64 q.zo])) rfl (by kernel_rfl) (by kernel_rfl) (by kernel_rfl) (fun _ _ _ h => h) (Or.inl ⟨by rfl, fun u hSu => by obtain ⟨k0, k1, k2, k3, k4, k5, k6⟩ : CellsPt _ _ _ := hSu.2.cells; clear hSu; go_simp⟩) hHeld ?_
    try simp only [Act.put, List.setIfInBounds_toArray, List.set_cons_zero, List.set_cons_succ]
    refine wpAnyH_ready (rs := [2]) (by kernel_rfl) (by simp) ?_
    refine AllReadyH.cons rfl (fun K' hK => ?_) AllReadyH.nil
    · skip
      have z1 := bpN.old (cs := #[.int .i64 p.kd, .int .i64 p.wh, .int .i64 p.sr, .int .i64 p.tr, .int .i64 p.pi, .int .i64 p.le, .int .i64 p.zo]) (q := w.heap.size) (by omega)
      have z2 := bqN.old (cs := #[.int .i64 p.kd, .int .i64 p.wh, .int .i64 p.sr, .int .i64 p.tr, .int .i64 p.pi, .int .i64 p.le, .int .i64 p.zo]) (q := w.heap.size) (by omega)
      have z3 := below_setRow hbN.drew (by omega : w.heap.size ≤ w.heap.size) #[.int .i64 p.kd, .int .i64 p.wh, .int .i64 p.sr, .int .i64 p.tr, .int .i64 p.pi, .int .i64 p.le, .int .i64 p.zo]
      have z4 := xrN.newRow (y := p)
      have z5 := xqN.old (cs := #[.int .i64 p.kd, .int .i64 p.wh, .int .i64 p.sr, .int .i64 p.tr, .int .i64 p.pi, .int .i64 p.le, .int .i64 p.zo]) (q := w.heap.size) (by omega)
      rw [if_pos (by rfl)]
      refine wp_store_row 29 (.tmp 2) (.tmp 35) rfl (w.heap.size) #[.int .i64 p.kd, .int .i64 p.wh, .int .i64 p.sr, .int .i64 p.tr, .int .i64 p.pi, .int .i64 p.le, .int .i64 p.zo] (by first | rfl | simp [Act.eval]) rfl _ _ xrN (by kernel_rfl) (by rfl) (by simp [Value.oneCell']) ?_
      refine hK.out _ _ ⟨z1, z2⟩ (fun hHeld => ?_)
      clear hK
      try simp only [Act.put, List.setIfInBounds_toArray, List.set_cons_zero, List.set_cons_succ]
      refine wpAnyH_ready (rs := [3]) (by kernel_rfl) (by simp) ?_
      refine AllReadyH.cons rfl (fun K' hK => ?_) AllReadyH.nil
      have q1 := z1.old (cs := #[.int .i64 q.kd, .int .i64 q.wh, .int .i64 q.sr, .int .i64 q.tr, .int .i64 q.pi, .int .i64 q.le, .int .i64 q.zo]) (q := w.heap.size + 1) (by omega)
      have q2 := z2.old (cs := #[.int .i64 q.kd, .int .i64 q.wh, .int .i64 q.sr, .int .i64 q.tr, .int .i64 q.pi, .int .i64 q.le, .int .i64 q.zo]) (q := w.heap.size + 1) (by omega)
      have q3 := below_setRow z3 (by omega : w.heap.size ≤ w.heap.size + 1) #[.int .i64 q.kd, .int .i64 q.wh, .int .i64 q.sr, .int .i64 q.tr, .int .i64 q.pi, .int .i64 q.le, .int .i64 q.zo]
      have q4 := z5.newRow (y := q)
      have q5 := z4.old (cs := #[.int .i64 q.kd, .int .i64 q.wh, .int .i64 q.sr, .int .i64 q.tr, .int .i64 q.pi, .int .i64 q.le, .int .i64 q.zo]) (q := w.heap.size + 1) (by omega)
      rw [if_pos (by rfl)]
      refine wp_store_row 29 (.tmp 3) (.tmp 36) rfl (w.heap.size + 1) #[.int .i64 q.kd, .int .i64 q.wh, .int .i64 q.sr, .int .i64 q.tr, .int .i64 q.pi, .int .i64 q.le, .int .i64 q.zo] (by first | rfl | simp [Act.eval]) rfl _ _ z5 (by kernel_rfl) (by rfl) (by simp [Value.oneCell']) ?_
      refine hK.out _ _ ⟨q1, q2⟩ (fun hHeld => ?_)
      clear hK
      try simp only [Act.put, List.setIfInBounds_toArray, List.set_cons_zero, List.set_cons_succ]
      refine wpAnyH_done (by kernel_rfl) ?_ _
      try simp only [Act.put, List.setIfInBounds_toArray, List.set_cons_zero, List.set_cons_succ]
      clear hHeld
      go_wp2
      (try simp only [Exit.inBlock, Exit.then]); refine bodyPost_ret (results_two rfl _ _ w.heap.size (w.heap.size + 1) _ _ _ _ _ _ _ _ rfl q5 Try.underlying29 rfl (by kernel_rfl) rfl q4 Try.underlying29 rfl (by kernel_rfl)) rfl ?_
      exact ⟨p, q, hp, hq, rfl, q3⟩
end Go.Proofs.Ytpfddfkjmbnpaac
