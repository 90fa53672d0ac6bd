/-
  Chapter 5: the draws DrawPieceAt, DrawOnField, DrawStateNew, DrawSetPiece. Written by tools/drawt6.gen.py. Own work.
-/
import Derived.Test.YtnlnledijpcjpabDrawTD
namespace Go.Proofs.Ytnlnledijpcjpab
open Go.ChangeShapes Go.WideShapes Go.ChangeAt Go.RowKit
set_option maxRecDepth 100000
set_option linter.unusedVariables false
set_option linter.unusedSimpArgs false
theorem RowsT.setOld {w : World} {B g j : Nat} {s : Stt} (h : RowsT w B s) (hg : g < B) (v : Value) : RowsT (w.setCell ⟨g, j, none⟩ v) B s :=
  h.same (fun q h1 _ _ => Below.heap_setCell w _ v q (by show q ≠ g; omega))
theorem results_rowD {P : Program} {fn : Func} {p : Tmp} {u : Tmp} {ty : TypeId} (h : fn.results = #[.cell p ty, .tmp u]) (tmps : Array Value) (w : World) (g : Nat) (t : TypeId) (cs : Array Value) (fr : Nat × Nat) (d : TypeDesc)
    (hp : tmps.getD p undef = .pointer (some ⟨g, 0, none⟩)) (hg : w.heap[g]? = some (.cells cs t fr))
    (hu : P.underlying ty = some d) (hd : (match d with | .struct _ | .array _ _ => true | _ => false) = true) (hi : (P.info? ty).map (·.size) = some cs.size) :
    (results fn tmps).run P w = .ok (.tuple #[.agg cs, tmps.getD u undef]) w := by
  have hp' : tmps[p]?.getD undef = .pointer (some ⟨g, 0, none⟩) := by simpa using hp
  simp [results, h, hp', asAddr, run_loadVar_row w g t ty cs fr d hg hu hd hi]
theorem results_rowE {P : Program} {fn : Func} {p q : Tmp} {ty ty2 : TypeId} (h : fn.results = #[.cell p ty, .cell q ty2]) (tmps : Array Value) (w : World) (g g2 : Nat) (t t2 : TypeId) (cs cs2 : Array Value) (fr fr2 : Nat × Nat) (d d2 : TypeDesc)
    (hp : tmps.getD p undef = .pointer (some ⟨g, 0, none⟩)) (hg : w.heap[g]? = some (.cells cs t fr))
    (hu : P.underlying ty = some d) (hd : (match d with | .struct _ | .array _ _ => true | _ => false) = true) (hi : (P.info? ty).map (·.size) = some cs.size)
    (hp2 : tmps.getD q undef = .pointer (some ⟨g2, 0, none⟩)) (hg2 : w.heap[g2]? = some (.cells cs2 t2 fr2))
    (hu2 : P.underlying ty2 = some d2) (hd2 : (match d2 with | .struct _ | .array _ _ => true | _ => false) = true) (hi2 : (P.info? ty2).map (·.size) = some cs2.size) :
    (results fn tmps).run P w = .ok (.tuple #[.agg cs, .agg cs2]) w := by
  have hp' : tmps[p]?.getD undef = .pointer (some ⟨g, 0, none⟩) := by simpa using hp
  have hp2' : tmps[q]?.getD undef = .pointer (some ⟨g2, 0, none⟩) := by simpa using hp2
  simp [results, h, hp', hp2', asAddr, run_loadVar_row w g t ty cs fr d hg hu hd hi, run_loadVar_row w g2 t2 ty2 cs2 fr2 d2 hg2 hu2 hd2 hi2]
set_option maxHeartbeats 1000000 in
theorem drawPieceAt_any (a : Option Addr) (len cap : Nat) (w : World) (hc : Code w a len w.heap.size) :
    Calls Try.prog 64 #[.slice a len cap] w fun e w' => ∃ (s : Stt) (x : Int), anS s ∧ inI64 x ∧ e = .returned (.tuple #[(.agg #[.slice s.pa s.pn s.pcap, .slice s.sa s.sn s.scap, .int .i64 s.ac, .int .i64 s.cl]), .int .i64 x]) ∧ Below w.heap.size w w' ∧ OwnT w' w.heap.size s ∧ FullT s := by
  have hb0 := (Below.refl _ w).alloc (Nat.le_refl _) (.cells #[.slice none 0 0, .slice none 0 0, .int .i64 0, .int .i64 0] 56)
  have xr := boxR_new w 56 #[.slice none 0 0, .slice none 0 0, .int .i64 0, .int .i64 0]
  generalize hW : w.alloc (.cells #[.slice none 0 0, .slice none 0 0, .int .i64 0, .int .i64 0] 56) = W at hb0 xr
  have hrz : w.heap.size < W.heap.size := xr.lt
  go_enter Try.func64, Try.ntmps64
  go_wp2_with fail
  clear hW
  refine (l1New_any a len cap _ (hc.below hb0)).mono ?_
  rintro e w1 ⟨h, rfl, hw⟩
  have hb : Below w.heap.size w w1 := by rw [hw]; exact hb0.alloc hb0.size _
  have hk : Cur w1 W.heap.size a len cap := by rw [hw]; exact Cur.made W a len cap h _
  have xr1 : BoxR w1 w.heap.size 56 #[.slice none 0 0, .slice none 0 0, .int .i64 0, .int .i64 0] := by rw [hw]; exact xr.alloc _
  have hBp : w.heap.size ≤ W.heap.size := Nat.le_of_lt hrz
  have hpz : W.heap.size < w1.heap.size := hk.1
  clear hw xr
  go_wp2_with fail
  refine (l5Any_any W.heap.size a len cap _ (hc.below hb) hBp hk).mono ?_
  rintro e w2 ⟨s, hs, rfl, ho, hk2, hrw⟩
  have hb2 := hb.trans (ho.below hBp hb.size)
  have xr2 := xr1.onlyR ho (by omega)
  have hsz := hb.size
  have HPN : Hid (s.pn ≠ 0) := by have := hs.pn; show s.pn ≠ 0; omega
  have HSN : Hid (s.sn ≠ 0) := by have := hs.sn; show s.sn ≠ 0; omega
  clear hb ho hk xr1
  go_wp2_with fail
  refine (l1Below_any W.heap.size a len cap _ _ (hc.below hb2) hBp hk2).mono ?_
  rintro e w3 ⟨x, hx0, hx1, rfl, ho, hk3⟩
  have hb3 := hb2.trans (ho.below hBp hb2.size)
  have xr3 := xr2.onlyR ho (by omega)
  have hrw3 := hrw.only ho hpz
  have HX : Hid (inI64 x) := ⟨by have := hx1 (by omega); omega, by have := hx1 (by omega); omega⟩
  clear hb2 ho hk2 xr2 hrw
  go_wp2_with (refine wpList_store_row rfl 56 (.tmp 2) _ rfl w.heap.size _ (by rfl) (by rfl) _ _ xr3 (by kernel_rfl) (by rfl) (by simp [Value.oneCell']) ?_)
  (try simp only [Exit.inBlock, Exit.then]); refine bodyPost_ret (results_rowD rfl _ _ w.heap.size _ _ _ _ rfl (setRow_heap _ _ _ _ _ _ xr3) Try.underlying56 rfl (by kernel_rfl)) rfl ?_
  obtain ⟨pb, sb, oT, fT⟩ := ((hrw3.setRow xr3 _).down hsz).own HPN.out HSN.out
  exact ⟨{ s with pb := pb, sb := sb }, x, hs.as pb sb, HX.out, rfl, below_setRow hb3 (Nat.le_refl _) _, oT, fT⟩
set_option maxHeartbeats 1000000 in
theorem drawOnField_any (a : Option Addr) (len cap : Nat) (w : World) (hc : Code w a len w.heap.size) :
    Calls Try.prog 48 #[.slice a len cap] w fun e w' => ∃ (s : Stt) (x : Int), anS s ∧ inI64 x ∧ e = .returned (.tuple #[(.agg #[.slice s.pa s.pn s.pcap, .slice s.sa s.sn s.scap, .int .i64 s.ac, .int .i64 s.cl]), .int .i64 x]) ∧ Below w.heap.size w w' ∧ OwnT w' w.heap.size s ∧ FullT s := by
  have hb0 := (Below.refl _ w).alloc (Nat.le_refl _) (.cells #[.slice none 0 0, .slice none 0 0, .int .i64 0, .int .i64 0] 56)
  have xr := boxR_new w 56 #[.slice none 0 0, .slice none 0 0, .int .i64 0, .int .i64 0]
  generalize hW : w.alloc (.cells #[.slice none 0 0, .slice none 0 0, .int .i64 0, .int .i64 0] 56) = W at hb0 xr
  have hrz : w.heap.size < W.heap.size := xr.lt
  go_enter Try.func48, Try.ntmps48
  go_wp2_with fail
  clear hW
  refine (l1New_any a len cap _ (hc.below hb0)).mono ?_
  rintro e w1 ⟨h, rfl, hw⟩
  have hb : Below w.heap.size w w1 := by rw [hw]; exact hb0.alloc hb0.size _
  have hk : Cur w1 W.heap.size a len cap := by rw [hw]; exact Cur.made W a len cap h _
  have xr1 : BoxR w1 w.heap.size 56 #[.slice none 0 0, .slice none 0 0, .int .i64 0, .int .i64 0] := by rw [hw]; exact xr.alloc _
  have hBp : w.heap.size ≤ W.heap.size := Nat.le_of_lt hrz
  have hpz : W.heap.size < w1.heap.size := hk.1
  clear hw xr
  go_wp2_with fail
  refine (l5Any_any W.heap.size a len cap _ (hc.below hb) hBp hk).mono ?_
  rintro e w2 ⟨s, hs, rfl, ho, hk2, hrw⟩
  have hb2 := hb.trans (ho.below hBp hb.size)
  have xr2 := xr1.onlyR ho (by omega)
  have hsz := hb.size
  have HPN : Hid (s.pn ≠ 0) := by have := hs.pn; show s.pn ≠ 0; omega
  have HSN : Hid (s.sn ≠ 0) := by have := hs.sn; show s.sn ≠ 0; omega
  clear hb ho hk xr1
  go_wp2_with fail
  refine (l1Int_new W.heap.size a len cap [-1, 0, 1, 2] 3 _ (hc.below hb2) hBp hk2 (by decide) (by decide)).mono ?_
  rintro e w3 ⟨x, hx, rfl, ho, hk3⟩
  have hb3 := hb2.trans (ho.below hBp hb2.size)
  have xr3 := xr2.onlyR ho (by omega)
  have hrw3 := hrw.only ho hpz
  have HX : Hid (inI64 x) := list_in _ (by decide) x hx
  clear hb2 ho hk2 xr2 hrw
  go_wp2_with (refine wpList_store_row rfl 56 (.tmp 2) _ rfl w.heap.size _ (by rfl) (by rfl) _ _ xr3 (by kernel_rfl) (by rfl) (by simp [Value.oneCell']) ?_)
  (try simp only [Exit.inBlock, Exit.then]); refine bodyPost_ret (results_rowD rfl _ _ w.heap.size _ _ _ _ rfl (setRow_heap _ _ _ _ _ _ xr3) Try.underlying56 rfl (by kernel_rfl)) rfl ?_
  obtain ⟨pb, sb, oT, fT⟩ := ((hrw3.setRow xr3 _).down hsz).own HPN.out HSN.out
  exact ⟨{ s with pb := pb, sb := sb }, x, hs.as pb sb, HX.out, rfl, below_setRow hb3 (Nat.le_refl _) _, oT, fT⟩
theorem drawStateNew_any (a : Option Addr) (len cap : Nat) (w : World) (hc : Code w a len w.heap.size) :
    Calls Try.prog 46 #[.slice a len cap] w fun e w' => ∃ x : Int, inI64 x ∧ e = .returned (.int .i64 x) ∧ Below w.heap.size w w' := by
  go_enter Try.func46, Try.ntmps46
  go_wp2_with fail
  refine (l1New_any a len cap _ hc).mono ?_
  rintro e w1 ⟨h, rfl, hw⟩
  have hb : Below w.heap.size w w1 := by rw [hw]; exact (Below.refl _ _).alloc (Nat.le_refl _) _
  have hk : Cur w1 w.heap.size a len cap := by rw [hw]; exact Cur.made w a len cap h _
  clear hw
  go_wp2_with fail
  refine (l1Int_new w.heap.size a len cap [2, 3, 1, 4, -1] 3 _ (hc.below hb) (Nat.le_refl _) hk (by decide) (by decide)).mono ?_
  rintro e w2 ⟨x, hx, rfl, ho, hk2⟩
  have hb2 := hb.trans (ho.below (Nat.le_refl _) hb.size)
  have HX : Hid (inI64 x) := list_in _ (by decide) x hx
  clear hx
  go_wp2
  go_ret
  exact ⟨x, HX.out, rfl, hb2⟩
set_option maxHeartbeats 2000000 in
theorem drawSetPiece_any (a : Option Addr) (len cap : Nat) (w : World) (hc : Code w a len w.heap.size) :
    Calls Try.prog 61 #[.slice a len cap] w fun e w' => ∃ (s : Stt) (x : Pc), anS s ∧ x.wf ∧ e = .returned (.tuple #[(.agg #[.slice s.pa s.pn s.pcap, .slice s.sa s.sn s.scap, .int .i64 s.ac, .int .i64 s.cl]), (.agg #[.int .i64 x.id, .int .i64 x.ow, .int .i64 x.si, .int .i64 x.zo, .int .i64 x.st, .int .i64 x.po, .int .i64 x.to, .int .i64 x.tr, .int .i64 x.pl, .int .i64 x.mi, .int .i64 x.ma, .bool x.de, .bool x.be])]) ∧ Below w.heap.size w w' ∧ OwnT w' w.heap.size s ∧ FullT s := by
  have hb0 := ((Below.refl _ w).alloc (Nat.le_refl _) (.cells #[.slice none 0 0, .slice none 0 0, .int .i64 0, .int .i64 0] 56)).alloc (by simp) (.cells #[.int .i64 0, .int .i64 0, .int .i64 0, .int .i64 0, .int .i64 0, .int .i64 0, .int .i64 0, .int .i64 0, .int .i64 0, .int .i64 0, .int .i64 0, .bool false, .bool false] 31)
  have xr := (boxR_new w 56 #[.slice none 0 0, .slice none 0 0, .int .i64 0, .int .i64 0]).alloc (.cells #[.int .i64 0, .int .i64 0, .int .i64 0, .int .i64 0, .int .i64 0, .int .i64 0, .int .i64 0, .int .i64 0, .int .i64 0, .int .i64 0, .int .i64 0, .bool false, .bool false] 31)
  have xq : BoxR ((w.alloc (.cells #[.slice none 0 0, .slice none 0 0, .int .i64 0, .int .i64 0] 56)).alloc (.cells #[.int .i64 0, .int .i64 0, .int .i64 0, .int .i64 0, .int .i64 0, .int .i64 0, .int .i64 0, .int .i64 0, .int .i64 0, .int .i64 0, .int .i64 0, .bool false, .bool false] 31)) (w.heap.size + 1) 31 #[.int .i64 0, .int .i64 0, .int .i64 0, .int .i64 0, .int .i64 0, .int .i64 0, .int .i64 0, .int .i64 0, .int .i64 0, .int .i64 0, .int .i64 0, .bool false, .bool false] := heap_alloc2_new _ _ _
  generalize hW : (w.alloc (.cells #[.slice none 0 0, .slice none 0 0, .int .i64 0, .int .i64 0] 56)).alloc (.cells #[.int .i64 0, .int .i64 0, .int .i64 0, .int .i64 0, .int .i64 0, .int .i64 0, .int .i64 0, .int .i64 0, .int .i64 0, .int .i64 0, .int .i64 0, .bool false, .bool false] 31) = W at hb0 xr xq
  have hrz : w.heap.size + 1 < W.heap.size := xq.lt
  go_enter Try.func61, Try.ntmps61
  go_wp2_with fail
  clear hW
  refine (l1New_any a len cap _ (hc.below hb0)).mono ?_
  rintro e w1 ⟨h, rfl, hw⟩
  have hb : Below w.heap.size w w1 := by rw [hw]; exact hb0.alloc hb0.size _
  have hk : Cur w1 W.heap.size a len cap := by rw [hw]; exact Cur.made W a len cap h _
  have xr1 : BoxR w1 w.heap.size 56 #[.slice none 0 0, .slice none 0 0, .int .i64 0, .int .i64 0] := by rw [hw]; exact xr.alloc _
  have xq1 : BoxR w1 (w.heap.size + 1) 31 #[.int .i64 0, .int .i64 0, .int .i64 0, .int .i64 0, .int .i64 0, .int .i64 0, .int .i64 0, .int .i64 0, .int .i64 0, .int .i64 0, .int .i64 0, .bool false, .bool false] := by rw [hw]; exact xq.alloc _
  have hBp : w.heap.size ≤ W.heap.size := by omega
  have hpz : W.heap.size < w1.heap.size := hk.1
  clear hw xr xq
  go_wp2_with fail
  refine (l5Any_any W.heap.size a len cap _ (hc.below hb) hBp hk).mono ?_
  rintro e w2 ⟨s, hs, rfl, ho, hk2, hrw⟩
  have hb2 := hb.trans (ho.below hBp hb.size)
  have xr2 := xr1.onlyR ho (by omega)
  have xq2 := xq1.onlyR ho (by omega)
  have hsz := hb.size
  have HPN : Hid (s.pn ≠ 0) := by have := hs.pn; show s.pn ≠ 0; omega
  have HSN : Hid (s.sn ≠ 0) := by have := hs.sn; show s.sn ≠ 0; omega
  clear hb ho hk xr1 xq1
  have xg := boxR_new w2 56 #[.slice s.pa s.pn s.pcap, .slice s.sa s.sn s.scap, .int .i64 s.ac, .int .i64 s.cl]
  have hbV := below_new2'' w2 (.cells #[.slice s.pa s.pn s.pcap, .slice s.sa s.sn s.scap, .int .i64 s.ac, .int .i64 s.cl] 56)
  have hgz : W.heap.size < w2.heap.size := hk2.1
  generalize hV : w2.alloc (.cells #[.slice s.pa s.pn s.pcap, .slice s.sa s.sn s.scap, .int .i64 s.ac, .int .i64 s.cl] 56) = V at xg hbV
  obtain ⟨g, hg⟩ : ∃ g, Hid (w2.heap.size = g) := ⟨w2.heap.size, (rfl : w2.heap.size = w2.heap.size)⟩
  have hb3 := below_app hb2 hbV hb2.size
  have xr3 := xr2.grew hbV
  have xq3 := xq2.grew hbV
  have hrw3 := hrw.grew hbV
  have hk3 : Cur V W.heap.size a len cap := hk2.same (hbV.block _ hk2.1) hbV.size
  clear hb2 hbV xr2 xq2 hrw hk2
  go_wp2_with fail
  clear hV
  rw [hg.out]
  have hgw : W.heap.size < g := by rw [← hg.out]; exact hgz
  rw [hg.out] at xg
  clear hgz hg
  have SK : Hid (∀ u : World, BoxR u g 56 #[.slice s.pa s.pn s.pcap, .slice s.sa s.sn s.scap, .int .i64 s.ac, .int .i64 s.cl] → u.cell? ⟨g, 0, none⟩ = some (.slice s.pa s.pn s.pcap) ∧ u.cell? ⟨g, 1, none⟩ = some (.slice s.sa s.sn s.scap) ∧ u.cell? ⟨g, 2, none⟩ = some (.int .i64 s.ac) ∧ u.cell? ⟨g, 3, none⟩ = some (.int .i64 s.cl)) := fun u h => ⟨h.cell 0, h.cell 1, h.cell 2, h.cell 3⟩
  have hcD : Code V.drew a len w.heap.size := hc.below hb3.drew
  refine wp_region_held_drew (S := fun u : World => u.cell? ⟨g, 0, none⟩ = some (.slice s.pa s.pn s.pcap) ∧ u.cell? ⟨g, 1, none⟩ = some (.slice s.sa s.sn s.scap) ∧ u.cell? ⟨g, 2, none⟩ = some (.int .i64 s.ac) ∧ u.cell? ⟨g, 3, none⟩ = some (.int .i64 s.cl)) (by kernel_rfl) (SK.out V.drew xg) (fun hHeld => ?_)
  refine wpAnyH_take (i := 0) (v := (.agg #[.slice s.pa s.pn s.pcap, .slice s.sa s.sn s.scap, .int .i64 s.ac, .int .i64 s.cl])) rfl (by kernel_rfl) (by kernel_rfl) (by kernel_rfl) (fun _ _ _ h => h) (Or.inl ⟨by rfl, fun u hSu => by (try dsimp only at hSu); go_simp⟩) hHeld ?_
  try simp only [Act.put, List.setIfInBounds_toArray, List.set_cons_zero, List.set_cons_succ]
  refine wpAnyH_take (i := 1) (v := .pointer (some ⟨W.heap.size, 0, none⟩)) rfl (by kernel_rfl) (by kernel_rfl) (by kernel_rfl) (fun _ _ _ h => h) (Or.inl ⟨by rfl, fun u hSu => by (try dsimp only at hSu); go_simp⟩) hHeld ?_
  try simp only [Act.put, List.setIfInBounds_toArray, List.set_cons_zero, List.set_cons_succ]
  refine wpAnyH_ready (rs := [2]) (by kernel_rfl) (by simp) ?_
  refine AllReadyH.cons rfl (fun K' hK => ?_) AllReadyH.nil
  go_simp
  go_at_call 77
  refine (l4Any_wf W.heap.size a len cap V.drew hcD hBp hk3).mono ?_
  rintro e v1 ⟨x, hx, rfl, ho1, hk1⟩
  have hb4 : Below w.heap.size w v1 := hb3.drew.trans (ho1.below hBp hb3.size)
  have xg4 : BoxR v1 g 56 #[.slice s.pa s.pn s.pcap, .slice s.sa s.sn s.scap, .int .i64 s.ac, .int .i64 s.cl] := xg.onlyR (w := V.drew) ho1 (by omega)
  have xr4 : BoxR v1 w.heap.size 56 #[.slice none 0 0, .slice none 0 0, .int .i64 0, .int .i64 0] := BoxR.onlyR (w := V.drew) xr3 ho1 (by omega)
  have xq4 : BoxR v1 (w.heap.size + 1) 31 #[.int .i64 0, .int .i64 0, .int .i64 0, .int .i64 0, .int .i64 0, .int .i64 0, .int .i64 0, .int .i64 0, .int .i64 0, .int .i64 0, .int .i64 0, .bool false, .bool false] := BoxR.onlyR (w := V.drew) xq3 ho1 (by omega)
  have hrw4 : RowsT v1 w1.heap.size s := RowsT.only (w := V.drew) ⟨hrw3.op, hrw3.os⟩ ho1 hpz
  refine hK.out _ _ (SK.out _ xg4) (fun hHeld => ?_)
  clear hK hk1 ho1 hk3 xg xr3 xq3 hb3 hcD hrw3
  try simp only [Act.put, List.setIfInBounds_toArray, List.set_cons_zero, List.set_cons_succ]
  have hta : v1.there w.heap.size 0 4 := fun j hj => by
    refine ⟨?_, xr4.froz _⟩
    rw [Nat.zero_add, xr4.cell j]
    simp [hj]
  have xr5 := ((((xr4.put 0 (.slice s.pa s.pn s.pcap)).put 1 (.slice s.sa s.sn s.scap)).put 2 (.int .i64 s.ac)).put 3 (.int .i64 s.cl))
  have xg5 := (((((xg4.other (q := ⟨w.heap.size, 0, none⟩) (by simp; omega) (.slice s.pa s.pn s.pcap)).other (q := ⟨w.heap.size, 1, none⟩) (by simp; omega) (.slice s.sa s.sn s.scap)).other (q := ⟨w.heap.size, 2, none⟩) (by simp; omega) (.int .i64 s.ac)).other (q := ⟨w.heap.size, 3, none⟩) (by simp; omega) (.int .i64 s.cl)))
  have xq5 := (((((xq4.other (q := ⟨w.heap.size, 0, none⟩) (by simp) (.slice s.pa s.pn s.pcap)).other (q := ⟨w.heap.size, 1, none⟩) (by simp) (.slice s.sa s.sn s.scap)).other (q := ⟨w.heap.size, 2, none⟩) (by simp) (.int .i64 s.ac)).other (q := ⟨w.heap.size, 3, none⟩) (by simp) (.int .i64 s.cl)))
  have hb5 := (((hb4.setCell (p := ⟨w.heap.size, 0, none⟩) (by simp) (.slice s.pa s.pn s.pcap)).setCell (p := ⟨w.heap.size, 1, none⟩) (by simp) (.slice s.sa s.sn s.scap)).setCell (p := ⟨w.heap.size, 2, none⟩) (by simp) (.int .i64 s.ac)).setCell (p := ⟨w.heap.size, 3, none⟩) (by simp) (.int .i64 s.cl)
  have hrw5 := (((hrw4.set (j := 0) xr4 (.slice s.pa s.pn s.pcap)).set (j := 1) (xr4.put 0 _) (.slice s.sa s.sn s.scap)).set (j := 2) ((xr4.put 0 _).put 1 _) (.int .i64 s.ac)).set (j := 3) (((xr4.put 0 _).put 1 _).put 2 _) (.int .i64 s.cl)
  refine wpAnyH_ready (rs := [3]) (by kernel_rfl) (by simp) ?_
  refine AllReadyH.cons rfl (fun K' hK => ?_) AllReadyH.nil
  rw [if_pos (by rfl)]
  refine wp_store_mid 56 (.tmp 2) (.tmp 10) rfl w.heap.size 0 #[.slice s.pa s.pn s.pcap, .slice s.sa s.sn s.scap, .int .i64 s.ac, .int .i64 s.cl] (by first | rfl | simp [Act.eval]) rfl hta (by kernel_rfl) (by simp [Value.oneCell']) ?_
  refine hK.out _ _ (SK.out _ xg5) (fun hHeld => ?_)
  clear hK hta
  try simp only [Act.put, List.setIfInBounds_toArray, List.set_cons_zero, List.set_cons_succ]
  generalize hX5 : (((v1.setCell ⟨w.heap.size, 0, none⟩ (.slice s.pa s.pn s.pcap)).setCell ⟨w.heap.size, 1, none⟩ (.slice s.sa s.sn s.scap)).setCell ⟨w.heap.size, 2, none⟩ (.int .i64 s.ac)).setCell ⟨w.heap.size, 3, none⟩ (.int .i64 s.cl) = X5 at xr5 xg5 xq5 hb5 hrw5
  (first | rw [show v1.setCells w.heap.size 0 (#[.slice s.pa s.pn s.pcap, .slice s.sa s.sn s.scap, .int .i64 s.ac, .int .i64 s.cl] : Array Value).toList = X5 from hX5] at hHeld ⊢ | skip)
  clear hX5 xr4 xg4 xq4 hb4 hrw4
  have htb : X5.there (w.heap.size + 1) 0 13 := fun j hj => by
    refine ⟨?_, xq5.froz _⟩
    rw [Nat.zero_add, xq5.cell j]
    have : j = 0 ∨ j = 1 ∨ j = 2 ∨ j = 3 ∨ j = 4 ∨ j = 5 ∨ j = 6 ∨ j = 7 ∨ j = 8 ∨ j = 9 ∨ j = 10 ∨ j = 11 ∨ j = 12 := by omega
    rcases this with rfl | rfl | rfl | rfl | rfl | rfl | rfl | rfl | rfl | rfl | rfl | rfl | rfl <;> rfl
  have xq6 := ((((((((((((xq5.put 0 (.int .i64 x.id)).put 1 (.int .i64 x.ow)).put 2 (.int .i64 x.si)).put 3 (.int .i64 x.zo)).put 4 (.int .i64 x.st)).put 5 (.int .i64 x.po)).put 6 (.int .i64 x.to)).put 7 (.int .i64 x.tr)).put 8 (.int .i64 x.pl)).put 9 (.int .i64 x.mi)).put 10 (.int .i64 x.ma)).put 11 (.bool x.de)).put 12 (.bool x.be)
  have xr6 := ((((((((((((xr5.other (q := ⟨w.heap.size + 1, 0, none⟩) (by simp) (.int .i64 x.id)).other (q := ⟨w.heap.size + 1, 1, none⟩) (by simp) (.int .i64 x.ow)).other (q := ⟨w.heap.size + 1, 2, none⟩) (by simp) (.int .i64 x.si)).other (q := ⟨w.heap.size + 1, 3, none⟩) (by simp) (.int .i64 x.zo)).other (q := ⟨w.heap.size + 1, 4, none⟩) (by simp) (.int .i64 x.st)).other (q := ⟨w.heap.size + 1, 5, none⟩) (by simp) (.int .i64 x.po)).other (q := ⟨w.heap.size + 1, 6, none⟩) (by simp) (.int .i64 x.to)).other (q := ⟨w.heap.size + 1, 7, none⟩) (by simp) (.int .i64 x.tr)).other (q := ⟨w.heap.size + 1, 8, none⟩) (by simp) (.int .i64 x.pl)).other (q := ⟨w.heap.size + 1, 9, none⟩) (by simp) (.int .i64 x.mi)).other (q := ⟨w.heap.size + 1, 10, none⟩) (by simp) (.int .i64 x.ma)).other (q := ⟨w.heap.size + 1, 11, none⟩) (by simp) (.bool x.de)).other (q := ⟨w.heap.size + 1, 12, none⟩) (by simp) (.bool x.be)
  have xg6 := ((((((((((((xg5.other (q := ⟨w.heap.size + 1, 0, none⟩) (by simp; omega) (.int .i64 x.id)).other (q := ⟨w.heap.size + 1, 1, none⟩) (by simp; omega) (.int .i64 x.ow)).other (q := ⟨w.heap.size + 1, 2, none⟩) (by simp; omega) (.int .i64 x.si)).other (q := ⟨w.heap.size + 1, 3, none⟩) (by simp; omega) (.int .i64 x.zo)).other (q := ⟨w.heap.size + 1, 4, none⟩) (by simp; omega) (.int .i64 x.st)).other (q := ⟨w.heap.size + 1, 5, none⟩) (by simp; omega) (.int .i64 x.po)).other (q := ⟨w.heap.size + 1, 6, none⟩) (by simp; omega) (.int .i64 x.to)).other (q := ⟨w.heap.size + 1, 7, none⟩) (by simp; omega) (.int .i64 x.tr)).other (q := ⟨w.heap.size + 1, 8, none⟩) (by simp; omega) (.int .i64 x.pl)).other (q := ⟨w.heap.size + 1, 9, none⟩) (by simp; omega) (.int .i64 x.mi)).other (q := ⟨w.heap.size + 1, 10, none⟩) (by simp; omega) (.int .i64 x.ma)).other (q := ⟨w.heap.size + 1, 11, none⟩) (by simp; omega) (.bool x.de)).other (q := ⟨w.heap.size + 1, 12, none⟩) (by simp; omega) (.bool x.be)
  have hb6 := ((((((((((((hb5.setCell (p := ⟨w.heap.size + 1, 0, none⟩) (by simp) (.int .i64 x.id)).setCell (p := ⟨w.heap.size + 1, 1, none⟩) (by simp) (.int .i64 x.ow)).setCell (p := ⟨w.heap.size + 1, 2, none⟩) (by simp) (.int .i64 x.si)).setCell (p := ⟨w.heap.size + 1, 3, none⟩) (by simp) (.int .i64 x.zo)).setCell (p := ⟨w.heap.size + 1, 4, none⟩) (by simp) (.int .i64 x.st)).setCell (p := ⟨w.heap.size + 1, 5, none⟩) (by simp) (.int .i64 x.po)).setCell (p := ⟨w.heap.size + 1, 6, none⟩) (by simp) (.int .i64 x.to)).setCell (p := ⟨w.heap.size + 1, 7, none⟩) (by simp) (.int .i64 x.tr)).setCell (p := ⟨w.heap.size + 1, 8, none⟩) (by simp) (.int .i64 x.pl)).setCell (p := ⟨w.heap.size + 1, 9, none⟩) (by simp) (.int .i64 x.mi)).setCell (p := ⟨w.heap.size + 1, 10, none⟩) (by simp) (.int .i64 x.ma)).setCell (p := ⟨w.heap.size + 1, 11, none⟩) (by simp) (.bool x.de)).setCell (p := ⟨w.heap.size + 1, 12, none⟩) (by simp) (.bool x.be)
  have hlw : w.heap.size + 1 < w1.heap.size := by omega
  have hrw6 := ((((((((((((hrw5.setOld (j := 0) (g := w.heap.size + 1) hlw (.int .i64 x.id)).setOld (j := 1) (g := w.heap.size + 1) hlw (.int .i64 x.ow)).setOld (j := 2) (g := w.heap.size + 1) hlw (.int .i64 x.si)).setOld (j := 3) (g := w.heap.size + 1) hlw (.int .i64 x.zo)).setOld (j := 4) (g := w.heap.size + 1) hlw (.int .i64 x.st)).setOld (j := 5) (g := w.heap.size + 1) hlw (.int .i64 x.po)).setOld (j := 6) (g := w.heap.size + 1) hlw (.int .i64 x.to)).setOld (j := 7) (g := w.heap.size + 1) hlw (.int .i64 x.tr)).setOld (j := 8) (g := w.heap.size + 1) hlw (.int .i64 x.pl)).setOld (j := 9) (g := w.heap.size + 1) hlw (.int .i64 x.mi)).setOld (j := 10) (g := w.heap.size + 1) hlw (.int .i64 x.ma)).setOld (j := 11) (g := w.heap.size + 1) hlw (.bool x.de)).setOld (j := 12) (g := w.heap.size + 1) hlw (.bool x.be)
  refine wpAnyH_ready (rs := [4]) (by kernel_rfl) (by simp) ?_
  refine AllReadyH.cons rfl (fun K' hK => ?_) AllReadyH.nil
  rw [if_pos (by rfl)]
  refine wp_store_mid 31 (.tmp 3) (.tmp 12) rfl (w.heap.size + 1) 0 #[.int .i64 x.id, .int .i64 x.ow, .int .i64 x.si, .int .i64 x.zo, .int .i64 x.st, .int .i64 x.po, .int .i64 x.to, .int .i64 x.tr, .int .i64 x.pl, .int .i64 x.mi, .int .i64 x.ma, .bool x.de, .bool x.be] (by first | rfl | simp [Act.eval]) rfl htb (by kernel_rfl) (by simp [Value.oneCell']) ?_
  refine hK.out _ _ (SK.out _ xg6) (fun hHeld => ?_)
  clear hK htb
  refine wpAnyH_done (by kernel_rfl) ?_ _
  try simp only [Act.put, List.setIfInBounds_toArray, List.set_cons_zero, List.set_cons_succ]
  clear hHeld SK
  generalize hX6 : ((((((((((((X5.setCell ⟨w.heap.size + 1, 0, none⟩ (.int .i64 x.id)).setCell ⟨w.heap.size + 1, 1, none⟩ (.int .i64 x.ow)).setCell ⟨w.heap.size + 1, 2, none⟩ (.int .i64 x.si)).setCell ⟨w.heap.size + 1, 3, none⟩ (.int .i64 x.zo)).setCell ⟨w.heap.size + 1, 4, none⟩ (.int .i64 x.st)).setCell ⟨w.heap.size + 1, 5, none⟩ (.int .i64 x.po)).setCell ⟨w.heap.size + 1, 6, none⟩ (.int .i64 x.to)).setCell ⟨w.heap.size + 1, 7, none⟩ (.int .i64 x.tr)).setCell ⟨w.heap.size + 1, 8, none⟩ (.int .i64 x.pl)).setCell ⟨w.heap.size + 1, 9, none⟩ (.int .i64 x.mi)).setCell ⟨w.heap.size + 1, 10, none⟩ (.int .i64 x.ma)).setCell ⟨w.heap.size + 1, 11, none⟩ (.bool x.de)).setCell ⟨w.heap.size + 1, 12, none⟩ (.bool x.be) = X6 at xr6 xq6 xg6 hb6 hrw6
  (first | rw [show X5.setCells (w.heap.size + 1) 0 (#[.int .i64 x.id, .int .i64 x.ow, .int .i64 x.si, .int .i64 x.zo, .int .i64 x.st, .int .i64 x.po, .int .i64 x.to, .int .i64 x.tr, .int .i64 x.pl, .int .i64 x.mi, .int .i64 x.ma, .bool x.de, .bool x.be] : Array Value).toList = X6 from hX6] | skip)
  clear hX6
  simp only [List.setIfInBounds_toArray, List.set_cons_zero, List.set_cons_succ] at xr6 xq6
  go_wp2
  (try simp only [Exit.inBlock, Exit.then]); refine bodyPost_ret (results_rowE rfl _ _ w.heap.size (w.heap.size + 1) _ _ _ _ _ _ _ _ rfl xr6 Try.underlying56 rfl (by kernel_rfl) rfl xq6 Try.underlying31 rfl (by kernel_rfl)) rfl ?_
  obtain ⟨pb, sb, oT, fT⟩ := (hrw6.down hsz).own HPN.out HSN.out
  exact ⟨{ s with pb := pb, sb := sb }, x, hs.as pb sb, hx, rfl, hb6, oT, fT⟩
end Go.Proofs.Ytnlnledijpcjpab
