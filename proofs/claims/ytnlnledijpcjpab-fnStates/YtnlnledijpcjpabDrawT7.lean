/-
  Chapter 5: the draw DrawSameState. Written by tools/drawt7.gen.py. Own work.
-/
import Derived.Test.YtnlnledijpcjpabDrawT6
import Derived.Test.YtnlnledijpcjpabStCopy
namespace Go.Proofs.Ytnlnledijpcjpab
open Go.ChangeShapes Go.WideShapes Go.ChangeAt Go.RowKit
set_option maxRecDepth 100000
set_option linter.unusedVariables false
set_option linter.unusedSimpArgs false
theorem OwnT.set1' {z : World} {B b : Nat} {t : Stt} (h : OwnT z B t) (a : Away b t) (j : Nat) (v : Value) : OwnT (z.setCell ⟨b, j, none⟩ v) B t :=
  ⟨h.p.same (fun hn => Below.heap_setCell z _ v _ (a.1 hn).symm) (by simp [World.setCell]), h.s.same (fun hn => Below.heap_setCell z _ v _ (a.2 hn).symm) (by simp [World.setCell]), h.ne, h.pc, h.pm, h.sc, h.sm⟩
theorem OwnT.only' {w w' : World} {B p : Nat} {t : Stt} (h : OwnT w B t) (ho : Only p w w') (hp : p < B) : OwnT w' B t :=
  ⟨h.p.same (fun hn => ho.block _ (h.p.lt hn).2 (by have := (h.p.lt hn).1; omega)) ho.size, h.s.same (fun hn => ho.block _ (h.s.lt hn).2 (by have := (h.s.lt hn).1; omega)) ho.size, h.ne, h.pc, h.pm, h.sc, h.sm⟩
set_option maxHeartbeats 2000000 in
theorem drawSameState_any (a : Option Addr) (len cap : Nat) (w : World) (hc : Code w a len w.heap.size) :
    Calls Try.prog 45 #[.slice a len cap] w fun e w' => ∃ (s t : Stt), anS s ∧ anS t ∧ e = .returned (.tuple #[(.agg #[.slice s.pa s.pn s.pcap, .slice s.sa s.sn s.scap, .int .i64 s.ac, .int .i64 s.cl]), (.agg #[.slice t.pa t.pn t.pcap, .slice t.sa t.sn t.scap, .int .i64 t.ac, .int .i64 t.cl])]) ∧ Below w.heap.size w w' ∧ OwnT w' w.heap.size s ∧ OwnT w' w.heap.size t := by
  have hb0 := ((Below.refl _ w).alloc (Nat.le_refl _) (.cells #[.slice none 0 0, .slice none 0 0, .int .i64 0, .int .i64 0] 56)).alloc (by simp) (.cells #[.slice none 0 0, .slice none 0 0, .int .i64 0, .int .i64 0] 56)
  have xr := (boxR_new w 56 #[.slice none 0 0, .slice none 0 0, .int .i64 0, .int .i64 0]).alloc (.cells #[.slice none 0 0, .slice none 0 0, .int .i64 0, .int .i64 0] 56)
  have xq : BoxR ((w.alloc (.cells #[.slice none 0 0, .slice none 0 0, .int .i64 0, .int .i64 0] 56)).alloc (.cells #[.slice none 0 0, .slice none 0 0, .int .i64 0, .int .i64 0] 56)) (w.heap.size + 1) 56 #[.slice none 0 0, .slice none 0 0, .int .i64 0, .int .i64 0] := heap_alloc2_new _ _ _
  generalize hW : (w.alloc (.cells #[.slice none 0 0, .slice none 0 0, .int .i64 0, .int .i64 0] 56)).alloc (.cells #[.slice none 0 0, .slice none 0 0, .int .i64 0, .int .i64 0] 56) = W at hb0 xr xq
  have hrz : w.heap.size + 1 < W.heap.size := xq.lt
  go_enter Try.func45, Try.ntmps45
  go_wp2_with fail
  clear hW
  refine (l1New_any a len cap _ (hc.below hb0)).mono ?_
  rintro e w1 ⟨h, rfl, hw⟩
  have hb : Below w.heap.size w w1 := by rw [hw]; exact hb0.alloc hb0.size _
  have hk : Cur w1 W.heap.size a len cap := by rw [hw]; exact Cur.made W a len cap h _
  have xr1 : BoxR w1 w.heap.size 56 #[.slice none 0 0, .slice none 0 0, .int .i64 0, .int .i64 0] := by rw [hw]; exact xr.alloc _
  have xq1 : BoxR w1 (w.heap.size + 1) 56 #[.slice none 0 0, .slice none 0 0, .int .i64 0, .int .i64 0] := by rw [hw]; exact xq.alloc _
  have hBp : w.heap.size ≤ W.heap.size := by omega
  have hpz : W.heap.size < w1.heap.size := hk.1
  clear hw xr xq
  go_wp2_with fail
  refine (l5Draw_any W.heap.size a len cap _ (hc.below hb) hBp hk).mono ?_
  rintro e w2 ⟨s0, hs0, rfl, ho, hk2, hrw⟩
  have hb2 := hb.trans (ho.below hBp hb.size)
  have xr2 := xr1.onlyR ho (by omega)
  have xq2 := xq1.onlyR ho (by omega)
  have hsz := hb.size
  obtain ⟨s, ht, oT, fT, hd, _⟩ := hrw.like (by have := hs0.pn; omega) (by have := hs0.sn; omega)
  rw [ht]
  have hs : anS s := (hd hs0).an
  have hpn := hs.pn
  have hsn := hs.sn
  have hSZ := ho.size
  clear hb ho hk xr1 xq1 ht hd hs0 hrw
  have xg := boxR_new w2 56 #[.slice s.pa s.pn s.pcap, .slice s.sa s.sn s.scap, .int .i64 s.ac, .int .i64 s.cl]
  have hbV := below_new2'' w2 (.cells #[.slice s.pa s.pn s.pcap, .slice s.sa s.sn s.scap, .int .i64 s.ac, .int .i64 s.cl] 56)
  have hgz : W.heap.size < w2.heap.size := hk2.1
  have hgo : w1.heap.size ≤ w2.heap.size := hSZ
  generalize hV : w2.alloc (.cells #[.slice s.pa s.pn s.pcap, .slice s.sa s.sn s.scap, .int .i64 s.ac, .int .i64 s.cl] 56) = V at xg hbV
  obtain ⟨g, hg⟩ : ∃ g, Hid (w2.heap.size = g) := ⟨w2.heap.size, (rfl : w2.heap.size = w2.heap.size)⟩
  have hb3 := below_app hb2 hbV hb2.size
  have xr3 := xr2.grew hbV
  have xq3 := xq2.grew hbV
  have ag : Away w2.heap.size s := away_new oT (Nat.le_refl _)
  have oV := oT.grew hbV
  have hk3 : Cur V W.heap.size a len cap := hk2.same (hbV.block _ hk2.1) hbV.size
  clear hb2 hbV xr2 xq2 oT hk2
  go_wp2_with fail
  clear hV
  refine (l1Once_any W.heap.size a len cap _ _ (hc.below hb3) hBp hk3).mono ?_
  rintro e V1 ⟨bb, rfl, ho, hk4⟩
  rw [hg.out]
  have hgw : W.heap.size < g := by rw [← hg.out]; exact hgz
  rw [hg.out] at xg ag hgo
  clear hgz hg
  have hb4 := hb3.trans (ho.below hBp hb3.size)
  replace xr3 := xr3.onlyR ho (by omega)
  replace xq3 := xq3.onlyR ho (by omega)
  replace xg := xg.onlyR ho (by omega)
  replace oV := oV.only' ho hpz
  clear hb3 hk3 ho
  have SK : Hid (∀ u : World, BoxR u g 56 #[.slice s.pa s.pn s.pcap, .slice s.sa s.sn s.scap, .int .i64 s.ac, .int .i64 s.cl] → u.cell? ⟨g, 0, none⟩ = some (.slice s.pa s.pn s.pcap) ∧ u.cell? ⟨g, 1, none⟩ = some (.slice s.sa s.sn s.scap) ∧ u.cell? ⟨g, 2, none⟩ = some (.int .i64 s.ac) ∧ u.cell? ⟨g, 3, none⟩ = some (.int .i64 s.cl)) := fun u h => ⟨h.cell 0, h.cell 1, h.cell 2, h.cell 3⟩
  have ar : Away w.heap.size s := away_old oV (by omega)
  have aq : Away (w.heap.size + 1) s := away_old oV (by omega)
  have hcD : Code V1.drew a len w.heap.size := hc.below hb4.drew
  cases bb
  case false =>
    go_wp2_with fail
    refine wp_region_held_drew (S := fun u : World => u.cell? ⟨g, 0, none⟩ = some (.slice s.pa s.pn s.pcap) ∧ u.cell? ⟨g, 1, none⟩ = some (.slice s.sa s.sn s.scap) ∧ u.cell? ⟨g, 2, none⟩ = some (.int .i64 s.ac) ∧ u.cell? ⟨g, 3, none⟩ = some (.int .i64 s.cl)) (by kernel_rfl) (SK.out V1.drew xg) (fun hHeld => ?_)
    refine wpAnyH_take (i := 0) (v := (.agg #[.slice s.pa s.pn s.pcap, .slice s.sa s.sn s.scap, .int .i64 s.ac, .int .i64 s.cl])) rfl (by kernel_rfl) (by kernel_rfl) (by kernel_rfl) (fun _ _ _ h => h) (Or.inl ⟨by rfl, fun u hSu => by (try dsimp only at hSu); go_simp⟩) hHeld ?_
    try simp only [Act.put, List.setIfInBounds_toArray, List.set_cons_zero, List.set_cons_succ]
    refine wpAnyH_take (i := 1) (v := .pointer (some ⟨W.heap.size, 0, none⟩)) rfl (by kernel_rfl) (by kernel_rfl) (by kernel_rfl) (fun _ _ _ h => h) (Or.inl ⟨by rfl, fun u hSu => by (try dsimp only at hSu); go_simp⟩) hHeld ?_
    try simp only [Act.put, List.setIfInBounds_toArray, List.set_cons_zero, List.set_cons_succ]
    refine wpAnyH_ready (rs := [2]) (by kernel_rfl) (by simp) ?_
    refine AllReadyH.cons rfl (fun K' hK => ?_) AllReadyH.nil
    go_simp
    go_at_call 96
    refine (l5Any_any W.heap.size a len cap V1.drew hcD hBp hk4).mono ?_
    rintro e v1 ⟨t0, ht0, rfl, ho1, hk1, hrw1⟩
    obtain ⟨t, htt, ot, _, _, han⟩ := hrw1.like (by have := ht0.pn; omega) (by have := ht0.sn; omega)
    have ht : anS t := han ht0
    rw [htt]
    have hb5 : Below w.heap.size w v1 := hb4.drew.trans (ho1.below hBp hb4.size)
    have xg5 : BoxR v1 g 56 #[.slice s.pa s.pn s.pcap, .slice s.sa s.sn s.scap, .int .i64 s.ac, .int .i64 s.cl] := BoxR.onlyR (w := V1.drew) xg ho1 (by omega)
    have xr5 : BoxR v1 w.heap.size 56 #[.slice none 0 0, .slice none 0 0, .int .i64 0, .int .i64 0] := BoxR.onlyR (w := V1.drew) xr3 ho1 (by omega)
    have xq5 : BoxR v1 (w.heap.size + 1) 56 #[.slice none 0 0, .slice none 0 0, .int .i64 0, .int .i64 0] := BoxR.onlyR (w := V1.drew) xq3 ho1 (by omega)
    have os5 : OwnT v1 w1.heap.size s := OwnT.only' (w := V1.drew) ⟨oV.p, oV.s, oV.ne, oV.pc, oV.pm, oV.sc, oV.sm⟩ ho1 hpz
    have hV1 : w1.heap.size ≤ V1.heap.size := by have := xg.lt; omega
    have ot5 : OwnT v1 w1.heap.size t := ot.down hV1
    clear htt
    have art : Away w.heap.size t := away_old ot5 (by omega)
    have aqt : Away (w.heap.size + 1) t := away_old ot5 (by omega)
    refine hK.out _ _ (SK.out _ xg5) (fun hHeld => ?_)
    clear hK
    try simp only [Act.put, List.setIfInBounds_toArray, List.set_cons_zero, List.set_cons_succ]
    have hta : v1.there w.heap.size 0 4 := fun j hj => by
      refine ⟨?_, xr5.froz _⟩
      rw [Nat.zero_add, xr5.cell j]
      simp [hj]
    have xr6 := ((((xr5.put 0 (.slice s.pa s.pn s.pcap)).put 1 (.slice s.sa s.sn s.scap)).put 2 (.int .i64 s.ac)).put 3 (.int .i64 s.cl))
    have xq6 := ((((xq5.other (q := ⟨w.heap.size, 0, none⟩) (by simp) (.slice s.pa s.pn s.pcap)).other (q := ⟨w.heap.size, 1, none⟩) (by simp) (.slice s.sa s.sn s.scap)).other (q := ⟨w.heap.size, 2, none⟩) (by simp) (.int .i64 s.ac)).other (q := ⟨w.heap.size, 3, none⟩) (by simp) (.int .i64 s.cl))
    have xg6 := ((((xg5.other (q := ⟨w.heap.size, 0, none⟩) (by simp; omega) (.slice s.pa s.pn s.pcap)).other (q := ⟨w.heap.size, 1, none⟩) (by simp; omega) (.slice s.sa s.sn s.scap)).other (q := ⟨w.heap.size, 2, none⟩) (by simp; omega) (.int .i64 s.ac)).other (q := ⟨w.heap.size, 3, none⟩) (by simp; omega) (.int .i64 s.cl))
    have hb6 := (((hb5.setCell (p := ⟨w.heap.size, 0, none⟩) (by simp) (.slice s.pa s.pn s.pcap)).setCell (p := ⟨w.heap.size, 1, none⟩) (by simp) (.slice s.sa s.sn s.scap)).setCell (p := ⟨w.heap.size, 2, none⟩) (by simp) (.int .i64 s.ac)).setCell (p := ⟨w.heap.size, 3, none⟩) (by simp) (.int .i64 s.cl)
    have os6 := (((os5.set1' ar 0 (.slice s.pa s.pn s.pcap)).set1' ar 1 (.slice s.sa s.sn s.scap)).set1' ar 2 (.int .i64 s.ac)).set1' ar 3 (.int .i64 s.cl)
    have ot6 := (((ot5.set1' art 0 (.slice s.pa s.pn s.pcap)).set1' art 1 (.slice s.sa s.sn s.scap)).set1' art 2 (.int .i64 s.ac)).set1' art 3 (.int .i64 s.cl)
    refine wpAnyH_ready (rs := [3]) (by kernel_rfl) (by simp) ?_
    refine AllReadyH.cons rfl (fun K' hK => ?_) AllReadyH.nil
    rw [if_pos (by rfl)]
    refine wp_store_mid 56 (.tmp 2) (.tmp 15) rfl w.heap.size 0 #[.slice s.pa s.pn s.pcap, .slice s.sa s.sn s.scap, .int .i64 s.ac, .int .i64 s.cl] (by first | rfl | simp [Act.eval]) rfl hta (by kernel_rfl) (by simp [Value.oneCell']) ?_
    refine hK.out _ _ (SK.out _ xg6) (fun hHeld => ?_)
    clear hK hta
    try simp only [Act.put, List.setIfInBounds_toArray, List.set_cons_zero, List.set_cons_succ]
    generalize hX6 : (((v1.setCell ⟨w.heap.size, 0, none⟩ (.slice s.pa s.pn s.pcap)).setCell ⟨w.heap.size, 1, none⟩ (.slice s.sa s.sn s.scap)).setCell ⟨w.heap.size, 2, none⟩ (.int .i64 s.ac)).setCell ⟨w.heap.size, 3, none⟩ (.int .i64 s.cl) = X6 at xr6 xq6 xg6 hb6 os6 ot6
    (first | rw [show v1.setCells w.heap.size 0 (#[.slice s.pa s.pn s.pcap, .slice s.sa s.sn s.scap, .int .i64 s.ac, .int .i64 s.cl] : Array Value).toList = X6 from hX6] at hHeld ⊢ | skip)
    clear hX6
    have htb : X6.there (w.heap.size + 1) 0 4 := fun j hj => by
      refine ⟨?_, xq6.froz _⟩
      rw [Nat.zero_add, xq6.cell j]
      simp [hj]
    have xq7 := ((((xq6.put 0 (.slice t.pa t.pn t.pcap)).put 1 (.slice t.sa t.sn t.scap)).put 2 (.int .i64 t.ac)).put 3 (.int .i64 t.cl))
    have xr7 := ((((xr6.other (q := ⟨w.heap.size + 1, 0, none⟩) (by simp) (.slice t.pa t.pn t.pcap)).other (q := ⟨w.heap.size + 1, 1, none⟩) (by simp) (.slice t.sa t.sn t.scap)).other (q := ⟨w.heap.size + 1, 2, none⟩) (by simp) (.int .i64 t.ac)).other (q := ⟨w.heap.size + 1, 3, none⟩) (by simp) (.int .i64 t.cl))
    have xg7 := ((((xg6.other (q := ⟨w.heap.size + 1, 0, none⟩) (by simp; omega) (.slice t.pa t.pn t.pcap)).other (q := ⟨w.heap.size + 1, 1, none⟩) (by simp; omega) (.slice t.sa t.sn t.scap)).other (q := ⟨w.heap.size + 1, 2, none⟩) (by simp; omega) (.int .i64 t.ac)).other (q := ⟨w.heap.size + 1, 3, none⟩) (by simp; omega) (.int .i64 t.cl))
    have hb7 := (((hb6.setCell (p := ⟨w.heap.size + 1, 0, none⟩) (by simp) (.slice t.pa t.pn t.pcap)).setCell (p := ⟨w.heap.size + 1, 1, none⟩) (by simp) (.slice t.sa t.sn t.scap)).setCell (p := ⟨w.heap.size + 1, 2, none⟩) (by simp) (.int .i64 t.ac)).setCell (p := ⟨w.heap.size + 1, 3, none⟩) (by simp) (.int .i64 t.cl)
    have os7 := (((os6.set1' aq 0 (.slice t.pa t.pn t.pcap)).set1' aq 1 (.slice t.sa t.sn t.scap)).set1' aq 2 (.int .i64 t.ac)).set1' aq 3 (.int .i64 t.cl)
    have ot7 := (((ot6.set1' aqt 0 (.slice t.pa t.pn t.pcap)).set1' aqt 1 (.slice t.sa t.sn t.scap)).set1' aqt 2 (.int .i64 t.ac)).set1' aqt 3 (.int .i64 t.cl)
    refine wpAnyH_ready (rs := [4]) (by kernel_rfl) (by simp) ?_
    refine AllReadyH.cons rfl (fun K' hK => ?_) AllReadyH.nil
    rw [if_pos (by rfl)]
    refine wp_store_mid 56 (.tmp 3) (.tmp 17) rfl (w.heap.size + 1) 0 #[.slice t.pa t.pn t.pcap, .slice t.sa t.sn t.scap, .int .i64 t.ac, .int .i64 t.cl] (by first | rfl | simp [Act.eval]) rfl htb (by kernel_rfl) (by simp [Value.oneCell']) ?_
    refine hK.out _ _ (SK.out _ xg7) (fun hHeld => ?_)
    clear hK htb
    refine wpAnyH_done (by kernel_rfl) ?_ _
    try simp only [Act.put, List.setIfInBounds_toArray, List.set_cons_zero, List.set_cons_succ]
    clear hHeld SK
    generalize hX7 : (((X6.setCell ⟨w.heap.size + 1, 0, none⟩ (.slice t.pa t.pn t.pcap)).setCell ⟨w.heap.size + 1, 1, none⟩ (.slice t.sa t.sn t.scap)).setCell ⟨w.heap.size + 1, 2, none⟩ (.int .i64 t.ac)).setCell ⟨w.heap.size + 1, 3, none⟩ (.int .i64 t.cl) = X7 at xr7 xq7 xg7 hb7 os7 ot7
    (first | rw [show X6.setCells (w.heap.size + 1) 0 (#[.slice t.pa t.pn t.pcap, .slice t.sa t.sn t.scap, .int .i64 t.ac, .int .i64 t.cl] : Array Value).toList = X7 from hX7] | skip)
    clear hX7
    simp only [List.setIfInBounds_toArray, List.set_cons_zero, List.set_cons_succ] at xr7 xq7
    go_wp2
    (try simp only [Exit.inBlock, Exit.then]); refine bodyPost_ret (results_rowE rfl _ _ w.heap.size (w.heap.size + 1) _ _ _ _ _ _ _ _ rfl xr7 Try.underlying56 rfl (by kernel_rfl) rfl xq7 Try.underlying56 rfl (by kernel_rfl)) rfl ?_
    exact ⟨s, t, hs, ht, rfl, hb7, os7.down hsz, ot7.down hsz⟩
  case true =>
    go_wp2_with fail
    refine wp_region_held_drew (S := fun u : World => u.cell? ⟨g, 0, none⟩ = some (.slice s.pa s.pn s.pcap) ∧ u.cell? ⟨g, 1, none⟩ = some (.slice s.sa s.sn s.scap) ∧ u.cell? ⟨g, 2, none⟩ = some (.int .i64 s.ac) ∧ u.cell? ⟨g, 3, none⟩ = some (.int .i64 s.cl)) (by kernel_rfl) (SK.out V1.drew xg) (fun hHeld => ?_)
    refine wpAnyH_take (i := 0) (v := (.agg #[.slice s.pa s.pn s.pcap, .slice s.sa s.sn s.scap, .int .i64 s.ac, .int .i64 s.cl])) rfl (by kernel_rfl) (by kernel_rfl) (by kernel_rfl) (fun _ _ _ h => h) (Or.inl ⟨by rfl, fun u hSu => by (try dsimp only at hSu); go_simp⟩) hHeld ?_
    try simp only [Act.put, List.setIfInBounds_toArray, List.set_cons_zero, List.set_cons_succ]
    refine wpAnyH_take (i := 1) (v := (.agg #[.slice s.pa s.pn s.pcap, .slice s.sa s.sn s.scap, .int .i64 s.ac, .int .i64 s.cl])) rfl (by kernel_rfl) (by kernel_rfl) (by kernel_rfl) (fun _ _ _ h => h) (Or.inl ⟨by rfl, fun u hSu => by (try dsimp only at hSu); go_simp⟩) hHeld ?_
    try simp only [Act.put, List.setIfInBounds_toArray, List.set_cons_zero, List.set_cons_succ]
    refine wpAnyH_ready (rs := [2]) (by kernel_rfl) (by simp) ?_
    refine AllReadyH.cons rfl (fun K' hK => ?_) AllReadyH.nil
    go_simp
    go_at_call 98
    have oVd : OwnT V1.drew w1.heap.size s := ⟨oV.p, oV.s, oV.ne, oV.pc, oV.pm, oV.sc, oV.sm⟩
    refine (l5Copy_any s V1.drew (hs.ok oVd) ⟨fT.1, fT.2⟩ (by omega) (by omega)).mono ?_
    rintro e v1 ⟨t, rfl, hb1, ot, al, _⟩
    have ht : anS t := ⟨by rw [al.pn]; exact hs.pn, by rw [al.sn]; exact hs.sn, by rw [al.ac]; exact hs.ac, by rw [al.cl]; exact hs.cl, by rw [al.pn, al.ps]; exact hs.ps, by rw [al.sn, al.ss]; exact hs.ss⟩
    have hb5 : Below w.heap.size w v1 := below_app hb4.drew hb1 hb4.size
    have xg5 : BoxR v1 g 56 #[.slice s.pa s.pn s.pcap, .slice s.sa s.sn s.scap, .int .i64 s.ac, .int .i64 s.cl] := BoxR.grew (w := V1.drew) xg hb1
    have xr5 : BoxR v1 w.heap.size 56 #[.slice none 0 0, .slice none 0 0, .int .i64 0, .int .i64 0] := BoxR.grew (w := V1.drew) xr3 hb1
    have xq5 : BoxR v1 (w.heap.size + 1) 56 #[.slice none 0 0, .slice none 0 0, .int .i64 0, .int .i64 0] := BoxR.grew (w := V1.drew) xq3 hb1
    have os5 : OwnT v1 w1.heap.size s := OwnT.grew (w := V1.drew) ⟨oV.p, oV.s, oV.ne, oV.pc, oV.pm, oV.sc, oV.sm⟩ hb1
    have hV1 : w1.heap.size ≤ V1.heap.size := by have := xg.lt; omega
    have ot5 : OwnT v1 w1.heap.size t := ot.down hV1
    have art : Away w.heap.size t := away_old ot5 (by omega)
    have aqt : Away (w.heap.size + 1) t := away_old ot5 (by omega)
    refine hK.out _ _ (SK.out _ xg5) (fun hHeld => ?_)
    clear hK
    try simp only [Act.put, List.setIfInBounds_toArray, List.set_cons_zero, List.set_cons_succ]
    have hta : v1.there w.heap.size 0 4 := fun j hj => by
      refine ⟨?_, xr5.froz _⟩
      rw [Nat.zero_add, xr5.cell j]
      simp [hj]
    have xr6 := ((((xr5.put 0 (.slice s.pa s.pn s.pcap)).put 1 (.slice s.sa s.sn s.scap)).put 2 (.int .i64 s.ac)).put 3 (.int .i64 s.cl))
    have xq6 := ((((xq5.other (q := ⟨w.heap.size, 0, none⟩) (by simp) (.slice s.pa s.pn s.pcap)).other (q := ⟨w.heap.size, 1, none⟩) (by simp) (.slice s.sa s.sn s.scap)).other (q := ⟨w.heap.size, 2, none⟩) (by simp) (.int .i64 s.ac)).other (q := ⟨w.heap.size, 3, none⟩) (by simp) (.int .i64 s.cl))
    have xg6 := ((((xg5.other (q := ⟨w.heap.size, 0, none⟩) (by simp; omega) (.slice s.pa s.pn s.pcap)).other (q := ⟨w.heap.size, 1, none⟩) (by simp; omega) (.slice s.sa s.sn s.scap)).other (q := ⟨w.heap.size, 2, none⟩) (by simp; omega) (.int .i64 s.ac)).other (q := ⟨w.heap.size, 3, none⟩) (by simp; omega) (.int .i64 s.cl))
    have hb6 := (((hb5.setCell (p := ⟨w.heap.size, 0, none⟩) (by simp) (.slice s.pa s.pn s.pcap)).setCell (p := ⟨w.heap.size, 1, none⟩) (by simp) (.slice s.sa s.sn s.scap)).setCell (p := ⟨w.heap.size, 2, none⟩) (by simp) (.int .i64 s.ac)).setCell (p := ⟨w.heap.size, 3, none⟩) (by simp) (.int .i64 s.cl)
    have os6 := (((os5.set1' ar 0 (.slice s.pa s.pn s.pcap)).set1' ar 1 (.slice s.sa s.sn s.scap)).set1' ar 2 (.int .i64 s.ac)).set1' ar 3 (.int .i64 s.cl)
    have ot6 := (((ot5.set1' art 0 (.slice s.pa s.pn s.pcap)).set1' art 1 (.slice s.sa s.sn s.scap)).set1' art 2 (.int .i64 s.ac)).set1' art 3 (.int .i64 s.cl)
    refine wpAnyH_ready (rs := [3]) (by kernel_rfl) (by simp) ?_
    refine AllReadyH.cons rfl (fun K' hK => ?_) AllReadyH.nil
    rw [if_pos (by rfl)]
    refine wp_store_mid 56 (.tmp 2) (.tmp 12) rfl w.heap.size 0 #[.slice s.pa s.pn s.pcap, .slice s.sa s.sn s.scap, .int .i64 s.ac, .int .i64 s.cl] (by first | rfl | simp [Act.eval]) rfl hta (by kernel_rfl) (by simp [Value.oneCell']) ?_
    refine hK.out _ _ (SK.out _ xg6) (fun hHeld => ?_)
    clear hK hta
    try simp only [Act.put, List.setIfInBounds_toArray, List.set_cons_zero, List.set_cons_succ]
    generalize hX6 : (((v1.setCell ⟨w.heap.size, 0, none⟩ (.slice s.pa s.pn s.pcap)).setCell ⟨w.heap.size, 1, none⟩ (.slice s.sa s.sn s.scap)).setCell ⟨w.heap.size, 2, none⟩ (.int .i64 s.ac)).setCell ⟨w.heap.size, 3, none⟩ (.int .i64 s.cl) = X6 at xr6 xq6 xg6 hb6 os6 ot6
    (first | rw [show v1.setCells w.heap.size 0 (#[.slice s.pa s.pn s.pcap, .slice s.sa s.sn s.scap, .int .i64 s.ac, .int .i64 s.cl] : Array Value).toList = X6 from hX6] at hHeld ⊢ | skip)
    clear hX6
    have htb : X6.there (w.heap.size + 1) 0 4 := fun j hj => by
      refine ⟨?_, xq6.froz _⟩
      rw [Nat.zero_add, xq6.cell j]
      simp [hj]
    have xq7 := ((((xq6.put 0 (.slice t.pa t.pn t.pcap)).put 1 (.slice t.sa t.sn t.scap)).put 2 (.int .i64 t.ac)).put 3 (.int .i64 t.cl))
    have xr7 := ((((xr6.other (q := ⟨w.heap.size + 1, 0, none⟩) (by simp) (.slice t.pa t.pn t.pcap)).other (q := ⟨w.heap.size + 1, 1, none⟩) (by simp) (.slice t.sa t.sn t.scap)).other (q := ⟨w.heap.size + 1, 2, none⟩) (by simp) (.int .i64 t.ac)).other (q := ⟨w.heap.size + 1, 3, none⟩) (by simp) (.int .i64 t.cl))
    have xg7 := ((((xg6.other (q := ⟨w.heap.size + 1, 0, none⟩) (by simp; omega) (.slice t.pa t.pn t.pcap)).other (q := ⟨w.heap.size + 1, 1, none⟩) (by simp; omega) (.slice t.sa t.sn t.scap)).other (q := ⟨w.heap.size + 1, 2, none⟩) (by simp; omega) (.int .i64 t.ac)).other (q := ⟨w.heap.size + 1, 3, none⟩) (by simp; omega) (.int .i64 t.cl))
    have hb7 := (((hb6.setCell (p := ⟨w.heap.size + 1, 0, none⟩) (by simp) (.slice t.pa t.pn t.pcap)).setCell (p := ⟨w.heap.size + 1, 1, none⟩) (by simp) (.slice t.sa t.sn t.scap)).setCell (p := ⟨w.heap.size + 1, 2, none⟩) (by simp) (.int .i64 t.ac)).setCell (p := ⟨w.heap.size + 1, 3, none⟩) (by simp) (.int .i64 t.cl)
    have os7 := (((os6.set1' aq 0 (.slice t.pa t.pn t.pcap)).set1' aq 1 (.slice t.sa t.sn t.scap)).set1' aq 2 (.int .i64 t.ac)).set1' aq 3 (.int .i64 t.cl)
    have ot7 := (((ot6.set1' aqt 0 (.slice t.pa t.pn t.pcap)).set1' aqt 1 (.slice t.sa t.sn t.scap)).set1' aqt 2 (.int .i64 t.ac)).set1' aqt 3 (.int .i64 t.cl)
    refine wpAnyH_ready (rs := [4]) (by kernel_rfl) (by simp) ?_
    refine AllReadyH.cons rfl (fun K' hK => ?_) AllReadyH.nil
    rw [if_pos (by rfl)]
    refine wp_store_mid 56 (.tmp 3) (.tmp 14) rfl (w.heap.size + 1) 0 #[.slice t.pa t.pn t.pcap, .slice t.sa t.sn t.scap, .int .i64 t.ac, .int .i64 t.cl] (by first | rfl | simp [Act.eval]) rfl htb (by kernel_rfl) (by simp [Value.oneCell']) ?_
    refine hK.out _ _ (SK.out _ xg7) (fun hHeld => ?_)
    clear hK htb
    refine wpAnyH_done (by kernel_rfl) ?_ _
    try simp only [Act.put, List.setIfInBounds_toArray, List.set_cons_zero, List.set_cons_succ]
    clear hHeld SK
    generalize hX7 : (((X6.setCell ⟨w.heap.size + 1, 0, none⟩ (.slice t.pa t.pn t.pcap)).setCell ⟨w.heap.size + 1, 1, none⟩ (.slice t.sa t.sn t.scap)).setCell ⟨w.heap.size + 1, 2, none⟩ (.int .i64 t.ac)).setCell ⟨w.heap.size + 1, 3, none⟩ (.int .i64 t.cl) = X7 at xr7 xq7 xg7 hb7 os7 ot7
    (first | rw [show X6.setCells (w.heap.size + 1) 0 (#[.slice t.pa t.pn t.pcap, .slice t.sa t.sn t.scap, .int .i64 t.ac, .int .i64 t.cl] : Array Value).toList = X7 from hX7] | skip)
    clear hX7
    simp only [List.setIfInBounds_toArray, List.set_cons_zero, List.set_cons_succ] at xr7 xq7
    go_wp2
    (try simp only [Exit.inBlock, Exit.then]); refine bodyPost_ret (results_rowE rfl _ _ w.heap.size (w.heap.size + 1) _ _ _ _ _ _ _ _ rfl xr7 Try.underlying56 rfl (by kernel_rfl) rfl xq7 Try.underlying56 rfl (by kernel_rfl)) rfl ?_
    exact ⟨s, t, hs, ht, rfl, hb7, os7.down hsz, ot7.down hsz⟩
end Go.Proofs.Ytnlnledijpcjpab
