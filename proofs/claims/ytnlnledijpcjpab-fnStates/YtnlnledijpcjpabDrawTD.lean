/-
  Chapter 5: the draws DrawStateOk, DrawState, DrawPutState, DrawGetState. Chapter 5: the draw DrawGetState. Own work.
-/
import Derived.Test.YtnlnledijpcjpabDrawT3
import Derived.Test.YtnlnledijpcjpabDrawBend
import Derived.Test.YtnlnledijpcjpabStPut
import Derived.Test.YtnlnledijpcjpabState7
namespace Go.Proofs.Ytnlnledijpcjpab
open Go.ChangeShapes Go.WideShapes Go.ChangeAt Go.RowKit
set_option maxRecDepth 100000
set_option linter.unusedVariables false
/-- both rows begin at the beginning of their blocks -/
def FullT (t : Stt) : Prop := t.pa = some ⟨t.pb, 0, none⟩ ∧ t.sa = some ⟨t.sb, 0, none⟩
theorem RowsT.own {w : World} {B : Nat} {s : Stt} (h : RowsT w B s) (h1 : s.pn ≠ 0) (h2 : s.sn ≠ 0) : ∃ pb sb, OwnT w B { s with pb := pb, sb := sb } ∧ FullT { s with pb := pb, sb := sb } := by
  obtain ⟨qp, hp⟩ := row_some h.op h1
  obtain ⟨qs, hs⟩ := row_some h.os h2
  obtain ⟨qp', op, ep⟩ := row_ownZ pcC_len h.op
  obtain ⟨qs', os, es⟩ := row_ownZ sdC_len h.os
  obtain ⟨_, _, fp, c1, c2⟩ := row_form h.op
  obtain ⟨_, _, fs, c3, c4⟩ := row_form h.os
  simp only [Value.slice.injEq, true_and] at fp fs
  obtain ⟨rfl, rfl⟩ := fp
  obtain ⟨rfl, rfl⟩ := fs
  have e1 : qp = qp' := by have := ep h1; rw [hp] at this; simpa [Value.ownBlock] using this
  have e2 : qs = qs' := by have := es h2; rw [hs] at this; simpa [Value.ownBlock] using this
  subst e1 e2
  exact ⟨qp, qs, ⟨op, os, fun _ _ he => row_two h.op h.os (by decide) (ep h1) (by rw [es h2]; exact congrArg some he), c1, c2, c3, c4⟩, hp, hs⟩
theorem RowsT.like {w : World} {B : Nat} {s : Stt} (h : RowsT w B s) (h1 : s.pn ≠ 0) (h2 : s.sn ≠ 0) : ∃ t : Stt, ((.agg #[.slice s.pa s.pn s.pcap, .slice s.sa s.sn s.scap, .int .i64 s.ac, .int .i64 s.cl]) : Value) = (.agg #[.slice t.pa t.pn t.pcap, .slice t.sa t.sn t.scap, .int .i64 t.ac, .int .i64 t.cl]) ∧ OwnT w B t ∧ FullT t ∧ (drS s → drS t) ∧ (anS s → anS t) := by
  obtain ⟨pb, sb, o, f⟩ := h.own h1 h2
  exact ⟨{ s with pb := pb, sb := sb }, rfl, o, f, fun k => ⟨k.pn, k.sn, k.ac, k.cl, k.ps, k.ss⟩, fun k => ⟨k.pn, k.sn, k.ac, k.cl, k.ps, k.ss⟩⟩
/-- what a draw of a state answers -/
def DrewT (P : Stt → Prop) (w : World) (e : Ending) (w' : World) : Prop := ∃ s : Stt, P s ∧ e = .returned (.agg #[.slice s.pa s.pn s.pcap, .slice s.sa s.sn s.scap, .int .i64 s.ac, .int .i64 s.cl]) ∧ Below w.heap.size w w' ∧ OwnT w' w.heap.size s ∧ FullT s
theorem anS.ok {s : Stt} {w : World} {B : Nat} (h : anS s) (o : OwnT w B s) : s.ok w := ⟨o.pc, o.pm, o.p.rd, o.sc, o.sm, o.s.rd, wf_i64 h.ac, wf_i64 h.cl, h.ps, h.ss⟩
theorem anS.as {s : Stt} (h : anS s) (pb sb : Nat) : anS { s with pb := pb, sb := sb } := ⟨h.pn, h.sn, h.ac, h.cl, h.ps, h.ss⟩
theorem drS.as {s : Stt} (h : drS s) (pb sb : Nat) : drS { s with pb := pb, sb := sb } := ⟨h.pn, h.sn, h.ac, h.cl, h.ps, h.ss⟩
set_option maxHeartbeats 1000000 in
theorem drawStateOk_any (a : Option Addr) (len cap : Nat) (w : World) (hc : Code w a len w.heap.size) :
    Calls Try.prog 44 #[.slice a len cap] w fun e w' => DrewT anS w e w' := by
  have hb0 := (Below.refl _ w).alloc (Nat.le_refl _) (.cells #[.slice none 0 0, .slice none 0 0, .int .i64 0, .int .i64 0] 56)
  have xr := boxR_new w 56 #[.slice none 0 0, .slice none 0 0, .int .i64 0, .int .i64 0]
  generalize hW : w.alloc (.cells #[.slice none 0 0, .slice none 0 0, .int .i64 0, .int .i64 0] 56) = W at hb0 xr
  have hrz : w.heap.size < W.heap.size := xr.lt
  go_enter Try.func44, Try.ntmps44
  go_wp2_with fail
  clear hW
  refine (l1New_any a len cap _ (hc.below hb0)).mono ?_
  rintro e w1 ⟨h, rfl, hw⟩
  have hb : Below w.heap.size w w1 := by rw [hw]; exact hb0.alloc hb0.size _
  have hk : Cur w1 W.heap.size a len cap := by rw [hw]; exact Cur.made W a len cap h _
  have xr1 : BoxR w1 w.heap.size 56 #[.slice none 0 0, .slice none 0 0, .int .i64 0, .int .i64 0] := by rw [hw]; exact xr.alloc _
  have hBp : w.heap.size ≤ W.heap.size := Nat.le_of_lt hrz
  clear hw xr
  go_wp2_with fail
  refine (l5Any_any W.heap.size a len cap _ (hc.below hb) hBp hk).mono ?_
  rintro e w2 ⟨s, hs, rfl, ho, hk2, hrw⟩
  have hb2 := hb.trans (ho.below hBp hb.size)
  have xr2 := xr1.onlyR ho (by omega)
  have hsz := hb.size
  have HPN : Hid (s.pn ≠ 0) := by have := hs.pn; show s.pn ≠ 0; omega
  have HSN : Hid (s.sn ≠ 0) := by have := hs.sn; show s.sn ≠ 0; omega
  clear hb ho hk xr1 hk2
  go_wp2_with (refine wpList_store_row rfl 56 (.tmp 2) _ rfl w.heap.size _ (by rfl) (by rfl) _ _ xr2 (by kernel_rfl) (by rfl) (by simp [Value.oneCell']) ?_)
  (try simp only [Exit.inBlock, Exit.then]); refine bodyPost_ret (results_cell_row rfl _ _ w.heap.size _ _ _ _ rfl (setRow_heap _ _ _ _ _ _ xr2) Try.underlying56 rfl (by kernel_rfl)) rfl ?_
  obtain ⟨pb, sb, oT, fT⟩ := ((hrw.setRow xr2 _).down hsz).own HPN.out HSN.out
  exact ⟨_, hs.as pb sb, rfl, below_setRow hb2 (Nat.le_refl _) _, oT, fT⟩
set_option maxHeartbeats 1000000 in
theorem drawPutState_any (a : Option Addr) (len cap : Nat) (w : World) (hc : Code w a len w.heap.size) :
    Calls Try.prog 56 #[.slice a len cap] w fun e w' => DrewT anS w e w' := by
  have hb0 := (Below.refl _ w).alloc (Nat.le_refl _) (.cells #[.slice none 0 0, .slice none 0 0, .int .i64 0, .int .i64 0] 56)
  have xr := boxR_new w 56 #[.slice none 0 0, .slice none 0 0, .int .i64 0, .int .i64 0]
  generalize hW : w.alloc (.cells #[.slice none 0 0, .slice none 0 0, .int .i64 0, .int .i64 0] 56) = W at hb0 xr
  have hrz : w.heap.size < W.heap.size := xr.lt
  go_enter Try.func56, Try.ntmps56
  go_wp2_with fail
  clear hW
  refine (l1New_any a len cap _ (hc.below hb0)).mono ?_
  rintro e w1 ⟨h, rfl, hw⟩
  have hb : Below w.heap.size w w1 := by rw [hw]; exact hb0.alloc hb0.size _
  have hk : Cur w1 W.heap.size a len cap := by rw [hw]; exact Cur.made W a len cap h _
  have xr1 : BoxR w1 w.heap.size 56 #[.slice none 0 0, .slice none 0 0, .int .i64 0, .int .i64 0] := by rw [hw]; exact xr.alloc _
  have hBp : w.heap.size ≤ W.heap.size := Nat.le_of_lt hrz
  clear hw xr
  go_wp2_with fail
  refine (l5Any_any W.heap.size a len cap _ (hc.below hb) hBp hk).mono ?_
  rintro e w2 ⟨s, hs, rfl, ho, hk2, hrw⟩
  have hb2 := hb.trans (ho.below hBp hb.size)
  have xr2 := xr1.onlyR ho (by omega)
  have hsz := hb.size
  have HPN : Hid (s.pn ≠ 0) := by have := hs.pn; show s.pn ≠ 0; omega
  have HSN : Hid (s.sn ≠ 0) := by have := hs.sn; show s.sn ≠ 0; omega
  clear hb ho hk xr1 hk2
  go_wp2_with (refine wpList_store_row rfl 56 (.tmp 2) _ rfl w.heap.size _ (by rfl) (by rfl) _ _ xr2 (by kernel_rfl) (by rfl) (by simp [Value.oneCell']) ?_)
  (try simp only [Exit.inBlock, Exit.then]); refine bodyPost_ret (results_cell_row rfl _ _ w.heap.size _ _ _ _ rfl (setRow_heap _ _ _ _ _ _ xr2) Try.underlying56 rfl (by kernel_rfl)) rfl ?_
  obtain ⟨pb, sb, oT, fT⟩ := ((hrw.setRow xr2 _).down hsz).own HPN.out HSN.out
  exact ⟨_, hs.as pb sb, rfl, below_setRow hb2 (Nat.le_refl _) _, oT, fT⟩
set_option maxHeartbeats 1000000 in
theorem drawState_any (a : Option Addr) (len cap : Nat) (w : World) (hc : Code w a len w.heap.size) :
    Calls Try.prog 55 #[.slice a len cap] w fun e w' => DrewT drS w e w' := by
  have hb0 := (Below.refl _ w).alloc (Nat.le_refl _) (.cells #[.slice none 0 0, .slice none 0 0, .int .i64 0, .int .i64 0] 56)
  have xr := boxR_new w 56 #[.slice none 0 0, .slice none 0 0, .int .i64 0, .int .i64 0]
  generalize hW : w.alloc (.cells #[.slice none 0 0, .slice none 0 0, .int .i64 0, .int .i64 0] 56) = W at hb0 xr
  have hrz : w.heap.size < W.heap.size := xr.lt
  go_enter Try.func55, Try.ntmps55
  go_wp2_with fail
  clear hW
  refine (l1New_any a len cap _ (hc.below hb0)).mono ?_
  rintro e w1 ⟨h, rfl, hw⟩
  have hb : Below w.heap.size w w1 := by rw [hw]; exact hb0.alloc hb0.size _
  have hk : Cur w1 W.heap.size a len cap := by rw [hw]; exact Cur.made W a len cap h _
  have xr1 : BoxR w1 w.heap.size 56 #[.slice none 0 0, .slice none 0 0, .int .i64 0, .int .i64 0] := by rw [hw]; exact xr.alloc _
  have hBp : w.heap.size ≤ W.heap.size := Nat.le_of_lt hrz
  clear hw xr
  go_wp2_with fail
  refine (l5Draw_any W.heap.size a len cap _ (hc.below hb) hBp hk).mono ?_
  rintro e w2 ⟨s, hs, rfl, ho, hk2, hrw⟩
  have hb2 := hb.trans (ho.below hBp hb.size)
  have xr2 := xr1.onlyR ho (by omega)
  have hsz := hb.size
  have HPN : Hid (s.pn ≠ 0) := by have := hs.pn; show s.pn ≠ 0; omega
  have HSN : Hid (s.sn ≠ 0) := by have := hs.sn; show s.sn ≠ 0; omega
  clear hb ho hk xr1 hk2
  go_wp2_with (refine wpList_store_row rfl 56 (.tmp 2) _ rfl w.heap.size _ (by rfl) (by rfl) _ _ xr2 (by kernel_rfl) (by rfl) (by simp [Value.oneCell']) ?_)
  (try simp only [Exit.inBlock, Exit.then]); refine bodyPost_ret (results_cell_row rfl _ _ w.heap.size _ _ _ _ rfl (setRow_heap _ _ _ _ _ _ xr2) Try.underlying56 rfl (by kernel_rfl)) rfl ?_
  obtain ⟨pb, sb, oT, fT⟩ := ((hrw.setRow xr2 _).down hsz).own HPN.out HSN.out
  exact ⟨_, hs.as pb sb, rfl, below_setRow hb2 (Nat.le_refl _) _, oT, fT⟩
end Go.Proofs.Ytnlnledijpcjpab
namespace Go.Proofs.Ytnlnledijpcjpab
open Go.ChangeShapes Go.WideShapes Go.ChangeAt Go.RowKit
set_option maxRecDepth 100000
set_option linter.unusedVariables false
theorem ptF_u8 (s : Stt) (i : Nat) : 0 ≤ ptF s i ∧ ptF s i ≤ 255 := by
  unfold ptF encM
  have r := bnd_rng ((stL s).getD (i / 4) 0)
  generalize (stL s).getD (i / 4) 0 = x at r ⊢
  unfold enc
  generalize bnd x = y at r ⊢
  split
  · omega
  · split
    · omega
    · split <;> omega
set_option maxHeartbeats 1000000 in
theorem drawGetState_any (a : Option Addr) (len cap : Nat) (w : World) (hc : Code w a len w.heap.size) :
    Calls Try.prog 59 #[.slice a len cap] w fun e w' => ∃ (q c n : Nat) (f : Nat → Int), e = .returned (.slice (some ⟨q, 0, none⟩) n c) ∧ n ≤ 1001 ∧ n ≤ c ∧ U8 n f ∧ Own .u8 w' w.heap.size q (some ⟨q, 0, none⟩) n f ∧ Below w.heap.size w w' := by
  go_enter Try.func59, Try.ntmps59
  go_wp2_with fail
  refine (l1New_any a len cap _ hc).mono ?_
  rintro e w1 ⟨h, rfl, hw⟩
  have hb : Below w.heap.size w w1 := by rw [hw]; exact (Below.refl _ _).alloc (Nat.le_refl _) _
  have hk : Cur w1 w.heap.size a len cap := by rw [hw]; exact Cur.made w a len cap h _
  clear hw
  go_wp2_with fail
  refine (l5Draw_any w.heap.size a len cap _ (hc.below hb) (Nat.le_refl _) hk).mono ?_
  rintro e w2 ⟨s, hs, rfl, ho, hk2, hrw⟩
  have hb2 := hb.trans (ho.below (Nat.le_refl _) hb.size)
  obtain ⟨t, ht, oT, _, hd, _⟩ := hrw.like (by have := hs.pn; omega) (by have := hs.sn; omega)
  rw [ht]
  replace hd := hd hs
  have hok := hd.an.ok oT
  have hpn := hd.pn
  have hsn : t.sn ≤ 2 := by have := hd.sn; omega
  have hsz := hb.size
  clear hb ho hk hrw hs ht
  go_wp2_with fail
  refine (specPutState_any t _ hok (by omega) (by omega)).mono ?_
  rintro e w3 ⟨q3, c3, rfl, hb3, o3⟩
  have hk3 : Cur w3 w.heap.size a len cap := hk2.same (hb3.block _ hk2.1) hb3.size
  have hB3 := below_app hb2 hb3 hb2.size
  have hl := ptN_le t
  have hu : U8 (ptN t) (ptF t) := fun i _ => ptF_u8 _ i
  have hs3 := hB3.size
  have o3r := o3.rd
  clear hb3 hb2 hk2 hok oT o3 hd
  generalize ptN t = N at o3r hl hu ⊢
  generalize ptF t = F at o3r hu
  go_wp2_with fail
  refine (l1Bend_any w.heap.size a len cap _ (hc.below hB3) (Nat.le_refl _) hk3 _ q3 N c3 F (by omega) hu o3r).mono ?_
  rintro e w4 ⟨q, c, n, f, rfl, h1, h2, h3, h4, ho, hk4⟩
  have hb4 := hB3.trans (ho.below (Nat.le_refl _) hB3.size)
  go_wp2
  go_ret
  exact ⟨q, c, n, f, rfl, by omega, h2, h3, ⟨Nat.le_trans hs3 h4.1, h4.2⟩, hb4⟩
end Go.Proofs.Ytnlnledijpcjpab
