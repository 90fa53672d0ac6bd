/-
  Chapter 7: the specification's SourceFits (sfP). Written by tools/pa.gen.py. Own work.
-/
import Derived.Test.YtpfddfkjmbnpaaqPaC
import Derived.Test.YtpfddfkjmbnpaaqEvS
import Derived.Test.YtpfddfkjmbnpaaqRegBelow
namespace Go.Proofs.Ytpfddfkjmbnpaaq
open Go.ChangeShapes Go.WideShapes Go.ChangeAt Go.RowKit
set_option maxRecDepth 100000
set_option linter.unusedVariables false
set_option linter.unusedSimpArgs false

/-- whether the piece that hurts is one that is asked for -/
def sfA (p : Pt) (e : Ev) : Bool := decide (p.sr = 0) || decide (p.sr = e.sr)
def sfP (s : Stt) (p : Pt) (e : Ev) : Bool := sfA p e && decide (bits .and .i64 (srP s e).tr p.tr = p.tr)
theorem run_field_tr (q : Pc) (w : World) : (Instr.field 55 (.agg #[.int .i64 q.id, .int .i64 q.ow, .int .i64 q.si, .int .i64 q.zo, .int .i64 q.st, .int .i64 q.po, .int .i64 q.to, .int .i64 q.tr, .int .i64 q.pl, .int .i64 q.mi, .int .i64 q.ma, .bool q.de, .bool q.be]) 7).run Try.prog w = .ok (.int .i64 q.tr) w := by kernel_rfl
theorem alike_sfP {t s : Stt} (a : Alike t s) (p : Pt) (e : Ev) : sfP t p e = sfP s p e := by unfold sfP; rw [alike_srP a]
set_option maxHeartbeats 4000000 in
theorem sf_zt (s : Stt) (p : Pt) (e : Ev) (w : World) (hok : s.ok w) (hn : s.pn ≤ 1048576) (h1 : (p.sr == 0) = true) (h3 : decide (bits .and .i64 (srP s e).tr p.tr = p.tr) = true) : Calls Try.prog 11 #[(.agg #[.slice s.pa s.pn s.pcap, .slice s.sa s.sn s.scap, .int .i64 s.ac, .int .i64 s.cl]), (.agg #[.int .i64 p.kd, .int .i64 p.wh, .int .i64 p.sr, .int .i64 p.tr, .int .i64 p.pi, .int .i64 p.le, .int .i64 p.zo]), (.agg #[.int .i64 e.kd, .int .i64 e.sr, .int .i64 e.pi, .int .i64 e.si, .int .i64 e.nn, .int .i64 e.zo, .bool e.be])] w fun r w' => r = .returned (.bool (sfP s p e)) ∧ Below w.heap.size w w' := by
  have HR : Hid (sfP s p e = true) := by show sfP s p e = _; unfold sfP sfA; rw [h3]; simp at h1 ⊢; (try simp [*])
  have h4 : (bits .and .i64 (srP s e).tr p.tr == p.tr) = true := by simpa using h3
  clear h3
  have HB := (((Below.refl _ w).alloc (Nat.le_refl _) (.cells #[.slice s.pa s.pn s.pcap, .slice s.sa s.sn s.scap, .int .i64 s.ac, .int .i64 s.cl] 39)).alloc (by simp) (.cells #[.int .i64 p.kd, .int .i64 p.wh, .int .i64 p.sr, .int .i64 p.tr, .int .i64 p.pi, .int .i64 p.le, .int .i64 p.zo] 25)).alloc (by simp; omega) (.cells #[.int .i64 e.kd, .int .i64 e.sr, .int .i64 e.pi, .int .i64 e.si, .int .i64 e.nn, .int .i64 e.zo, .bool e.be] 41)
  have x1 := ((boxR_new w 39 #[.slice s.pa s.pn s.pcap, .slice s.sa s.sn s.scap, .int .i64 s.ac, .int .i64 s.cl]).alloc (.cells #[.int .i64 p.kd, .int .i64 p.wh, .int .i64 p.sr, .int .i64 p.tr, .int .i64 p.pi, .int .i64 p.le, .int .i64 p.zo] 25)).alloc (.cells #[.int .i64 e.kd, .int .i64 e.sr, .int .i64 e.pi, .int .i64 e.si, .int .i64 e.nn, .int .i64 e.zo, .bool e.be] 41)
  have x2 := (boxPt_new (w.alloc (.cells #[.slice s.pa s.pn s.pcap, .slice s.sa s.sn s.scap, .int .i64 s.ac, .int .i64 s.cl] 39)) 25 p).alloc (.cells #[.int .i64 e.kd, .int .i64 e.sr, .int .i64 e.pi, .int .i64 e.si, .int .i64 e.nn, .int .i64 e.zo, .bool e.be] 41)
  have x3 : BoxE (((w.alloc (.cells #[.slice s.pa s.pn s.pcap, .slice s.sa s.sn s.scap, .int .i64 s.ac, .int .i64 s.cl] 39)).alloc (.cells #[.int .i64 p.kd, .int .i64 p.wh, .int .i64 p.sr, .int .i64 p.tr, .int .i64 p.pi, .int .i64 p.le, .int .i64 p.zo] 25)).alloc (.cells #[.int .i64 e.kd, .int .i64 e.sr, .int .i64 e.pi, .int .i64 e.si, .int .i64 e.nn, .int .i64 e.zo, .bool e.be] 41)) (((w.alloc (.cells #[.slice s.pa s.pn s.pcap, .slice s.sa s.sn s.scap, .int .i64 s.ac, .int .i64 s.cl] 39)).alloc (.cells #[.int .i64 p.kd, .int .i64 p.wh, .int .i64 p.sr, .int .i64 p.tr, .int .i64 p.pi, .int .i64 p.le, .int .i64 p.zo] 25)).heap.size) 41 e := boxE_new _ _ _
  simp only [World.size_alloc] at x2 x3
  have hok1 := stt_grew hok HB
  generalize hW : ((w.alloc (.cells #[.slice s.pa s.pn s.pcap, .slice s.sa s.sn s.scap, .int .i64 s.ac, .int .i64 s.cl] 39)).alloc (.cells #[.int .i64 p.kd, .int .i64 p.wh, .int .i64 p.sr, .int .i64 p.tr, .int .i64 p.pi, .int .i64 p.le, .int .i64 p.zo] 25)).alloc (.cells #[.int .i64 e.kd, .int .i64 e.sr, .int .i64 e.pi, .int .i64 e.si, .int .i64 e.nn, .int .i64 e.zo, .bool e.be] 41) = W at HB x1 x2 x3 hok1
  have hne := bw_ne W
  have FT := fun v : World => run_field_tr (srP s e) v
  have HS : Hid (∀ x : BW W, s.ok x.u) := fun x => stt_grew hok1 x.h
  have c0 := fun x : BW W => x.cell (show W.cell? ⟨w.heap.size, 0, none⟩ = some (.slice s.pa s.pn s.pcap) from x1.cell 0)
  have c1 := fun x : BW W => x.cell (show W.cell? ⟨w.heap.size, 1, none⟩ = some (.slice s.sa s.sn s.scap) from x1.cell 1)
  have c2 := fun x : BW W => x.cell (show W.cell? ⟨w.heap.size, 2, none⟩ = some (.int .i64 s.ac) from x1.cell 2)
  have c3 := fun x : BW W => x.cell (show W.cell? ⟨w.heap.size, 3, none⟩ = some (.int .i64 s.cl) from x1.cell 3)
  obtain ⟨a0, a1, a2, a3, a4, a5, a6⟩ : CellsPt _ _ _ := x2.cells
  obtain ⟨b0, b1, b2, b3, b4, b5, b6⟩ : Cells7 _ _ _ := x3.cells
  have fa0 := fun x : BW W => x.cell a0
  have fa1 := fun x : BW W => x.cell a1
  have fa2 := fun x : BW W => x.cell a2
  have fa3 := fun x : BW W => x.cell a3
  have fa4 := fun x : BW W => x.cell a4
  have fa5 := fun x : BW W => x.cell a5
  have fa6 := fun x : BW W => x.cell a6
  have fb0 := fun x : BW W => x.cell b0
  have fb1 := fun x : BW W => x.cell b1
  have fb2 := fun x : BW W => x.cell b2
  have fb3 := fun x : BW W => x.cell b3
  have fb4 := fun x : BW W => x.cell b4
  have fb5 := fun x : BW W => x.cell b5
  have fb6 := fun x : BW W => x.cell b6
  clear a0 a1 a2 a3 a4 a5 a6 b0 b1 b2 b3 b4 b5 b6 hok hok1 x1 x2 x3
  go_enter Try.func11, Try.ntmps11
  go_wp2_with fail
  refine wp_region_below_lit (W := W) 23 (by kernel_rfl) (by kernel_rfl) (by decide) (Below.refl _ _) (by intro c d v a w h; cases d <;> exact h) ?_
  simp only [List.take_succ_cons, List.take_zero, List.drop_succ_cons, List.drop_zero]
  repeat (go_big_quiet_step ((go_at_call 26; refine quiet_below (specSource_any s e _ (HS.out _) hn))))
  refine wpQuiet_nil ?_
  rintro _ ⟨x, rfl⟩
  clear c0 c1 c2 c3 fa0 fa1 fa2 fa3 fa4 fa5 fa6 fb0 fb1 fb2 fb3 fb4 fb5 fb6
  go_wp2
  go_ret
  exact ⟨ret_bool' HR.out.symm, below_app HB x.h HB.size⟩
set_option maxHeartbeats 4000000 in
theorem sf_zf (s : Stt) (p : Pt) (e : Ev) (w : World) (hok : s.ok w) (hn : s.pn ≤ 1048576) (h1 : (p.sr == 0) = true) (h3 : decide (bits .and .i64 (srP s e).tr p.tr = p.tr) = false) : Calls Try.prog 11 #[(.agg #[.slice s.pa s.pn s.pcap, .slice s.sa s.sn s.scap, .int .i64 s.ac, .int .i64 s.cl]), (.agg #[.int .i64 p.kd, .int .i64 p.wh, .int .i64 p.sr, .int .i64 p.tr, .int .i64 p.pi, .int .i64 p.le, .int .i64 p.zo]), (.agg #[.int .i64 e.kd, .int .i64 e.sr, .int .i64 e.pi, .int .i64 e.si, .int .i64 e.nn, .int .i64 e.zo, .bool e.be])] w fun r w' => r = .returned (.bool (sfP s p e)) ∧ Below w.heap.size w w' := by
  have HR : Hid (sfP s p e = false) := by show sfP s p e = _; unfold sfP sfA; rw [h3]; simp at h1 ⊢; (try simp [*])
  have h4 : (bits .and .i64 (srP s e).tr p.tr == p.tr) = false := by simpa using h3
  clear h3
  have HB := (((Below.refl _ w).alloc (Nat.le_refl _) (.cells #[.slice s.pa s.pn s.pcap, .slice s.sa s.sn s.scap, .int .i64 s.ac, .int .i64 s.cl] 39)).alloc (by simp) (.cells #[.int .i64 p.kd, .int .i64 p.wh, .int .i64 p.sr, .int .i64 p.tr, .int .i64 p.pi, .int .i64 p.le, .int .i64 p.zo] 25)).alloc (by simp; omega) (.cells #[.int .i64 e.kd, .int .i64 e.sr, .int .i64 e.pi, .int .i64 e.si, .int .i64 e.nn, .int .i64 e.zo, .bool e.be] 41)
  have x1 := ((boxR_new w 39 #[.slice s.pa s.pn s.pcap, .slice s.sa s.sn s.scap, .int .i64 s.ac, .int .i64 s.cl]).alloc (.cells #[.int .i64 p.kd, .int .i64 p.wh, .int .i64 p.sr, .int .i64 p.tr, .int .i64 p.pi, .int .i64 p.le, .int .i64 p.zo] 25)).alloc (.cells #[.int .i64 e.kd, .int .i64 e.sr, .int .i64 e.pi, .int .i64 e.si, .int .i64 e.nn, .int .i64 e.zo, .bool e.be] 41)
  have x2 := (boxPt_new (w.alloc (.cells #[.slice s.pa s.pn s.pcap, .slice s.sa s.sn s.scap, .int .i64 s.ac, .int .i64 s.cl] 39)) 25 p).alloc (.cells #[.int .i64 e.kd, .int .i64 e.sr, .int .i64 e.pi, .int .i64 e.si, .int .i64 e.nn, .int .i64 e.zo, .bool e.be] 41)
  have x3 : BoxE (((w.alloc (.cells #[.slice s.pa s.pn s.pcap, .slice s.sa s.sn s.scap, .int .i64 s.ac, .int .i64 s.cl] 39)).alloc (.cells #[.int .i64 p.kd, .int .i64 p.wh, .int .i64 p.sr, .int .i64 p.tr, .int .i64 p.pi, .int .i64 p.le, .int .i64 p.zo] 25)).alloc (.cells #[.int .i64 e.kd, .int .i64 e.sr, .int .i64 e.pi, .int .i64 e.si, .int .i64 e.nn, .int .i64 e.zo, .bool e.be] 41)) (((w.alloc (.cells #[.slice s.pa s.pn s.pcap, .slice s.sa s.sn s.scap, .int .i64 s.ac, .int .i64 s.cl] 39)).alloc (.cells #[.int .i64 p.kd, .int .i64 p.wh, .int .i64 p.sr, .int .i64 p.tr, .int .i64 p.pi, .int .i64 p.le, .int .i64 p.zo] 25)).heap.size) 41 e := boxE_new _ _ _
  simp only [World.size_alloc] at x2 x3
  have hok1 := stt_grew hok HB
  generalize hW : ((w.alloc (.cells #[.slice s.pa s.pn s.pcap, .slice s.sa s.sn s.scap, .int .i64 s.ac, .int .i64 s.cl] 39)).alloc (.cells #[.int .i64 p.kd, .int .i64 p.wh, .int .i64 p.sr, .int .i64 p.tr, .int .i64 p.pi, .int .i64 p.le, .int .i64 p.zo] 25)).alloc (.cells #[.int .i64 e.kd, .int .i64 e.sr, .int .i64 e.pi, .int .i64 e.si, .int .i64 e.nn, .int .i64 e.zo, .bool e.be] 41) = W at HB x1 x2 x3 hok1
  have hne := bw_ne W
  have FT := fun v : World => run_field_tr (srP s e) v
  have HS : Hid (∀ x : BW W, s.ok x.u) := fun x => stt_grew hok1 x.h
  have c0 := fun x : BW W => x.cell (show W.cell? ⟨w.heap.size, 0, none⟩ = some (.slice s.pa s.pn s.pcap) from x1.cell 0)
  have c1 := fun x : BW W => x.cell (show W.cell? ⟨w.heap.size, 1, none⟩ = some (.slice s.sa s.sn s.scap) from x1.cell 1)
  have c2 := fun x : BW W => x.cell (show W.cell? ⟨w.heap.size, 2, none⟩ = some (.int .i64 s.ac) from x1.cell 2)
  have c3 := fun x : BW W => x.cell (show W.cell? ⟨w.heap.size, 3, none⟩ = some (.int .i64 s.cl) from x1.cell 3)
  obtain ⟨a0, a1, a2, a3, a4, a5, a6⟩ : CellsPt _ _ _ := x2.cells
  obtain ⟨b0, b1, b2, b3, b4, b5, b6⟩ : Cells7 _ _ _ := x3.cells
  have fa0 := fun x : BW W => x.cell a0
  have fa1 := fun x : BW W => x.cell a1
  have fa2 := fun x : BW W => x.cell a2
  have fa3 := fun x : BW W => x.cell a3
  have fa4 := fun x : BW W => x.cell a4
  have fa5 := fun x : BW W => x.cell a5
  have fa6 := fun x : BW W => x.cell a6
  have fb0 := fun x : BW W => x.cell b0
  have fb1 := fun x : BW W => x.cell b1
  have fb2 := fun x : BW W => x.cell b2
  have fb3 := fun x : BW W => x.cell b3
  have fb4 := fun x : BW W => x.cell b4
  have fb5 := fun x : BW W => x.cell b5
  have fb6 := fun x : BW W => x.cell b6
  clear a0 a1 a2 a3 a4 a5 a6 b0 b1 b2 b3 b4 b5 b6 hok hok1 x1 x2 x3
  go_enter Try.func11, Try.ntmps11
  go_wp2_with fail
  refine wp_region_below_lit (W := W) 23 (by kernel_rfl) (by kernel_rfl) (by decide) (Below.refl _ _) (by intro c d v a w h; cases d <;> exact h) ?_
  simp only [List.take_succ_cons, List.take_zero, List.drop_succ_cons, List.drop_zero]
  repeat (go_big_quiet_step ((go_at_call 26; refine quiet_below (specSource_any s e _ (HS.out _) hn))))
  refine wpQuiet_nil ?_
  rintro _ ⟨x, rfl⟩
  clear c0 c1 c2 c3 fa0 fa1 fa2 fa3 fa4 fa5 fa6 fb0 fb1 fb2 fb3 fb4 fb5 fb6
  go_wp2
  go_ret
  exact ⟨ret_bool' HR.out.symm, below_app HB x.h HB.size⟩
set_option maxHeartbeats 4000000 in
theorem sf_et (s : Stt) (p : Pt) (e : Ev) (w : World) (hok : s.ok w) (hn : s.pn ≤ 1048576) (h1 : (p.sr == 0) = false) (h2 : (p.sr == e.sr) = true) (h3 : decide (bits .and .i64 (srP s e).tr p.tr = p.tr) = true) : Calls Try.prog 11 #[(.agg #[.slice s.pa s.pn s.pcap, .slice s.sa s.sn s.scap, .int .i64 s.ac, .int .i64 s.cl]), (.agg #[.int .i64 p.kd, .int .i64 p.wh, .int .i64 p.sr, .int .i64 p.tr, .int .i64 p.pi, .int .i64 p.le, .int .i64 p.zo]), (.agg #[.int .i64 e.kd, .int .i64 e.sr, .int .i64 e.pi, .int .i64 e.si, .int .i64 e.nn, .int .i64 e.zo, .bool e.be])] w fun r w' => r = .returned (.bool (sfP s p e)) ∧ Below w.heap.size w w' := by
  have HR : Hid (sfP s p e = true) := by show sfP s p e = _; unfold sfP sfA; rw [h3]; simp at h1 h2 ⊢; (try simp [*])
  have h4 : (bits .and .i64 (srP s e).tr p.tr == p.tr) = true := by simpa using h3
  clear h3
  have HB := (((Below.refl _ w).alloc (Nat.le_refl _) (.cells #[.slice s.pa s.pn s.pcap, .slice s.sa s.sn s.scap, .int .i64 s.ac, .int .i64 s.cl] 39)).alloc (by simp) (.cells #[.int .i64 p.kd, .int .i64 p.wh, .int .i64 p.sr, .int .i64 p.tr, .int .i64 p.pi, .int .i64 p.le, .int .i64 p.zo] 25)).alloc (by simp; omega) (.cells #[.int .i64 e.kd, .int .i64 e.sr, .int .i64 e.pi, .int .i64 e.si, .int .i64 e.nn, .int .i64 e.zo, .bool e.be] 41)
  have x1 := ((boxR_new w 39 #[.slice s.pa s.pn s.pcap, .slice s.sa s.sn s.scap, .int .i64 s.ac, .int .i64 s.cl]).alloc (.cells #[.int .i64 p.kd, .int .i64 p.wh, .int .i64 p.sr, .int .i64 p.tr, .int .i64 p.pi, .int .i64 p.le, .int .i64 p.zo] 25)).alloc (.cells #[.int .i64 e.kd, .int .i64 e.sr, .int .i64 e.pi, .int .i64 e.si, .int .i64 e.nn, .int .i64 e.zo, .bool e.be] 41)
  have x2 := (boxPt_new (w.alloc (.cells #[.slice s.pa s.pn s.pcap, .slice s.sa s.sn s.scap, .int .i64 s.ac, .int .i64 s.cl] 39)) 25 p).alloc (.cells #[.int .i64 e.kd, .int .i64 e.sr, .int .i64 e.pi, .int .i64 e.si, .int .i64 e.nn, .int .i64 e.zo, .bool e.be] 41)
  have x3 : BoxE (((w.alloc (.cells #[.slice s.pa s.pn s.pcap, .slice s.sa s.sn s.scap, .int .i64 s.ac, .int .i64 s.cl] 39)).alloc (.cells #[.int .i64 p.kd, .int .i64 p.wh, .int .i64 p.sr, .int .i64 p.tr, .int .i64 p.pi, .int .i64 p.le, .int .i64 p.zo] 25)).alloc (.cells #[.int .i64 e.kd, .int .i64 e.sr, .int .i64 e.pi, .int .i64 e.si, .int .i64 e.nn, .int .i64 e.zo, .bool e.be] 41)) (((w.alloc (.cells #[.slice s.pa s.pn s.pcap, .slice s.sa s.sn s.scap, .int .i64 s.ac, .int .i64 s.cl] 39)).alloc (.cells #[.int .i64 p.kd, .int .i64 p.wh, .int .i64 p.sr, .int .i64 p.tr, .int .i64 p.pi, .int .i64 p.le, .int .i64 p.zo] 25)).heap.size) 41 e := boxE_new _ _ _
  simp only [World.size_alloc] at x2 x3
  have hok1 := stt_grew hok HB
  generalize hW : ((w.alloc (.cells #[.slice s.pa s.pn s.pcap, .slice s.sa s.sn s.scap, .int .i64 s.ac, .int .i64 s.cl] 39)).alloc (.cells #[.int .i64 p.kd, .int .i64 p.wh, .int .i64 p.sr, .int .i64 p.tr, .int .i64 p.pi, .int .i64 p.le, .int .i64 p.zo] 25)).alloc (.cells #[.int .i64 e.kd, .int .i64 e.sr, .int .i64 e.pi, .int .i64 e.si, .int .i64 e.nn, .int .i64 e.zo, .bool e.be] 41) = W at HB x1 x2 x3 hok1
  have hne := bw_ne W
  have FT := fun v : World => run_field_tr (srP s e) v
  have HS : Hid (∀ x : BW W, s.ok x.u) := fun x => stt_grew hok1 x.h
  have c0 := fun x : BW W => x.cell (show W.cell? ⟨w.heap.size, 0, none⟩ = some (.slice s.pa s.pn s.pcap) from x1.cell 0)
  have c1 := fun x : BW W => x.cell (show W.cell? ⟨w.heap.size, 1, none⟩ = some (.slice s.sa s.sn s.scap) from x1.cell 1)
  have c2 := fun x : BW W => x.cell (show W.cell? ⟨w.heap.size, 2, none⟩ = some (.int .i64 s.ac) from x1.cell 2)
  have c3 := fun x : BW W => x.cell (show W.cell? ⟨w.heap.size, 3, none⟩ = some (.int .i64 s.cl) from x1.cell 3)
  obtain ⟨a0, a1, a2, a3, a4, a5, a6⟩ : CellsPt _ _ _ := x2.cells
  obtain ⟨b0, b1, b2, b3, b4, b5, b6⟩ : Cells7 _ _ _ := x3.cells
  have fa0 := fun x : BW W => x.cell a0
  have fa1 := fun x : BW W => x.cell a1
  have fa2 := fun x : BW W => x.cell a2
  have fa3 := fun x : BW W => x.cell a3
  have fa4 := fun x : BW W => x.cell a4
  have fa5 := fun x : BW W => x.cell a5
  have fa6 := fun x : BW W => x.cell a6
  have fb0 := fun x : BW W => x.cell b0
  have fb1 := fun x : BW W => x.cell b1
  have fb2 := fun x : BW W => x.cell b2
  have fb3 := fun x : BW W => x.cell b3
  have fb4 := fun x : BW W => x.cell b4
  have fb5 := fun x : BW W => x.cell b5
  have fb6 := fun x : BW W => x.cell b6
  clear a0 a1 a2 a3 a4 a5 a6 b0 b1 b2 b3 b4 b5 b6 hok hok1 x1 x2 x3
  go_enter Try.func11, Try.ntmps11
  go_wp2_with fail
  refine wp_region_below_lit (W := W) 23 (by kernel_rfl) (by kernel_rfl) (by decide) (Below.refl _ _) (by intro c d v a w h; cases d <;> exact h) ?_
  simp only [List.take_succ_cons, List.take_zero, List.drop_succ_cons, List.drop_zero]
  repeat (go_big_quiet_step ((go_at_call 26; refine quiet_below (specSource_any s e _ (HS.out _) hn))))
  refine wpQuiet_nil ?_
  rintro _ ⟨x, rfl⟩
  clear c0 c1 c2 c3 fa0 fa1 fa2 fa3 fa4 fa5 fa6 fb0 fb1 fb2 fb3 fb4 fb5 fb6
  go_wp2
  go_ret
  exact ⟨ret_bool' HR.out.symm, below_app HB x.h HB.size⟩
set_option maxHeartbeats 4000000 in
theorem sf_ef (s : Stt) (p : Pt) (e : Ev) (w : World) (hok : s.ok w) (hn : s.pn ≤ 1048576) (h1 : (p.sr == 0) = false) (h2 : (p.sr == e.sr) = true) (h3 : decide (bits .and .i64 (srP s e).tr p.tr = p.tr) = false) : Calls Try.prog 11 #[(.agg #[.slice s.pa s.pn s.pcap, .slice s.sa s.sn s.scap, .int .i64 s.ac, .int .i64 s.cl]), (.agg #[.int .i64 p.kd, .int .i64 p.wh, .int .i64 p.sr, .int .i64 p.tr, .int .i64 p.pi, .int .i64 p.le, .int .i64 p.zo]), (.agg #[.int .i64 e.kd, .int .i64 e.sr, .int .i64 e.pi, .int .i64 e.si, .int .i64 e.nn, .int .i64 e.zo, .bool e.be])] w fun r w' => r = .returned (.bool (sfP s p e)) ∧ Below w.heap.size w w' := by
  have HR : Hid (sfP s p e = false) := by show sfP s p e = _; unfold sfP sfA; rw [h3]; simp at h1 h2 ⊢; (try simp [*])
  have h4 : (bits .and .i64 (srP s e).tr p.tr == p.tr) = false := by simpa using h3
  clear h3
  have HB := (((Below.refl _ w).alloc (Nat.le_refl _) (.cells #[.slice s.pa s.pn s.pcap, .slice s.sa s.sn s.scap, .int .i64 s.ac, .int .i64 s.cl] 39)).alloc (by simp) (.cells #[.int .i64 p.kd, .int .i64 p.wh, .int .i64 p.sr, .int .i64 p.tr, .int .i64 p.pi, .int .i64 p.le, .int .i64 p.zo] 25)).alloc (by simp; omega) (.cells #[.int .i64 e.kd, .int .i64 e.sr, .int .i64 e.pi, .int .i64 e.si, .int .i64 e.nn, .int .i64 e.zo, .bool e.be] 41)
  have x1 := ((boxR_new w 39 #[.slice s.pa s.pn s.pcap, .slice s.sa s.sn s.scap, .int .i64 s.ac, .int .i64 s.cl]).alloc (.cells #[.int .i64 p.kd, .int .i64 p.wh, .int .i64 p.sr, .int .i64 p.tr, .int .i64 p.pi, .int .i64 p.le, .int .i64 p.zo] 25)).alloc (.cells #[.int .i64 e.kd, .int .i64 e.sr, .int .i64 e.pi, .int .i64 e.si, .int .i64 e.nn, .int .i64 e.zo, .bool e.be] 41)
  have x2 := (boxPt_new (w.alloc (.cells #[.slice s.pa s.pn s.pcap, .slice s.sa s.sn s.scap, .int .i64 s.ac, .int .i64 s.cl] 39)) 25 p).alloc (.cells #[.int .i64 e.kd, .int .i64 e.sr, .int .i64 e.pi, .int .i64 e.si, .int .i64 e.nn, .int .i64 e.zo, .bool e.be] 41)
  have x3 : BoxE (((w.alloc (.cells #[.slice s.pa s.pn s.pcap, .slice s.sa s.sn s.scap, .int .i64 s.ac, .int .i64 s.cl] 39)).alloc (.cells #[.int .i64 p.kd, .int .i64 p.wh, .int .i64 p.sr, .int .i64 p.tr, .int .i64 p.pi, .int .i64 p.le, .int .i64 p.zo] 25)).alloc (.cells #[.int .i64 e.kd, .int .i64 e.sr, .int .i64 e.pi, .int .i64 e.si, .int .i64 e.nn, .int .i64 e.zo, .bool e.be] 41)) (((w.alloc (.cells #[.slice s.pa s.pn s.pcap, .slice s.sa s.sn s.scap, .int .i64 s.ac, .int .i64 s.cl] 39)).alloc (.cells #[.int .i64 p.kd, .int .i64 p.wh, .int .i64 p.sr, .int .i64 p.tr, .int .i64 p.pi, .int .i64 p.le, .int .i64 p.zo] 25)).heap.size) 41 e := boxE_new _ _ _
  simp only [World.size_alloc] at x2 x3
  have hok1 := stt_grew hok HB
  generalize hW : ((w.alloc (.cells #[.slice s.pa s.pn s.pcap, .slice s.sa s.sn s.scap, .int .i64 s.ac, .int .i64 s.cl] 39)).alloc (.cells #[.int .i64 p.kd, .int .i64 p.wh, .int .i64 p.sr, .int .i64 p.tr, .int .i64 p.pi, .int .i64 p.le, .int .i64 p.zo] 25)).alloc (.cells #[.int .i64 e.kd, .int .i64 e.sr, .int .i64 e.pi, .int .i64 e.si, .int .i64 e.nn, .int .i64 e.zo, .bool e.be] 41) = W at HB x1 x2 x3 hok1
  have hne := bw_ne W
  have FT := fun v : World => run_field_tr (srP s e) v
  have HS : Hid (∀ x : BW W, s.ok x.u) := fun x => stt_grew hok1 x.h
  have c0 := fun x : BW W => x.cell (show W.cell? ⟨w.heap.size, 0, none⟩ = some (.slice s.pa s.pn s.pcap) from x1.cell 0)
  have c1 := fun x : BW W => x.cell (show W.cell? ⟨w.heap.size, 1, none⟩ = some (.slice s.sa s.sn s.scap) from x1.cell 1)
  have c2 := fun x : BW W => x.cell (show W.cell? ⟨w.heap.size, 2, none⟩ = some (.int .i64 s.ac) from x1.cell 2)
  have c3 := fun x : BW W => x.cell (show W.cell? ⟨w.heap.size, 3, none⟩ = some (.int .i64 s.cl) from x1.cell 3)
  obtain ⟨a0, a1, a2, a3, a4, a5, a6⟩ : CellsPt _ _ _ := x2.cells
  obtain ⟨b0, b1, b2, b3, b4, b5, b6⟩ : Cells7 _ _ _ := x3.cells
  have fa0 := fun x : BW W => x.cell a0
  have fa1 := fun x : BW W => x.cell a1
  have fa2 := fun x : BW W => x.cell a2
  have fa3 := fun x : BW W => x.cell a3
  have fa4 := fun x : BW W => x.cell a4
  have fa5 := fun x : BW W => x.cell a5
  have fa6 := fun x : BW W => x.cell a6
  have fb0 := fun x : BW W => x.cell b0
  have fb1 := fun x : BW W => x.cell b1
  have fb2 := fun x : BW W => x.cell b2
  have fb3 := fun x : BW W => x.cell b3
  have fb4 := fun x : BW W => x.cell b4
  have fb5 := fun x : BW W => x.cell b5
  have fb6 := fun x : BW W => x.cell b6
  clear a0 a1 a2 a3 a4 a5 a6 b0 b1 b2 b3 b4 b5 b6 hok hok1 x1 x2 x3
  go_enter Try.func11, Try.ntmps11
  go_wp2_with fail
  refine wp_region_below_lit (W := W) 23 (by kernel_rfl) (by kernel_rfl) (by decide) (Below.refl _ _) (by intro c d v a w h; cases d <;> exact h) ?_
  simp only [List.take_succ_cons, List.take_zero, List.drop_succ_cons, List.drop_zero]
  repeat (go_big_quiet_step ((go_at_call 26; refine quiet_below (specSource_any s e _ (HS.out _) hn))))
  refine wpQuiet_nil ?_
  rintro _ ⟨x, rfl⟩
  clear c0 c1 c2 c3 fa0 fa1 fa2 fa3 fa4 fa5 fa6 fb0 fb1 fb2 fb3 fb4 fb5 fb6
  go_wp2
  go_ret
  exact ⟨ret_bool' HR.out.symm, below_app HB x.h HB.size⟩
set_option maxHeartbeats 4000000 in
theorem sf_no (s : Stt) (p : Pt) (e : Ev) (w : World) (hok : s.ok w) (hn : s.pn ≤ 1048576) (h1 : (p.sr == 0) = false) (h2 : (p.sr == e.sr) = false) : Calls Try.prog 11 #[(.agg #[.slice s.pa s.pn s.pcap, .slice s.sa s.sn s.scap, .int .i64 s.ac, .int .i64 s.cl]), (.agg #[.int .i64 p.kd, .int .i64 p.wh, .int .i64 p.sr, .int .i64 p.tr, .int .i64 p.pi, .int .i64 p.le, .int .i64 p.zo]), (.agg #[.int .i64 e.kd, .int .i64 e.sr, .int .i64 e.pi, .int .i64 e.si, .int .i64 e.nn, .int .i64 e.zo, .bool e.be])] w fun r w' => r = .returned (.bool (sfP s p e)) ∧ Below w.heap.size w w' := by
  have HR : Hid (sfP s p e = false) := by show sfP s p e = _; unfold sfP sfA; simp at h1 h2 ⊢; (try simp [*])
  have HB := (((Below.refl _ w).alloc (Nat.le_refl _) (.cells #[.slice s.pa s.pn s.pcap, .slice s.sa s.sn s.scap, .int .i64 s.ac, .int .i64 s.cl] 39)).alloc (by simp) (.cells #[.int .i64 p.kd, .int .i64 p.wh, .int .i64 p.sr, .int .i64 p.tr, .int .i64 p.pi, .int .i64 p.le, .int .i64 p.zo] 25)).alloc (by simp; omega) (.cells #[.int .i64 e.kd, .int .i64 e.sr, .int .i64 e.pi, .int .i64 e.si, .int .i64 e.nn, .int .i64 e.zo, .bool e.be] 41)
  have x1 := ((boxR_new w 39 #[.slice s.pa s.pn s.pcap, .slice s.sa s.sn s.scap, .int .i64 s.ac, .int .i64 s.cl]).alloc (.cells #[.int .i64 p.kd, .int .i64 p.wh, .int .i64 p.sr, .int .i64 p.tr, .int .i64 p.pi, .int .i64 p.le, .int .i64 p.zo] 25)).alloc (.cells #[.int .i64 e.kd, .int .i64 e.sr, .int .i64 e.pi, .int .i64 e.si, .int .i64 e.nn, .int .i64 e.zo, .bool e.be] 41)
  have x2 := (boxPt_new (w.alloc (.cells #[.slice s.pa s.pn s.pcap, .slice s.sa s.sn s.scap, .int .i64 s.ac, .int .i64 s.cl] 39)) 25 p).alloc (.cells #[.int .i64 e.kd, .int .i64 e.sr, .int .i64 e.pi, .int .i64 e.si, .int .i64 e.nn, .int .i64 e.zo, .bool e.be] 41)
  have x3 : BoxE (((w.alloc (.cells #[.slice s.pa s.pn s.pcap, .slice s.sa s.sn s.scap, .int .i64 s.ac, .int .i64 s.cl] 39)).alloc (.cells #[.int .i64 p.kd, .int .i64 p.wh, .int .i64 p.sr, .int .i64 p.tr, .int .i64 p.pi, .int .i64 p.le, .int .i64 p.zo] 25)).alloc (.cells #[.int .i64 e.kd, .int .i64 e.sr, .int .i64 e.pi, .int .i64 e.si, .int .i64 e.nn, .int .i64 e.zo, .bool e.be] 41)) (((w.alloc (.cells #[.slice s.pa s.pn s.pcap, .slice s.sa s.sn s.scap, .int .i64 s.ac, .int .i64 s.cl] 39)).alloc (.cells #[.int .i64 p.kd, .int .i64 p.wh, .int .i64 p.sr, .int .i64 p.tr, .int .i64 p.pi, .int .i64 p.le, .int .i64 p.zo] 25)).heap.size) 41 e := boxE_new _ _ _
  simp only [World.size_alloc] at x2 x3
  have hok1 := stt_grew hok HB
  generalize hW : ((w.alloc (.cells #[.slice s.pa s.pn s.pcap, .slice s.sa s.sn s.scap, .int .i64 s.ac, .int .i64 s.cl] 39)).alloc (.cells #[.int .i64 p.kd, .int .i64 p.wh, .int .i64 p.sr, .int .i64 p.tr, .int .i64 p.pi, .int .i64 p.le, .int .i64 p.zo] 25)).alloc (.cells #[.int .i64 e.kd, .int .i64 e.sr, .int .i64 e.pi, .int .i64 e.si, .int .i64 e.nn, .int .i64 e.zo, .bool e.be] 41) = W at HB x1 x2 x3 hok1
  have hne := bw_ne W
  have FT := fun v : World => run_field_tr (srP s e) v
  have HS : Hid (∀ x : BW W, s.ok x.u) := fun x => stt_grew hok1 x.h
  have c0 := fun x : BW W => x.cell (show W.cell? ⟨w.heap.size, 0, none⟩ = some (.slice s.pa s.pn s.pcap) from x1.cell 0)
  have c1 := fun x : BW W => x.cell (show W.cell? ⟨w.heap.size, 1, none⟩ = some (.slice s.sa s.sn s.scap) from x1.cell 1)
  have c2 := fun x : BW W => x.cell (show W.cell? ⟨w.heap.size, 2, none⟩ = some (.int .i64 s.ac) from x1.cell 2)
  have c3 := fun x : BW W => x.cell (show W.cell? ⟨w.heap.size, 3, none⟩ = some (.int .i64 s.cl) from x1.cell 3)
  obtain ⟨a0, a1, a2, a3, a4, a5, a6⟩ : CellsPt _ _ _ := x2.cells
  obtain ⟨b0, b1, b2, b3, b4, b5, b6⟩ : Cells7 _ _ _ := x3.cells
  have fa0 := fun x : BW W => x.cell a0
  have fa1 := fun x : BW W => x.cell a1
  have fa2 := fun x : BW W => x.cell a2
  have fa3 := fun x : BW W => x.cell a3
  have fa4 := fun x : BW W => x.cell a4
  have fa5 := fun x : BW W => x.cell a5
  have fa6 := fun x : BW W => x.cell a6
  have fb0 := fun x : BW W => x.cell b0
  have fb1 := fun x : BW W => x.cell b1
  have fb2 := fun x : BW W => x.cell b2
  have fb3 := fun x : BW W => x.cell b3
  have fb4 := fun x : BW W => x.cell b4
  have fb5 := fun x : BW W => x.cell b5
  have fb6 := fun x : BW W => x.cell b6
  clear a0 a1 a2 a3 a4 a5 a6 b0 b1 b2 b3 b4 b5 b6 hok hok1 x1 x2 x3
  go_enter Try.func11, Try.ntmps11
  go_wp2_with fail
  refine wp_region_below_lit (W := W) 23 (by kernel_rfl) (by kernel_rfl) (by decide) (Below.refl _ _) (by intro c d v a w h; cases d <;> exact h) ?_
  simp only [List.take_succ_cons, List.take_zero, List.drop_succ_cons, List.drop_zero]
  repeat (go_big_quiet_step (fail))
  refine wpQuiet_nil ?_
  rintro _ ⟨x, rfl⟩
  clear c0 c1 c2 c3 fa0 fa1 fa2 fa3 fa4 fa5 fa6 fb0 fb1 fb2 fb3 fb4 fb5 fb6
  go_wp2
  go_ret
  exact ⟨ret_bool' HR.out.symm, below_app HB x.h HB.size⟩
theorem specSourceFits_any (s : Stt) (p : Pt) (e : Ev) (w : World) (hok : s.ok w) (hn : s.pn ≤ 1048576) : Calls Try.prog 11 #[(.agg #[.slice s.pa s.pn s.pcap, .slice s.sa s.sn s.scap, .int .i64 s.ac, .int .i64 s.cl]), (.agg #[.int .i64 p.kd, .int .i64 p.wh, .int .i64 p.sr, .int .i64 p.tr, .int .i64 p.pi, .int .i64 p.le, .int .i64 p.zo]), (.agg #[.int .i64 e.kd, .int .i64 e.sr, .int .i64 e.pi, .int .i64 e.si, .int .i64 e.nn, .int .i64 e.zo, .bool e.be])] w fun r w' => r = .returned (.bool (sfP s p e)) ∧ Below w.heap.size w w' := by
  cases h3 : decide (bits .and .i64 (srP s e).tr p.tr = p.tr) <;> cases h1 : (p.sr == 0)
  · cases h2 : (p.sr == e.sr)
    · exact sf_no s p e w hok hn h1 h2
    · exact sf_ef s p e w hok hn h1 h2 h3
  · exact sf_zf s p e w hok hn h1 h3
  · cases h2 : (p.sr == e.sr)
    · exact sf_no s p e w hok hn h1 h2
    · exact sf_et s p e w hok hn h1 h2 h3
  · exact sf_zt s p e w hok hn h1 h3
section
variable {t s : Stt} {w w0 : World} {B : Nat}
theorem specSourceFits_al (p : Pt) (e : Ev) (h : OwnT w B t) (a : Alike t s) (hs : s.ok w0) (hn : s.pn ≤ 1048576) (hn2 : s.sn ≤ 1048576) : Calls Try.prog 11 #[(.agg #[.slice t.pa t.pn t.pcap, .slice t.sa t.sn t.scap, .int .i64 t.ac, .int .i64 t.cl]), (.agg #[.int .i64 p.kd, .int .i64 p.wh, .int .i64 p.sr, .int .i64 p.tr, .int .i64 p.pi, .int .i64 p.le, .int .i64 p.zo]), (.agg #[.int .i64 e.kd, .int .i64 e.sr, .int .i64 e.pi, .int .i64 e.si, .int .i64 e.nn, .int .i64 e.zo, .bool e.be])] w fun r w' => r = .returned (.bool (sfP s p e)) ∧ Below w.heap.size w w' := by
  rw [← alike_sfP a]; exact specSourceFits_any t p e w (okT h a hs) (by rw [a.pn]; omega)
end
end Go.Proofs.Ytpfddfkjmbnpaaq
