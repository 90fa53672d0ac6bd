/-
  Chapter 6: Source, of the specification and of the program. Written by tools/ev.gen.py. Own work.
-/
import Derived.Test.YtpfddfkjmbnpaaqEvA
import Derived.Test.YtpfddfkjmbnpaaqState8
import Derived.Test.YtpfddfkjmbnpaaqStAt
import Derived.Test.YtpfddfkjmbnpaaqStLaw
namespace Go.Proofs.Ytpfddfkjmbnpaaq
open Go.ChangeShapes Go.WideShapes Go.ChangeAt Go.RowKit
set_option maxRecDepth 100000
set_option linter.unusedVariables false
set_option linter.unusedSimpArgs false

theorem paI_cases (n : Nat) (f : Nat → Pc) (id : Int) : paI n f id = -1 ∨ ∃ k : Nat, paI n f id = (k : Int) ∧ k < n := by
  unfold paI
  cases h : (List.range n).find? (fun i => decide ((f i).id = id)) with
  | none => exact .inl rfl
  | some i => exact .inr ⟨i, rfl, List.mem_range.1 (List.mem_of_find?_eq_some h)⟩
/-- the piece that hurts -/
def srP (s : Stt) (e : Ev) : Pc := if e.kd = 1 then (if paI s.pn s.ps e.sr = -1 then zP else s.ps (paI s.pn s.ps e.sr).toNat) else zP
theorem srP_kd {s : Stt} {e : Ev} (h : ¬ e.kd = 1) : srP s e = zP := by unfold srP; rw [if_neg h]
theorem srP_no {s : Stt} {e : Ev} (h : paI s.pn s.ps e.sr = -1) : srP s e = zP := by unfold srP; rw [if_pos h]; split <;> rfl
theorem srP_at {s : Stt} {e : Ev} {k : Nat} (h1 : e.kd = 1) (h : paI s.pn s.ps e.sr = (k : Int)) : srP s e = s.ps k := by
  unfold srP; rw [if_pos h1, if_neg (by rw [h]; omega), h]; rfl
theorem alike_srP {t s : Stt} (a : Alike t s) (e : Ev) : srP t e = srP s e := by unfold srP; rw [a.pn, a.ps]
set_option maxHeartbeats 4000000 in
theorem specSource_any (s : Stt) (e : Ev) (w : World) (hok : s.ok w) (hn : s.pn ≤ 1048576) : Calls Try.prog 26 #[(.agg #[.slice s.pa s.pn s.pcap, .slice s.sa s.sn s.scap, .int .i64 s.ac, .int .i64 s.cl]), (.agg #[.int .i64 e.kd, .int .i64 e.sr, .int .i64 e.pi, .int .i64 e.si, .int .i64 e.nn, .int .i64 e.zo, .bool e.be])] w fun r w' => r = .returned (.agg #[.int .i64 (srP s e).id, .int .i64 (srP s e).ow, .int .i64 (srP s e).si, .int .i64 (srP s e).zo, .int .i64 (srP s e).st, .int .i64 (srP s e).po, .int .i64 (srP s e).to, .int .i64 (srP s e).tr, .int .i64 (srP s e).pl, .int .i64 (srP s e).mi, .int .i64 (srP s e).ma, .bool (srP s e).de, .bool (srP s e).be]) ∧ Below w.heap.size w w' := by
  have hb0 := (((Below.refl _ w).alloc (Nat.le_refl _) (.cells #[.slice s.pa s.pn s.pcap, .slice s.sa s.sn s.scap, .int .i64 s.ac, .int .i64 s.cl] 39)).alloc (by simp) (.cells #[.int .i64 e.kd, .int .i64 e.sr, .int .i64 e.pi, .int .i64 e.si, .int .i64 e.nn, .int .i64 e.zo, .bool e.be] 41)).alloc (by simp; omega) (.cells #[.int .i64 0, .int .i64 0, .int .i64 0, .int .i64 0, .int .i64 0, .int .i64 0, .int .i64 0, .int .i64 0, .int .i64 0, .int .i64 0, .int .i64 0, .bool false, .bool false] 55)
  have x1 := ((boxR_new w 39 #[.slice s.pa s.pn s.pcap, .slice s.sa s.sn s.scap, .int .i64 s.ac, .int .i64 s.cl]).alloc (.cells #[.int .i64 e.kd, .int .i64 e.sr, .int .i64 e.pi, .int .i64 e.si, .int .i64 e.nn, .int .i64 e.zo, .bool e.be] 41)).alloc (.cells #[.int .i64 0, .int .i64 0, .int .i64 0, .int .i64 0, .int .i64 0, .int .i64 0, .int .i64 0, .int .i64 0, .int .i64 0, .int .i64 0, .int .i64 0, .bool false, .bool false] 55)
  have x2 := (boxE_new (w.alloc (.cells #[.slice s.pa s.pn s.pcap, .slice s.sa s.sn s.scap, .int .i64 s.ac, .int .i64 s.cl] 39)) 41 e).alloc (.cells #[.int .i64 0, .int .i64 0, .int .i64 0, .int .i64 0, .int .i64 0, .int .i64 0, .int .i64 0, .int .i64 0, .int .i64 0, .int .i64 0, .int .i64 0, .bool false, .bool false] 55)
  have x3 : BoxR (((w.alloc (.cells #[.slice s.pa s.pn s.pcap, .slice s.sa s.sn s.scap, .int .i64 s.ac, .int .i64 s.cl] 39)).alloc (.cells #[.int .i64 e.kd, .int .i64 e.sr, .int .i64 e.pi, .int .i64 e.si, .int .i64 e.nn, .int .i64 e.zo, .bool e.be] 41)).alloc (.cells #[.int .i64 0, .int .i64 0, .int .i64 0, .int .i64 0, .int .i64 0, .int .i64 0, .int .i64 0, .int .i64 0, .int .i64 0, .int .i64 0, .int .i64 0, .bool false, .bool false] 55)) (((w.alloc (.cells #[.slice s.pa s.pn s.pcap, .slice s.sa s.sn s.scap, .int .i64 s.ac, .int .i64 s.cl] 39)).alloc (.cells #[.int .i64 e.kd, .int .i64 e.sr, .int .i64 e.pi, .int .i64 e.si, .int .i64 e.nn, .int .i64 e.zo, .bool e.be] 41)).heap.size) 55 #[.int .i64 0, .int .i64 0, .int .i64 0, .int .i64 0, .int .i64 0, .int .i64 0, .int .i64 0, .int .i64 0, .int .i64 0, .int .i64 0, .int .i64 0, .bool false, .bool false] := boxR_new _ _ _
  simp only [World.size_alloc] at x2 x3
  have hok1 := stt_grew hok hb0
  generalize hW : ((w.alloc (.cells #[.slice s.pa s.pn s.pcap, .slice s.sa s.sn s.scap, .int .i64 s.ac, .int .i64 s.cl] 39)).alloc (.cells #[.int .i64 e.kd, .int .i64 e.sr, .int .i64 e.pi, .int .i64 e.si, .int .i64 e.nn, .int .i64 e.zo, .bool e.be] 41)).alloc (.cells #[.int .i64 0, .int .i64 0, .int .i64 0, .int .i64 0, .int .i64 0, .int .i64 0, .int .i64 0, .int .i64 0, .int .i64 0, .int .i64 0, .int .i64 0, .bool false, .bool false] 55) = W at hb0 x1 x2 x3 hok1
  have hsz : w.heap.size + 2 < W.heap.size := x3.lt
  have c0 := x1.cell 0
  have c1 := x1.cell 1
  have c2 := x1.cell 2
  have c3 := x1.cell 3
  simp at c0 c1 c2 c3
  obtain ⟨k0, k1, k2, k3, k4, k5, k6⟩ : Cells7 _ _ _ := x2.cells
  go_enter Try.func26, Try.ntmps26
  go_wp2_with fail
  refine (specPieceAt_any s e.sr _ hok1 hn).mono ?_
  rintro r w1 ⟨rfl, hb1⟩
  replace x1 := x1.grew hb1
  replace x2 := x2.grew hb1
  replace x3 := x3.grew hb1
  have hok2 := stt_grew hok1 hb1
  have hbb := below_app hb0 hb1 hb0.size
  clear c0 c1 c2 c3 k0 k1 k2 k3 k4 k5 k6 hb1 hW hok1
  have c0 := x1.cell 0
  simp at c0
  obtain ⟨k0, k1, k2, k3, k4, k5, k6⟩ : Cells7 _ _ _ := x2.cells
  by_cases hk : e.kd = 1
  case neg =>
    have HS : Hid (srP s e = zP) := srP_kd hk
    go_wp2_with (refine wpList_store_row rfl 55 (.tmp 4) _ rfl (w.heap.size + 2) _ (by rfl) (by rfl) _ _ x3 (by kernel_rfl) (by rfl) (by simp [Value.oneCell']) ?_)
    (try simp only [Exit.inBlock, Exit.then]); refine bodyPost_ret (results_cell_row rfl _ _ (w.heap.size + 2) _ _ _ _ rfl (setRow_heap _ _ _ _ _ _ x3) Try.underlying55 rfl (by kernel_rfl)) rfl ?_
    exact ⟨by rw [HS.out]; rfl, below_setRow hbb (by omega) _⟩
  rcases paI_cases s.pn s.ps e.sr with hq | ⟨k, hq, hlt⟩
  · have HS : Hid (srP s e = zP) := srP_no hq
    rw [hq]
    clear hq
    go_wp2_with (refine wpList_store_row rfl 55 (.tmp 4) _ rfl (w.heap.size + 2) _ (by rfl) (by rfl) _ _ x3 (by kernel_rfl) (by rfl) (by simp [Value.oneCell']) ?_)
    (try simp only [Exit.inBlock, Exit.then]); refine bodyPost_ret (results_cell_row rfl _ _ (w.heap.size + 2) _ _ _ _ rfl (setRow_heap _ _ _ _ _ _ x3) Try.underlying55 rfl (by kernel_rfl)) rfl ?_
    exact ⟨by rw [HS.out]; rfl, below_setRow hbb (by omega) _⟩
  have h1 : Hid (e.kd = 1) := hk
  have HS : Hid (srP s e = s.ps k) := srP_at h1.out hq
  rw [hq]
  clear hq
  obtain ⟨_, _, r1, _⟩ := hok2
  rcases r1 with g1 | ⟨o1, hpa, g1⟩
  · omega
  rw [hpa] at c0
  obtain ⟨d0, d1, d2, d3, d4, d5, d6, d7, d8, d9, d10, d11, d12⟩ : At13 w1 s.pb (o1 + k * 13) (s.ps k) := At13_of (g1 k hlt)
  have y1 : (0 : Int) ≤ (k : Int) := by omega
  have y2 : (k : Int) < (s.pn : Int) := by omega
  generalize s.ps k = q at HS d0 d1 d2 d3 d4 d5 d6 d7 d8 d9 d10 d11 d12
  clear g1 hpa hok
  go_wp2_with (refine wpList_store_row rfl 55 (.tmp 4) _ rfl (w.heap.size + 2) _ (by rfl) (by rfl) _ _ x3 (by kernel_rfl) (by rfl) (by simp [Value.oneCell']) ?_)
  (try simp only [Exit.inBlock, Exit.then]); refine bodyPost_ret (results_cell_row rfl _ _ (w.heap.size + 2) _ _ _ _ rfl (setRow_heap _ _ _ _ _ _ x3) Try.underlying55 rfl (by kernel_rfl)) rfl ?_
  exact ⟨by rw [HS.out], below_setRow hbb (by omega) _⟩
set_option maxHeartbeats 4000000 in
theorem implSource_any (s : Stt) (e : Ev) (w : World) (hok : s.ok w) (hn : s.pn ≤ 1048576) : Calls Try.prog 43 #[(.agg #[.slice s.pa s.pn s.pcap, .slice s.sa s.sn s.scap, .int .i64 s.ac, .int .i64 s.cl]), (.agg #[.int .i64 e.kd, .int .i64 e.sr, .int .i64 e.pi, .int .i64 e.si, .int .i64 e.nn, .int .i64 e.zo, .bool e.be])] w fun r w' => r = .returned (.agg #[.int .i64 (srP s e).id, .int .i64 (srP s e).ow, .int .i64 (srP s e).si, .int .i64 (srP s e).zo, .int .i64 (srP s e).st, .int .i64 (srP s e).po, .int .i64 (srP s e).to, .int .i64 (srP s e).tr, .int .i64 (srP s e).pl, .int .i64 (srP s e).mi, .int .i64 (srP s e).ma, .bool (srP s e).de, .bool (srP s e).be]) ∧ Below w.heap.size w w' := by
  have hb0 := (((Below.refl _ w).alloc (Nat.le_refl _) (.cells #[.slice s.pa s.pn s.pcap, .slice s.sa s.sn s.scap, .int .i64 s.ac, .int .i64 s.cl] 39)).alloc (by simp) (.cells #[.int .i64 e.kd, .int .i64 e.sr, .int .i64 e.pi, .int .i64 e.si, .int .i64 e.nn, .int .i64 e.zo, .bool e.be] 41)).alloc (by simp; omega) (.cells #[.int .i64 0, .int .i64 0, .int .i64 0, .int .i64 0, .int .i64 0, .int .i64 0, .int .i64 0, .int .i64 0, .int .i64 0, .int .i64 0, .int .i64 0, .bool false, .bool false] 55)
  have x1 := ((boxR_new w 39 #[.slice s.pa s.pn s.pcap, .slice s.sa s.sn s.scap, .int .i64 s.ac, .int .i64 s.cl]).alloc (.cells #[.int .i64 e.kd, .int .i64 e.sr, .int .i64 e.pi, .int .i64 e.si, .int .i64 e.nn, .int .i64 e.zo, .bool e.be] 41)).alloc (.cells #[.int .i64 0, .int .i64 0, .int .i64 0, .int .i64 0, .int .i64 0, .int .i64 0, .int .i64 0, .int .i64 0, .int .i64 0, .int .i64 0, .int .i64 0, .bool false, .bool false] 55)
  have x2 := (boxE_new (w.alloc (.cells #[.slice s.pa s.pn s.pcap, .slice s.sa s.sn s.scap, .int .i64 s.ac, .int .i64 s.cl] 39)) 41 e).alloc (.cells #[.int .i64 0, .int .i64 0, .int .i64 0, .int .i64 0, .int .i64 0, .int .i64 0, .int .i64 0, .int .i64 0, .int .i64 0, .int .i64 0, .int .i64 0, .bool false, .bool false] 55)
  have x3 : BoxR (((w.alloc (.cells #[.slice s.pa s.pn s.pcap, .slice s.sa s.sn s.scap, .int .i64 s.ac, .int .i64 s.cl] 39)).alloc (.cells #[.int .i64 e.kd, .int .i64 e.sr, .int .i64 e.pi, .int .i64 e.si, .int .i64 e.nn, .int .i64 e.zo, .bool e.be] 41)).alloc (.cells #[.int .i64 0, .int .i64 0, .int .i64 0, .int .i64 0, .int .i64 0, .int .i64 0, .int .i64 0, .int .i64 0, .int .i64 0, .int .i64 0, .int .i64 0, .bool false, .bool false] 55)) (((w.alloc (.cells #[.slice s.pa s.pn s.pcap, .slice s.sa s.sn s.scap, .int .i64 s.ac, .int .i64 s.cl] 39)).alloc (.cells #[.int .i64 e.kd, .int .i64 e.sr, .int .i64 e.pi, .int .i64 e.si, .int .i64 e.nn, .int .i64 e.zo, .bool e.be] 41)).heap.size) 55 #[.int .i64 0, .int .i64 0, .int .i64 0, .int .i64 0, .int .i64 0, .int .i64 0, .int .i64 0, .int .i64 0, .int .i64 0, .int .i64 0, .int .i64 0, .bool false, .bool false] := boxR_new _ _ _
  simp only [World.size_alloc] at x2 x3
  have hok1 := stt_grew hok hb0
  generalize hW : ((w.alloc (.cells #[.slice s.pa s.pn s.pcap, .slice s.sa s.sn s.scap, .int .i64 s.ac, .int .i64 s.cl] 39)).alloc (.cells #[.int .i64 e.kd, .int .i64 e.sr, .int .i64 e.pi, .int .i64 e.si, .int .i64 e.nn, .int .i64 e.zo, .bool e.be] 41)).alloc (.cells #[.int .i64 0, .int .i64 0, .int .i64 0, .int .i64 0, .int .i64 0, .int .i64 0, .int .i64 0, .int .i64 0, .int .i64 0, .int .i64 0, .int .i64 0, .bool false, .bool false] 55) = W at hb0 x1 x2 x3 hok1
  have hsz : w.heap.size + 2 < W.heap.size := x3.lt
  have c0 := x1.cell 0
  have c1 := x1.cell 1
  have c2 := x1.cell 2
  have c3 := x1.cell 3
  simp at c0 c1 c2 c3
  obtain ⟨k0, k1, k2, k3, k4, k5, k6⟩ : Cells7 _ _ _ := x2.cells
  by_cases hk : e.kd = 1
  case neg =>
    have HS : Hid (srP s e = zP) := srP_kd hk
    go_enter Try.func43, Try.ntmps43
    go_wp2_with (refine wpList_store_row rfl 55 (.tmp 4) _ rfl (w.heap.size + 2) _ (by rfl) (by rfl) _ _ x3 (by kernel_rfl) (by rfl) (by simp [Value.oneCell']) ?_)
    (try simp only [Exit.inBlock, Exit.then]); refine bodyPost_ret (results_cell_row rfl _ _ (w.heap.size + 2) _ _ _ _ rfl (setRow_heap _ _ _ _ _ _ x3) Try.underlying55 rfl (by kernel_rfl)) rfl ?_
    exact ⟨by rw [HS.out]; rfl, below_setRow hb0 (by omega) _⟩
  have h1 : Hid (e.kd = 1) := hk
  rw [hk] at k0
  have K0 := k0
  clear hk
  go_enter Try.func43, Try.ntmps43
  go_wp2_with fail
  refine (implPieceAt_any s e.sr _ hok1 (by omega)).mono ?_
  rintro r w1 ⟨rfl, hb1⟩
  clear K0
  replace x1 := x1.grew hb1
  replace x2 := x2.grew hb1
  replace x3 := x3.grew hb1
  have hok2 := stt_grew hok1 hb1
  have hbb := below_app hb0 hb1 hb0.size
  clear c0 c1 c2 c3 k0 k1 k2 k3 k4 k5 k6 hb1 hW hok1
  have c0 := x1.cell 0
  simp at c0
  obtain ⟨k0, k1, k2, k3, k4, k5, k6⟩ : Cells7 _ _ _ := x2.cells
  rcases paI_cases s.pn s.ps e.sr with hq | ⟨k, hq, hlt⟩
  · have HS : Hid (srP s e = zP) := srP_no hq
    rw [hq]
    clear hq
    go_wp2_with (refine wpList_store_row rfl 55 (.tmp 4) _ rfl (w.heap.size + 2) _ (by rfl) (by rfl) _ _ x3 (by kernel_rfl) (by rfl) (by simp [Value.oneCell']) ?_)
    (try simp only [Exit.inBlock, Exit.then]); refine bodyPost_ret (results_cell_row rfl _ _ (w.heap.size + 2) _ _ _ _ rfl (setRow_heap _ _ _ _ _ _ x3) Try.underlying55 rfl (by kernel_rfl)) rfl ?_
    exact ⟨by rw [HS.out]; rfl, below_setRow hbb (by omega) _⟩
  have HS : Hid (srP s e = s.ps k) := srP_at h1.out hq
  rw [hq]
  clear hq
  obtain ⟨_, _, r1, _⟩ := hok2
  rcases r1 with g1 | ⟨o1, hpa, g1⟩
  · omega
  rw [hpa] at c0
  obtain ⟨d0, d1, d2, d3, d4, d5, d6, d7, d8, d9, d10, d11, d12⟩ : At13 w1 s.pb (o1 + k * 13) (s.ps k) := At13_of (g1 k hlt)
  have y1 : (0 : Int) ≤ (k : Int) := by omega
  have y2 : (k : Int) < (s.pn : Int) := by omega
  generalize s.ps k = q at HS d0 d1 d2 d3 d4 d5 d6 d7 d8 d9 d10 d11 d12
  clear g1 hpa hok
  go_wp2_with (refine wpList_store_row rfl 55 (.tmp 4) _ rfl (w.heap.size + 2) _ (by rfl) (by rfl) _ _ x3 (by kernel_rfl) (by rfl) (by simp [Value.oneCell']) ?_)
  (try simp only [Exit.inBlock, Exit.then]); refine bodyPost_ret (results_cell_row rfl _ _ (w.heap.size + 2) _ _ _ _ rfl (setRow_heap _ _ _ _ _ _ x3) Try.underlying55 rfl (by kernel_rfl)) rfl ?_
  exact ⟨by rw [HS.out], below_setRow hbb (by omega) _⟩
section
variable {t s : Stt} {w w0 : World} {B : Nat}
theorem specSource_al (e : Ev) (h : OwnT w B t) (a : Alike t s) (hs : s.ok w0) (hn : s.pn ≤ 1048576) (hn2 : s.sn ≤ 1048576) : Calls Try.prog 26 #[(.agg #[.slice t.pa t.pn t.pcap, .slice t.sa t.sn t.scap, .int .i64 t.ac, .int .i64 t.cl]), (.agg #[.int .i64 e.kd, .int .i64 e.sr, .int .i64 e.pi, .int .i64 e.si, .int .i64 e.nn, .int .i64 e.zo, .bool e.be])] w fun r w' => r = .returned (.agg #[.int .i64 (srP s e).id, .int .i64 (srP s e).ow, .int .i64 (srP s e).si, .int .i64 (srP s e).zo, .int .i64 (srP s e).st, .int .i64 (srP s e).po, .int .i64 (srP s e).to, .int .i64 (srP s e).tr, .int .i64 (srP s e).pl, .int .i64 (srP s e).mi, .int .i64 (srP s e).ma, .bool (srP s e).de, .bool (srP s e).be]) ∧ Below w.heap.size w w' := by
  rw [← alike_srP a]; exact specSource_any t e w (okT h a hs) (by rw [a.pn]; omega)
theorem implSource_al (e : Ev) (h : OwnT w B t) (a : Alike t s) (hs : s.ok w0) (hn : s.pn ≤ 1048576) (hn2 : s.sn ≤ 1048576) : Calls Try.prog 43 #[(.agg #[.slice t.pa t.pn t.pcap, .slice t.sa t.sn t.scap, .int .i64 t.ac, .int .i64 t.cl]), (.agg #[.int .i64 e.kd, .int .i64 e.sr, .int .i64 e.pi, .int .i64 e.si, .int .i64 e.nn, .int .i64 e.zo, .bool e.be])] w fun r w' => r = .returned (.agg #[.int .i64 (srP s e).id, .int .i64 (srP s e).ow, .int .i64 (srP s e).si, .int .i64 (srP s e).zo, .int .i64 (srP s e).st, .int .i64 (srP s e).po, .int .i64 (srP s e).to, .int .i64 (srP s e).tr, .int .i64 (srP s e).pl, .int .i64 (srP s e).mi, .int .i64 (srP s e).ma, .bool (srP s e).de, .bool (srP s e).be]) ∧ Below w.heap.size w w' := by
  rw [← alike_srP a]; exact implSource_any t e w (okT h a hs) (by rw [a.pn]; omega)
end
end Go.Proofs.Ytpfddfkjmbnpaaq
