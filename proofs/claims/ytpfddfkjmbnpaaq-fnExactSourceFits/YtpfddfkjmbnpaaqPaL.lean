/-
  Chapter 7, the program: rows of function values (Dm), the function values that sourceDemands makes, SourceFits. Written by tools/pak.gen.py. Own work.
-/
import Derived.Test.YtpfddfkjmbnpaaqPaK
import Derived.Deep.RegionHeld
namespace Go.Proofs.Ytpfddfkjmbnpaaq
open Go.ChangeShapes Go.WideShapes Go.ChangeAt Go.RowKit
set_option maxRecDepth 100000
set_option linter.unusedVariables false
set_option linter.unusedSimpArgs false

/-- a function value, what it captured, and what it answers -/
structure Dm where
  (f : Nat) (c : Array Value) (b : Bool)
def Dm.v (d : Dm) : Value := .func (.func d.f) #[] d.c
theorem Try.infoDm : (Try.prog.info? 75).map (fun i => (i.zero, i.size, i.bytes)) = some (some .nilFunc, 1, 8) := by kernel_rfl
/-- the row v holds these function values -/
def RowD (w : World) (base : Nat) (v : Value) (L : List Dm) : Prop := w.ownsRow base 75 1 v L.length (L.map Dm.v) ∧ v ≠ .slice none 0 0
/-- each of them answers so in that world and later -/
def AskD (w : World) (s : Stt) (e : Ev) (L : List Dm) : Prop :=
  ∀ d ∈ L, Ent d.f ∧ ∀ u : World, Below w.heap.size w u → Calls Try.prog d.f (#[(.agg #[.slice s.pa s.pn s.pcap, .slice s.sa s.sn s.scap, .int .i64 s.ac, .int .i64 s.cl]), (.agg #[.int .i64 e.kd, .int .i64 e.sr, .int .i64 e.pi, .int .i64 e.si, .int .i64 e.nn, .int .i64 e.zo, .bool e.be])] ++ d.c) u fun r w' => r = .returned (.bool d.b) ∧ Below u.heap.size u w'
def zD : Dm := ⟨0, #[], true⟩
theorem getD_all (L : List Dm) : (List.range L.length).all (fun i => (L.getD i zD).b) = L.all Dm.b := by
  rw [Bool.eq_iff_iff, List.all_eq_true, List.all_eq_true]
  constructor
  · intro h d hd
    obtain ⟨i, hi, rfl⟩ := List.mem_iff_getElem.1 hd
    have := h i (List.mem_range.2 hi)
    simpa [List.getD_eq_getElem?_getD, hi] using this
  · intro h i hi
    have hl := List.mem_range.1 hi
    have := h _ (List.getElem_mem hl)
    simpa [List.getD_eq_getElem?_getD, hl] using this
theorem meetsAll_row {base : Nat} (s : Stt) (e : Ev) (v : Value) (L : List Dm) (w : World) (hn : L.length ≤ 1048576) (hr : RowD w base v L) (ha : AskD w s e L) :
    Calls Try.prog 29 #[(.agg #[.slice s.pa s.pn s.pcap, .slice s.sa s.sn s.scap, .int .i64 s.ac, .int .i64 s.cl]), (.agg #[.int .i64 e.kd, .int .i64 e.sr, .int .i64 e.pi, .int .i64 e.si, .int .i64 e.nn, .int .i64 e.zo, .bool e.be]), v] w fun r w' => r = .returned (.bool (L.all Dm.b)) ∧ Below w.heap.size w w' := by
  obtain ⟨ho, hv⟩ := hr
  obtain ⟨_, hx⟩ := id ho
  rcases hx with ⟨h, _⟩ | ⟨g, cap, cur, rfl, _⟩
  · exact absurd h hv
  rw [← getD_all]
  refine meetsAll_any s e g L.length cap (fun i => (L.getD i zD).f) (fun i => (L.getD i zD).c) (fun i => (L.getD i zD).b) w hn ?_ ?_
  · intro i hi
    rw [ho.cellAt i (by omega)]
    simp [hi, Dm.v, List.getD_eq_getElem?_getD]
  · intro i hi
    have hm := ha _ (List.getElem_mem hi)
    simpa [List.getD_eq_getElem?_getD, hi] using hm
theorem owns_grewD {W W' : World} {base : Nat} {e : TypeId} {v : Value} {n : Nat} {xs : List Value} (h : W.ownsRow base e 1 v n xs) (hb : Below W.heap.size W W') : W'.ownsRow base e 1 v n xs := by
  refine ⟨h.1, ?_⟩
  rcases h.2 with h' | ⟨g, cap, cur, rfl, h1, h2, h3⟩
  · exact .inl h'
  · exact .inr ⟨g, cap, cur, rfl, h1, (hb.block g (Array.getElem?_eq_some_iff.1 h2).1).trans h2, h3⟩
theorem RowD.grew {w w' : World} {base : Nat} {v : Value} {L : List Dm} (h : RowD w base v L) (hb : Below w.heap.size w w') : RowD w' base v L := ⟨owns_grewD h.1 hb, h.2⟩
theorem AskD.grew {w w' : World} {s : Stt} {e : Ev} {L : List Dm} (h : AskD w s e L) (hb : Below w.heap.size w w') : AskD w' s e L :=
  fun d hd => ⟨(h d hd).1, fun u hu => (h d hd).2 u (below_app hb hu hb.size)⟩
theorem AskD.app {w : World} {s : Stt} {e : Ev} {L M : List Dm} (h : AskD w s e L) (k : AskD w s e M) : AskD w s e (L ++ M) :=
  fun d hd => (List.mem_append.1 hd).elim (h d) (k d)
def ptr (b : Nat) : Value := .pointer (some ⟨b, 0, none⟩)
set_option maxHeartbeats 4000000 in
theorem sd1_any (s : Stt) (p : Pt) (e : Ev) (b : Nat) (w : World) (hok : s.ok w) (hn : s.pn ≤ 1048576) (hp : BoxPt w b 25 p) :
    Calls Try.prog 42 #[(.agg #[.slice s.pa s.pn s.pcap, .slice s.sa s.sn s.scap, .int .i64 s.ac, .int .i64 s.cl]), (.agg #[.int .i64 e.kd, .int .i64 e.sr, .int .i64 e.pi, .int .i64 e.si, .int .i64 e.nn, .int .i64 e.zo, .bool e.be]), ptr b] w fun r w' => r = .returned (.bool (amI p.tr (srP s e).tr)) ∧ Below w.heap.size w w' := by
  unfold ptr
  have HB := ((Below.refl _ w).alloc (Nat.le_refl _) (.cells #[.slice s.pa s.pn s.pcap, .slice s.sa s.sn s.scap, .int .i64 s.ac, .int .i64 s.cl] 39)).alloc (by simp) (.cells #[.int .i64 e.kd, .int .i64 e.sr, .int .i64 e.pi, .int .i64 e.si, .int .i64 e.nn, .int .i64 e.zo, .bool e.be] 41)
  have x1 := (boxR_new w 39 #[.slice s.pa s.pn s.pcap, .slice s.sa s.sn s.scap, .int .i64 s.ac, .int .i64 s.cl]).alloc (.cells #[.int .i64 e.kd, .int .i64 e.sr, .int .i64 e.pi, .int .i64 e.si, .int .i64 e.nn, .int .i64 e.zo, .bool e.be] 41)
  have x2 := (hp.alloc (.cells #[.slice s.pa s.pn s.pcap, .slice s.sa s.sn s.scap, .int .i64 s.ac, .int .i64 s.cl] 39)).alloc (.cells #[.int .i64 e.kd, .int .i64 e.sr, .int .i64 e.pi, .int .i64 e.si, .int .i64 e.nn, .int .i64 e.zo, .bool e.be] 41)
  have x3 : BoxE ((w.alloc (.cells #[.slice s.pa s.pn s.pcap, .slice s.sa s.sn s.scap, .int .i64 s.ac, .int .i64 s.cl] 39)).alloc (.cells #[.int .i64 e.kd, .int .i64 e.sr, .int .i64 e.pi, .int .i64 e.si, .int .i64 e.nn, .int .i64 e.zo, .bool e.be] 41)) ((w.alloc (.cells #[.slice s.pa s.pn s.pcap, .slice s.sa s.sn s.scap, .int .i64 s.ac, .int .i64 s.cl] 39)).heap.size) 41 e := boxE_new _ _ _
  simp only [World.size_alloc] at x2 x3
  have hok1 := stt_grew hok HB
  generalize hW : (w.alloc (.cells #[.slice s.pa s.pn s.pcap, .slice s.sa s.sn s.scap, .int .i64 s.ac, .int .i64 s.cl] 39)).alloc (.cells #[.int .i64 e.kd, .int .i64 e.sr, .int .i64 e.pi, .int .i64 e.si, .int .i64 e.nn, .int .i64 e.zo, .bool e.be] 41) = W at HB x1 x2 x3 hok1
  have hne := bw_ne W
  have FT := fun v : World => run_field_tr (srP s e) v
  have HS : Hid (∀ x : BW W, s.ok x.u) := fun x => stt_grew hok1 x.h
  have c0 := fun x : BW W => x.cell (show W.cell? ⟨w.heap.size, 0, none⟩ = some (.slice s.pa s.pn s.pcap) from x1.cell 0)
  have c1 := fun x : BW W => x.cell (show W.cell? ⟨w.heap.size, 1, none⟩ = some (.slice s.sa s.sn s.scap) from x1.cell 1)
  have c2 := fun x : BW W => x.cell (show W.cell? ⟨w.heap.size, 2, none⟩ = some (.int .i64 s.ac) from x1.cell 2)
  have c3 := fun x : BW W => x.cell (show W.cell? ⟨w.heap.size, 3, none⟩ = some (.int .i64 s.cl) from x1.cell 3)
  obtain ⟨a0, a1, a2, a3, a4, a5, a6⟩ : CellsPt _ _ _ := x2.cells
  obtain ⟨b0, b1, b2, b3, b4, b5, b6⟩ : Cells7 _ _ _ := x3.cells
  have fa3 := fun x : BW W => x.cell a3
  have fb0 := fun x : BW W => x.cell b0
  have fb1 := fun x : BW W => x.cell b1
  have fb2 := fun x : BW W => x.cell b2
  have fb3 := fun x : BW W => x.cell b3
  have fb4 := fun x : BW W => x.cell b4
  have fb5 := fun x : BW W => x.cell b5
  have fb6 := fun x : BW W => x.cell b6
  clear a0 a1 a2 a3 a4 a5 a6 b0 b1 b2 b3 b4 b5 b6 hok hok1 x1 x2 x3 hp
  go_enter Try.func42, Try.ntmps42
  go_wp2_with fail
  refine wp_region_below_lit (W := W) 8 (by kernel_rfl) (by kernel_rfl) (by decide) (Below.refl _ _) (by intro c d v a w h; cases d <;> exact h) ?_
  simp only [List.take_succ_cons, List.take_zero, List.drop_succ_cons, List.drop_zero]
  repeat (go_big_quiet_step (first | (go_at_call 43; refine quiet_below (implSource_any s e _ (HS.out _) hn)) | (go_at_call 38; refine quiet_below_same (among_any _ _ _))))
  refine wpQuiet_nil ?_
  rintro _ ⟨x, rfl⟩
  clear c0 c1 c2 c3 fa3 fb0 fb1 fb2 fb3 fb4 fb5 fb6
  go_wp2
  go_ret
  exact ⟨rfl, below_app HB x.h HB.size⟩
theorem sd2_any (s : Stt) (p : Pt) (e : Ev) (b : Nat) (w : World) (hp : BoxPt w b 25 p) :
    Calls Try.prog 44 #[(.agg #[.slice s.pa s.pn s.pcap, .slice s.sa s.sn s.scap, .int .i64 s.ac, .int .i64 s.cl]), (.agg #[.int .i64 e.kd, .int .i64 e.sr, .int .i64 e.pi, .int .i64 e.si, .int .i64 e.nn, .int .i64 e.zo, .bool e.be]), ptr b] w fun r w' => r = .returned (.bool (decide (e.sr = p.sr))) ∧ Below w.heap.size w w' := by
  unfold ptr
  have HB := ((Below.refl _ w).alloc (Nat.le_refl _) (.cells #[.slice s.pa s.pn s.pcap, .slice s.sa s.sn s.scap, .int .i64 s.ac, .int .i64 s.cl] 39)).alloc (by simp) (.cells #[.int .i64 e.kd, .int .i64 e.sr, .int .i64 e.pi, .int .i64 e.si, .int .i64 e.nn, .int .i64 e.zo, .bool e.be] 41)
  have x2 := (hp.alloc (.cells #[.slice s.pa s.pn s.pcap, .slice s.sa s.sn s.scap, .int .i64 s.ac, .int .i64 s.cl] 39)).alloc (.cells #[.int .i64 e.kd, .int .i64 e.sr, .int .i64 e.pi, .int .i64 e.si, .int .i64 e.nn, .int .i64 e.zo, .bool e.be] 41)
  have x3 : BoxE ((w.alloc (.cells #[.slice s.pa s.pn s.pcap, .slice s.sa s.sn s.scap, .int .i64 s.ac, .int .i64 s.cl] 39)).alloc (.cells #[.int .i64 e.kd, .int .i64 e.sr, .int .i64 e.pi, .int .i64 e.si, .int .i64 e.nn, .int .i64 e.zo, .bool e.be] 41)) ((w.alloc (.cells #[.slice s.pa s.pn s.pcap, .slice s.sa s.sn s.scap, .int .i64 s.ac, .int .i64 s.cl] 39)).heap.size) 41 e := boxE_new _ _ _
  simp only [World.size_alloc] at x2 x3
  generalize hW : (w.alloc (.cells #[.slice s.pa s.pn s.pcap, .slice s.sa s.sn s.scap, .int .i64 s.ac, .int .i64 s.cl] 39)).alloc (.cells #[.int .i64 e.kd, .int .i64 e.sr, .int .i64 e.pi, .int .i64 e.si, .int .i64 e.nn, .int .i64 e.zo, .bool e.be] 41) = W at HB x2 x3
  obtain ⟨a0, a1, a2, a3, a4, a5, a6⟩ : CellsPt _ _ _ := x2.cells
  obtain ⟨b0, b1, b2, b3, b4, b5, b6⟩ : Cells7 _ _ _ := x3.cells
  go_enter Try.func44, Try.ntmps44
  go_wp2
  go_ret
  exact ⟨ret_bool' (by first | rfl | (rw [Bool.eq_iff_iff]; simp)), HB⟩
/-- what sourceDemands asks for -/
def sdL (b : Nat) (s : Stt) (p : Pt) (e : Ev) : List Dm := ⟨42, #[ptr b], amI p.tr (srP s e).tr⟩ :: (bif decide (p.sr = 0) then [] else [⟨44, #[ptr b], decide (e.sr = p.sr)⟩])
theorem ask_sd {w : World} {b : Nat} {s : Stt} {p : Pt} {e : Ev} (hok : s.ok w) (hn : s.pn ≤ 1048576) (hp : BoxPt w b 25 p) : AskD w s e (sdL b s p e) := by
  have h1 : AskD w s e [⟨42, #[ptr b], amI p.tr (srP s e).tr⟩] := by
    intro d hd
    rw [List.mem_singleton] at hd
    subst hd
    exact ⟨enters_of Try.func42 (by kernel_rfl) rfl, fun u hu => sd1_any s p e b u (stt_grew hok hu) hn (hp.grew hu)⟩
  have h2 : AskD w s e [⟨44, #[ptr b], decide (e.sr = p.sr)⟩] := by
    intro d hd
    rw [List.mem_singleton] at hd
    subst hd
    exact ⟨enters_of Try.func44 (by kernel_rfl) rfl, fun u hu => sd2_any s p e b u (hp.grew hu)⟩
  unfold sdL
  cases decide (p.sr = 0)
  · exact h1.app h2
  · exact h1
theorem sdL_len (b : Nat) (s : Stt) (p : Pt) (e : Ev) : (sdL b s p e).length ≤ 2 := by unfold sdL; cases decide (p.sr = 0) <;> simp
set_option maxHeartbeats 4000000 in
theorem sourceDemands_any (s : Stt) (p : Pt) (e : Ev) (w : World) :
    Calls Try.prog 30 #[(.agg #[.int .i64 p.kd, .int .i64 p.wh, .int .i64 p.sr, .int .i64 p.tr, .int .i64 p.pi, .int .i64 p.le, .int .i64 p.zo])] w fun r w' => ∃ v, r = .returned v ∧ RowD w' w.heap.size v (sdL w.heap.size s p e) ∧ BoxPt w' w.heap.size 25 p ∧ Below w.heap.size w w' := by
  have HB := (Below.refl _ w).alloc (Nat.le_refl _) (.cells #[.int .i64 p.kd, .int .i64 p.wh, .int .i64 p.sr, .int .i64 p.tr, .int .i64 p.pi, .int .i64 p.le, .int .i64 p.zo] 25)
  have x1 := boxPt_new w 25 p
  have hmf : ∀ (fn : Fn) (first cap : Array Value) (w : World), (Instr.makeFunc fn first cap).run Try.prog w = .ok (.func fn first cap) w := fun _ _ _ _ => rfl
  have hown : ((w.alloc (.cells #[.int .i64 p.kd, .int .i64 p.wh, .int .i64 p.sr, .int .i64 p.tr, .int .i64 p.pi, .int .i64 p.le, .int .i64 p.zo] 25)).alloc (.cells #[.func (.func 42) #[] #[ptr w.heap.size]] 75)).ownsRow w.heap.size 75 1 (.slice (some ⟨(w.alloc (.cells #[.int .i64 p.kd, .int .i64 p.wh, .int .i64 p.sr, .int .i64 p.tr, .int .i64 p.pi, .int .i64 p.le, .int .i64 p.zo] 25)).heap.size, 0, none⟩) 1 1) 1 [.func (.func 42) #[] #[ptr w.heap.size]] :=
    World.ownsRow_lit _ _ 1 (by simp) (by decide) rfl
  simp only [World.size_alloc] at hown
  cases hz : decide (p.sr = 0)
  case true =>
    have hz' : (p.sr != 0) = false := by simpa using hz
    have HL : Hid (sdL w.heap.size s p e = [⟨42, #[ptr w.heap.size], amI p.tr (srP s e).tr⟩]) := by show _ = _; unfold sdL; rw [hz]; rfl
    replace HB := HB.alloc HB.size (.cells #[.func (.func 42) #[] #[ptr w.heap.size]] 75)
    replace x1 := x1.alloc (.cells #[.func (.func 42) #[] #[ptr w.heap.size]] 75)
    unfold ptr at *
    go_enter Try.func30, Try.ntmps30
    go_wp2
    go_ret
    refine ⟨_, rfl, ?_, x1, HB⟩
    rw [HL.out]
    exact ⟨hown, by simp⟩
  case false =>
    have hz' : (p.sr != 0) = true := by simpa using hz
    have HL : Hid (sdL w.heap.size s p e = [⟨42, #[ptr w.heap.size], amI p.tr (srP s e).tr⟩, ⟨44, #[ptr w.heap.size], decide (e.sr = p.sr)⟩]) := by show _ = _; unfold sdL; rw [hz]; rfl
    obtain ⟨i0, hi, hz0, hz1, hz2⟩ := info_parts Try.infoDm
    replace HB := HB.alloc HB.size (.cells #[.func (.func 42) #[] #[ptr w.heap.size]] 75)
    replace x1 := x1.alloc (.cells #[.func (.func 42) #[] #[ptr w.heap.size]] 75)
    unfold ptr at *
    go_enter Try.func30, Try.ntmps30
    generalize hV : (w.alloc (.cells #[.int .i64 p.kd, .int .i64 p.wh, .int .i64 p.sr, .int .i64 p.tr, .int .i64 p.pi, .int .i64 p.le, .int .i64 p.zo] 25)).alloc (.cells #[.func (.func 42) #[] #[.pointer (some ⟨w.heap.size, 0, none⟩)]] 75) = V at HB x1 hown
    obtain ⟨a0, a1, a2, a3, a4, a5, a6⟩ : CellsPt _ _ _ := x1.cells
    have hVs := HB.size
    go_wp2_with (at_builtin; refine wpList_append_own _ rfl (.tmp 9) (.tmp 11) 60 rfl w.heap.size 75 i0 .nilFunc 1 8 Try.underlying60 hi hz0 hz1 hz2 rfl (by decide) _ _ _ rfl (hown.alloc _) ⟨V.heap.size, 0, none⟩ 1 1 [_] rfl rfl (cells_new _ _ _) (by intro u hu; simp at hu; subst hu; rfl) (by decide) (by decide) (by simp; omega) ?_)
    intro v4 w4 hown4 hgr4 hnil4
    have HB4 : Below w.heap.size w w4 := (HB.alloc hVs _).grown hgr4 (by simp; omega) (fun k hk => (hown.lt k hk).1)
    have x4 : BoxPt w4 w.heap.size 25 p := (hgr4.block w.heap.size (by simp; have := x1.lt; omega) (by simp [Value.ownBlock])).trans (x1.alloc _)
    clear a0 a1 a2 a3 a4 a5 a6 hgr4 hown x1 HB hV
    go_wp2
    go_ret
    refine ⟨_, rfl, ?_, x4, HB4⟩
    rw [HL.out]
    exact ⟨hown4, hnil4⟩
theorem sdL_all {p : Pt} (hw : -9223372036854775808 ≤ p.tr ∧ p.tr ≤ 9223372036854775807) (b : Nat) (s : Stt) (e : Ev) : (sdL b s p e).all Dm.b = sfP s p e := by
  unfold sdL sfP sfA
  rw [← amI_and _ hw]
  have he : decide (e.sr = p.sr) = decide (p.sr = e.sr) := by rw [Bool.eq_iff_iff]; simp [eq_comm]
  rw [he]
  generalize amI p.tr (srP s e).tr = x
  generalize decide (p.sr = e.sr) = y
  cases decide (p.sr = 0) <;> cases x <;> cases y <;> rfl
set_option maxHeartbeats 4000000 in
theorem implSourceFits_any (s : Stt) (p : Pt) (e : Ev) (w : World) (hw : p.wf) (hok : s.ok w) (hn : s.pn ≤ 1048576) :
    Calls Try.prog 14 #[(.agg #[.slice s.pa s.pn s.pcap, .slice s.sa s.sn s.scap, .int .i64 s.ac, .int .i64 s.cl]), (.agg #[.int .i64 p.kd, .int .i64 p.wh, .int .i64 p.sr, .int .i64 p.tr, .int .i64 p.pi, .int .i64 p.le, .int .i64 p.zo]), (.agg #[.int .i64 e.kd, .int .i64 e.sr, .int .i64 e.pi, .int .i64 e.si, .int .i64 e.nn, .int .i64 e.zo, .bool e.be])] w fun r w' => r = .returned (.bool (sfP s p e)) ∧ Below w.heap.size w w' := by
  have hall : Hid (∀ b, (sdL b s p e).all Dm.b = sfP s p e) := fun b => sdL_all (bounds_i64 (hw _ (by simp))) b s e
  have HB := (((Below.refl _ w).alloc (Nat.le_refl _) (.cells #[.slice s.pa s.pn s.pcap, .slice s.sa s.sn s.scap, .int .i64 s.ac, .int .i64 s.cl] 39)).alloc (by simp) (.cells #[.int .i64 p.kd, .int .i64 p.wh, .int .i64 p.sr, .int .i64 p.tr, .int .i64 p.pi, .int .i64 p.le, .int .i64 p.zo] 25)).alloc (by simp; omega) (.cells #[.int .i64 e.kd, .int .i64 e.sr, .int .i64 e.pi, .int .i64 e.si, .int .i64 e.nn, .int .i64 e.zo, .bool e.be] 41)
  have x1 := ((boxR_new w 39 #[.slice s.pa s.pn s.pcap, .slice s.sa s.sn s.scap, .int .i64 s.ac, .int .i64 s.cl]).alloc (.cells #[.int .i64 p.kd, .int .i64 p.wh, .int .i64 p.sr, .int .i64 p.tr, .int .i64 p.pi, .int .i64 p.le, .int .i64 p.zo] 25)).alloc (.cells #[.int .i64 e.kd, .int .i64 e.sr, .int .i64 e.pi, .int .i64 e.si, .int .i64 e.nn, .int .i64 e.zo, .bool e.be] 41)
  have x2 := (boxPt_new (w.alloc (.cells #[.slice s.pa s.pn s.pcap, .slice s.sa s.sn s.scap, .int .i64 s.ac, .int .i64 s.cl] 39)) 25 p).alloc (.cells #[.int .i64 e.kd, .int .i64 e.sr, .int .i64 e.pi, .int .i64 e.si, .int .i64 e.nn, .int .i64 e.zo, .bool e.be] 41)
  have x3 : BoxE (((w.alloc (.cells #[.slice s.pa s.pn s.pcap, .slice s.sa s.sn s.scap, .int .i64 s.ac, .int .i64 s.cl] 39)).alloc (.cells #[.int .i64 p.kd, .int .i64 p.wh, .int .i64 p.sr, .int .i64 p.tr, .int .i64 p.pi, .int .i64 p.le, .int .i64 p.zo] 25)).alloc (.cells #[.int .i64 e.kd, .int .i64 e.sr, .int .i64 e.pi, .int .i64 e.si, .int .i64 e.nn, .int .i64 e.zo, .bool e.be] 41)) (((w.alloc (.cells #[.slice s.pa s.pn s.pcap, .slice s.sa s.sn s.scap, .int .i64 s.ac, .int .i64 s.cl] 39)).alloc (.cells #[.int .i64 p.kd, .int .i64 p.wh, .int .i64 p.sr, .int .i64 p.tr, .int .i64 p.pi, .int .i64 p.le, .int .i64 p.zo] 25)).heap.size) 41 e := boxE_new _ _ _
  simp only [World.size_alloc] at x2 x3
  have hok1 := stt_grew hok HB
  generalize hW : ((w.alloc (.cells #[.slice s.pa s.pn s.pcap, .slice s.sa s.sn s.scap, .int .i64 s.ac, .int .i64 s.cl] 39)).alloc (.cells #[.int .i64 p.kd, .int .i64 p.wh, .int .i64 p.sr, .int .i64 p.tr, .int .i64 p.pi, .int .i64 p.le, .int .i64 p.zo] 25)).alloc (.cells #[.int .i64 e.kd, .int .i64 e.sr, .int .i64 e.pi, .int .i64 e.si, .int .i64 e.nn, .int .i64 e.zo, .bool e.be] 41) = W at HB x1 x2 x3 hok1
  have HS : Hid (∀ u : World, Below W.heap.size W u → s.ok u) := fun u h => stt_grew hok1 h
  have SK : ∀ u : World, Below W.heap.size W u → u.cell? ⟨w.heap.size, 0, none⟩ = some (.slice s.pa s.pn s.pcap) ∧ u.cell? ⟨w.heap.size, 1, none⟩ = some (.slice s.sa s.sn s.scap) ∧ u.cell? ⟨w.heap.size, 2, none⟩ = some (.int .i64 s.ac) ∧ u.cell? ⟨w.heap.size, 3, none⟩ = some (.int .i64 s.cl) ∧ u.cell? ⟨w.heap.size + 1, 0, none⟩ = some (.int .i64 p.kd) ∧ u.cell? ⟨w.heap.size + 1, 1, none⟩ = some (.int .i64 p.wh) ∧ u.cell? ⟨w.heap.size + 1, 2, none⟩ = some (.int .i64 p.sr) ∧ u.cell? ⟨w.heap.size + 1, 3, none⟩ = some (.int .i64 p.tr) ∧ u.cell? ⟨w.heap.size + 1, 4, none⟩ = some (.int .i64 p.pi) ∧ u.cell? ⟨w.heap.size + 1, 5, none⟩ = some (.int .i64 p.le) ∧ u.cell? ⟨w.heap.size + 1, 6, none⟩ = some (.int .i64 p.zo) ∧ u.cell? ⟨w.heap.size + 2, 0, none⟩ = some (.int .i64 e.kd) ∧ u.cell? ⟨w.heap.size + 2, 1, none⟩ = some (.int .i64 e.sr) ∧ u.cell? ⟨w.heap.size + 2, 2, none⟩ = some (.int .i64 e.pi) ∧ u.cell? ⟨w.heap.size + 2, 3, none⟩ = some (.int .i64 e.si) ∧ u.cell? ⟨w.heap.size + 2, 4, none⟩ = some (.int .i64 e.nn) ∧ u.cell? ⟨w.heap.size + 2, 5, none⟩ = some (.int .i64 e.zo) ∧ u.cell? ⟨w.heap.size + 2, 6, none⟩ = some (.bool e.be) := fun u hu => by
    have y1 := x1.grew hu
    obtain ⟨a0, a1, a2, a3, a4, a5, a6⟩ : CellsPt _ _ _ := (x2.grew hu).cells
    obtain ⟨b0, b1, b2, b3, b4, b5, b6⟩ : Cells7 _ _ _ := (x3.grew hu).cells
    exact ⟨y1.cell 0, y1.cell 1, y1.cell 2, y1.cell 3, a0, a1, a2, a3, a4, a5, a6, b0, b1, b2, b3, b4, b5, b6⟩
  have hD : Below W.heap.size W W.drew := (Below.refl _ W).drew
  clear hok hok1 x1 x2 x3
  go_enter Try.func14, Try.ntmps14
  go_wp2_with fail
  go_region_held (fun u : World => u.cell? ⟨w.heap.size, 0, none⟩ = some (.slice s.pa s.pn s.pcap) ∧ u.cell? ⟨w.heap.size, 1, none⟩ = some (.slice s.sa s.sn s.scap) ∧ u.cell? ⟨w.heap.size, 2, none⟩ = some (.int .i64 s.ac) ∧ u.cell? ⟨w.heap.size, 3, none⟩ = some (.int .i64 s.cl) ∧ u.cell? ⟨w.heap.size + 1, 0, none⟩ = some (.int .i64 p.kd) ∧ u.cell? ⟨w.heap.size + 1, 1, none⟩ = some (.int .i64 p.wh) ∧ u.cell? ⟨w.heap.size + 1, 2, none⟩ = some (.int .i64 p.sr) ∧ u.cell? ⟨w.heap.size + 1, 3, none⟩ = some (.int .i64 p.tr) ∧ u.cell? ⟨w.heap.size + 1, 4, none⟩ = some (.int .i64 p.pi) ∧ u.cell? ⟨w.heap.size + 1, 5, none⟩ = some (.int .i64 p.le) ∧ u.cell? ⟨w.heap.size + 1, 6, none⟩ = some (.int .i64 p.zo) ∧ u.cell? ⟨w.heap.size + 2, 0, none⟩ = some (.int .i64 e.kd) ∧ u.cell? ⟨w.heap.size + 2, 1, none⟩ = some (.int .i64 e.sr) ∧ u.cell? ⟨w.heap.size + 2, 2, none⟩ = some (.int .i64 e.pi) ∧ u.cell? ⟨w.heap.size + 2, 3, none⟩ = some (.int .i64 e.si) ∧ u.cell? ⟨w.heap.size + 2, 4, none⟩ = some (.int .i64 e.nn) ∧ u.cell? ⟨w.heap.size + 2, 5, none⟩ = some (.int .i64 e.zo) ∧ u.cell? ⟨w.heap.size + 2, 6, none⟩ = some (.bool e.be)) (first | (refine SK _ ?_; first | with_reducible exact hD | with_reducible exact hq1 | with_reducible exact hq2)) (first | (go_at_call 30; refine (sourceDemands_any s p e _).mono ?_; rintro r v1 ⟨d1, rfl, hr1, hx1, hb1⟩; have hq1 : Below W.heap.size W v1 := below_app hD hb1 hD.size) | (go_at_call 29; refine (meetsAll_row s e _ _ _ (Nat.le_trans (sdL_len _ _ _ _) (by decide)) hr1 (ask_sd (HS.out _ hq1) hn hx1)).mono ?_; rintro r v2 ⟨rfl, hb2⟩; have hq2 : Below W.heap.size W v2 := below_app hq1 hb2 hq1.size))
  all_goals (try rw [hall.out])
  all_goals go_wp2
  all_goals go_ret
  all_goals exact ⟨ret_bool' (by first | rfl | exact hall.out _), below_app HB hq2 HB.size⟩
section
variable {t s : Stt} {w w0 : World} {B : Nat}
theorem implSourceFits_al (p : Pt) (e : Ev) (hw : p.wf) (h : OwnT w B t) (a : Alike t s) (hs : s.ok w0) (hn : s.pn ≤ 1048576) (hn2 : s.sn ≤ 1048576) : Calls Try.prog 14 #[(.agg #[.slice t.pa t.pn t.pcap, .slice t.sa t.sn t.scap, .int .i64 t.ac, .int .i64 t.cl]), (.agg #[.int .i64 p.kd, .int .i64 p.wh, .int .i64 p.sr, .int .i64 p.tr, .int .i64 p.pi, .int .i64 p.le, .int .i64 p.zo]), (.agg #[.int .i64 e.kd, .int .i64 e.sr, .int .i64 e.pi, .int .i64 e.si, .int .i64 e.nn, .int .i64 e.zo, .bool e.be])] w fun r w' => r = .returned (.bool (sfP s p e)) ∧ Below w.heap.size w w' := by
  rw [← alike_sfP a]; exact implSourceFits_any t p e w hw (okT h a hs) (by rw [a.pn]; omega)
end
end Go.Proofs.Ytpfddfkjmbnpaaq
