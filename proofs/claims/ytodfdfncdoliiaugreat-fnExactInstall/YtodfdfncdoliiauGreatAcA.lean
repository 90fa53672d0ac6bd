/-
  Chapter 9: words for an act (Ac): how a law's own is opened, taken over, measured, compared, marked. Written by tools/ac.gen.py. Own work.
-/
import Derived.Test.YtodfdfncdoliiauGreatAcR
namespace Go.Proofs.YtodfdfncdoliiauGreat
open Go.ChangeShapes Go.WideShapes Go.ChangeAt Go.RowKit
set_option maxRecDepth 100000
set_option linter.unusedVariables false
set_option linter.unusedSimpArgs false

/-- an act as it came in -/
structure Ac where
  (kd nn pi si zo : Int)
  (be : Bool)
  (la : Option Addr)
  (ln lcap lb : Nat)
  (es : Nat → Ev)
def Ac.ok (a : Ac) (w : World) : Prop := a.ln ≤ a.lcap ∧ a.lcap ≤ maxLen ∧ RdE evC 7 w a.lb a.la a.ln a.es ∧ (∀ x ∈ [a.kd, a.nn, a.pi, a.si, a.zo], (Lit.int .i64 x).wf = true) ∧ (∀ i, i < a.ln → (a.es i).wf)
theorem act_grew {a : Ac} {w w' : World} (h : a.ok w) (hb : Below w.heap.size w w') : a.ok w' := ⟨h.1, h.2.1, h.2.2.1.grew evC_ne hb, h.2.2.2⟩
theorem open_act {H : Type} {enc : TypeId × Value → H} {w : World} {base : Nat} {spare : TypeId → Bool} {held : Bool} {r : Reach} {b0 : Nat} {v : Value} {d : DataW H} {p : List MemPlace} (hv : Value.okWide Tryz.prog w r b0 29 v) (h : DataW.Trod enc Tryz.prog w base spare held 29 v d p) :
    ∃ a : Ac, v = (.agg #[.int .i64 a.kd, .int .i64 a.nn, .int .i64 a.pi, .int .i64 a.si, .int .i64 a.zo, .bool a.be, .slice a.la a.ln a.lcap]) ∧ a.ok w := by
  obtain ⟨cs, rfl, hl, hf⟩ := open_struct1 Tryz.underlying29 (by kernel_rfl) (by kernel_rfl) hv h
  obtain ⟨c0, c1, c2, c3, c4, c5, c6, rfl⟩ := list7 (l := cs) hl
  obtain ⟨n0, y0, t0⟩ := hf 0 _ c0 rfl rfl
  obtain ⟨a0, e0, _, u0⟩ := DataW.trod_int Tryz.underlying3 t0
  obtain ⟨n1, y1, t1⟩ := hf 1 _ c1 rfl rfl
  obtain ⟨a1, e1, _, u1⟩ := DataW.trod_int Tryz.underlying3 t1
  obtain ⟨n2, y2, t2⟩ := hf 2 _ c2 rfl rfl
  obtain ⟨a2, e2, _, u2⟩ := DataW.trod_int Tryz.underlying3 t2
  obtain ⟨n3, y3, t3⟩ := hf 3 _ c3 rfl rfl
  obtain ⟨a3, e3, _, u3⟩ := DataW.trod_int Tryz.underlying3 t3
  obtain ⟨n4, y4, t4⟩ := hf 4 _ c4 rfl rfl
  obtain ⟨a4, e4, _, u4⟩ := DataW.trod_int Tryz.underlying3 t4
  obtain ⟨n5, y5, t5⟩ := hf 5 _ c5 rfl rfl
  obtain ⟨a5, e5, _⟩ := DataW.trod_bool Tryz.underlying4 t5
  obtain ⟨n6, y6, t6⟩ := hf 6 _ c6 rfl rfl
  obtain ⟨la, ln, lcap, lb, es, rfl, p1, p2, p3, p4, _⟩ := open_events t6
  simp only [List.cons.injEq, and_true] at e0 e1 e2 e3 e4 e5
  subst e0 e1 e2 e3 e4 e5
  refine ⟨⟨a0, a1, a2, a3, a4, a5, la, ln, lcap, lb, es⟩, rfl, p1, p2, p3, fun x hx => ?_, p4⟩
  simp only [List.mem_cons, List.mem_nil_iff, or_false] at hx
  rcases hx with rfl | rfl | rfl | rfl | rfl <;> assumption
set_option maxHeartbeats 1000000 in
theorem szAct_any (a : Ac) (x : Int) (w : World) (hn : a.ln ≤ 9223372036854775807) (hx : 0 ≤ x ∧ x ≤ 1048576) :
    Calls Tryz.prog 15 #[(.agg #[.int .i64 a.kd, .int .i64 a.nn, .int .i64 a.pi, .int .i64 a.si, .int .i64 a.zo, .bool a.be, .slice a.la a.ln a.lcap]), .int .i64 x] w fun e w' => e = .returned (.int .i64 (szN a.ln x)) ∧ Below w.heap.size w w' := by
  have hb0 := (Below.refl _ w).alloc (Nat.le_refl _) (.cells #[.int .i64 a.kd, .int .i64 a.nn, .int .i64 a.pi, .int .i64 a.si, .int .i64 a.zo, .bool a.be, .slice a.la a.ln a.lcap] 29)
  by_cases h1 : x - a.ln < 0
  · have HS : Hid (szN a.ln x = -1) := by show szN a.ln x = -1; unfold szN; rw [if_pos h1]
    go_enter Tryz.func15, Tryz.ntmps15
    go_wp2_with fail
    refine (szEventS_any _ _ _ _ _ hn hx).mono ?_
    rintro e w1 ⟨rfl, hw1⟩
    rw [HS.out, hw1]
    go_wp2
    go_ret
    exact ⟨ret_int HS.out.symm, hb0⟩
  · have HS : Hid (szN a.ln x = x - a.ln) := by show szN a.ln x = _; unfold szN; rw [if_neg h1]
    have h1' : 0 ≤ x - (a.ln : Int) := by omega
    clear h1
    go_enter Tryz.func15, Tryz.ntmps15
    go_wp2_with fail
    refine (szEventS_any _ _ _ _ _ hn hx).mono ?_
    rintro e w1 ⟨rfl, hw1⟩
    rw [HS.out, hw1]
    go_wp2
    go_ret
    exact ⟨ret_int HS.out.symm, hb0⟩
theorem OwnE.onlyE {α : Type} {C : α → List Value} {m : Nat} {w w' : World} {B b p : Nat} {a : Option Addr} {n : Nat} {f : Nat → α} (h : OwnE C m w B b a n f) (ho : Only p w w') (hp : b ≠ p) : OwnE C m w' B b a n f := h.same (ho.block b h.2.1 hp) ho.size
/-- they say the same, wherever their lists lie -/
structure AlikeA (t a : Ac) : Prop where
  kd : t.kd = a.kd
  nn : t.nn = a.nn
  pi : t.pi = a.pi
  si : t.si = a.si
  zo : t.zo = a.zo
  be : t.be = a.be
  ln : t.ln = a.ln
  es : t.es = a.es
/-- the call's own -/
def OwnA (w : World) (B : Nat) (t : Ac) : Prop := t.ln ≤ t.lcap ∧ t.lcap ≤ maxLen ∧ OwnE evC 7 w B t.lb t.la t.ln t.es
theorem OwnA.grew {w w' : World} {B : Nat} {t : Ac} (h : OwnA w B t) (hb : Below w.heap.size w w') : OwnA w' B t := ⟨h.1, h.2.1, h.2.2.grew hb⟩
theorem okT9 {t a : Ac} {w w0 : World} {B : Nat} (h : OwnA w B t) (k : AlikeA t a) (hs : a.ok w0) : t.ok w := by
  refine ⟨h.1, h.2.1, h.2.2.rd, ?_, ?_⟩
  · rw [k.kd, k.nn, k.pi, k.si, k.zo]; exact hs.2.2.2.1
  · rw [k.ln, k.es]; exact hs.2.2.2.2
set_option maxHeartbeats 4000000 in
theorem toAct_ans (a : Ac) (w : World) (hok : a.ok w) (hn : a.ln ≤ 1048576) :
    Calls Tryz.prog 22 #[(.agg #[.int .i64 a.kd, .int .i64 a.nn, .int .i64 a.pi, .int .i64 a.si, .int .i64 a.zo, .bool a.be, .slice a.la a.ln a.lcap])] w fun e w' => ∃ t : Ac, e = .returned (.agg #[.int .i64 t.kd, .int .i64 t.nn, .int .i64 t.pi, .int .i64 t.si, .int .i64 t.zo, .bool t.be, .slice t.la t.ln t.lcap]) ∧ Below w.heap.size w w' ∧ OwnA w' w.heap.size t ∧ AlikeA t a := by
  obtain ⟨_, _, r1, _⟩ := hok
  have hb0 := (((Below.refl _ w).alloc (Nat.le_refl _) (.cells #[.int .i64 a.kd, .int .i64 a.nn, .int .i64 a.pi, .int .i64 a.si, .int .i64 a.zo, .bool a.be, .slice a.la a.ln a.lcap] 29)).alloc (by simp) (.cells #[.int .i64 0, .int .i64 0, .int .i64 0, .int .i64 0, .int .i64 0, .bool false, .slice none 0 0] 42)).alloc (by simp; omega) (.cells #[.int .i64 0, .int .i64 0, .int .i64 0, .int .i64 0, .int .i64 0, .bool false, .slice none 0 0] 42)
  have x1 := ((boxR_new w 29 #[.int .i64 a.kd, .int .i64 a.nn, .int .i64 a.pi, .int .i64 a.si, .int .i64 a.zo, .bool a.be, .slice a.la a.ln a.lcap]).alloc (.cells #[.int .i64 0, .int .i64 0, .int .i64 0, .int .i64 0, .int .i64 0, .bool false, .slice none 0 0] 42)).alloc (.cells #[.int .i64 0, .int .i64 0, .int .i64 0, .int .i64 0, .int .i64 0, .bool false, .slice none 0 0] 42)
  have x2 : BoxR _ (w.heap.size + 1) _ _ := (show BoxR ((w.alloc (.cells #[.int .i64 a.kd, .int .i64 a.nn, .int .i64 a.pi, .int .i64 a.si, .int .i64 a.zo, .bool a.be, .slice a.la a.ln a.lcap] 29)).alloc (.cells #[.int .i64 0, .int .i64 0, .int .i64 0, .int .i64 0, .int .i64 0, .bool false, .slice none 0 0] 42)) (w.heap.size + 1) 42 #[.int .i64 0, .int .i64 0, .int .i64 0, .int .i64 0, .int .i64 0, .bool false, .slice none 0 0] from heap_alloc2_new _ _ _).alloc (.cells #[.int .i64 0, .int .i64 0, .int .i64 0, .int .i64 0, .int .i64 0, .bool false, .slice none 0 0] 42)
  have x3 := boxR_new ((w.alloc (.cells #[.int .i64 a.kd, .int .i64 a.nn, .int .i64 a.pi, .int .i64 a.si, .int .i64 a.zo, .bool a.be, .slice a.la a.ln a.lcap] 29)).alloc (.cells #[.int .i64 0, .int .i64 0, .int .i64 0, .int .i64 0, .int .i64 0, .bool false, .slice none 0 0] 42)) 42 #[.int .i64 0, .int .i64 0, .int .i64 0, .int .i64 0, .int .i64 0, .bool false, .slice none 0 0]
  rw [World.size_alloc, World.size_alloc] at x3
  generalize hW : ((w.alloc (.cells #[.int .i64 a.kd, .int .i64 a.nn, .int .i64 a.pi, .int .i64 a.si, .int .i64 a.zo, .bool a.be, .slice a.la a.ln a.lcap] 29)).alloc (.cells #[.int .i64 0, .int .i64 0, .int .i64 0, .int .i64 0, .int .i64 0, .bool false, .slice none 0 0] 42)).alloc (.cells #[.int .i64 0, .int .i64 0, .int .i64 0, .int .i64 0, .int .i64 0, .bool false, .slice none 0 0] 42) = W at hb0 x1 x2 x3
  have hwz := x3.lt
  have z3 := (((((x3.put 0 (.int .i64 a.kd)).put 1 (.int .i64 a.nn)).put 2 (.int .i64 a.pi)).put 3 (.int .i64 a.si)).put 4 (.int .i64 a.zo)).put 5 (.bool a.be)
  have z2 := (((((x2.other (q := ⟨w.heap.size + 1 + 1, 0, none⟩) (by simp) (.int .i64 a.kd)).other (q := ⟨w.heap.size + 1 + 1, 1, none⟩) (by simp) (.int .i64 a.nn)).other (q := ⟨w.heap.size + 1 + 1, 2, none⟩) (by simp) (.int .i64 a.pi)).other (q := ⟨w.heap.size + 1 + 1, 3, none⟩) (by simp) (.int .i64 a.si)).other (q := ⟨w.heap.size + 1 + 1, 4, none⟩) (by simp) (.int .i64 a.zo)).other (q := ⟨w.heap.size + 1 + 1, 5, none⟩) (by simp) (.bool a.be)
  have z1 := (((((x1.other (q := ⟨w.heap.size + 1 + 1, 0, none⟩) (by simp; omega) (.int .i64 a.kd)).other (q := ⟨w.heap.size + 1 + 1, 1, none⟩) (by simp; omega) (.int .i64 a.nn)).other (q := ⟨w.heap.size + 1 + 1, 2, none⟩) (by simp; omega) (.int .i64 a.pi)).other (q := ⟨w.heap.size + 1 + 1, 3, none⟩) (by simp; omega) (.int .i64 a.si)).other (q := ⟨w.heap.size + 1 + 1, 4, none⟩) (by simp; omega) (.int .i64 a.zo)).other (q := ⟨w.heap.size + 1 + 1, 5, none⟩) (by simp; omega) (.bool a.be)
  have hB1 := (((((hb0.setCell (p := ⟨w.heap.size + 1 + 1, 0, none⟩) (by simp; omega) (.int .i64 a.kd)).setCell (p := ⟨w.heap.size + 1 + 1, 1, none⟩) (by simp; omega) (.int .i64 a.nn)).setCell (p := ⟨w.heap.size + 1 + 1, 2, none⟩) (by simp; omega) (.int .i64 a.pi)).setCell (p := ⟨w.heap.size + 1 + 1, 3, none⟩) (by simp; omega) (.int .i64 a.si)).setCell (p := ⟨w.heap.size + 1 + 1, 4, none⟩) (by simp; omega) (.int .i64 a.zo)).setCell (p := ⟨w.heap.size + 1 + 1, 5, none⟩) (by simp; omega) (.bool a.be)
  have k0 := x1.cell 0
  have k1 := x1.cell 1
  have k2 := x1.cell 2
  have k3 := x1.cell 3
  have k4 := x1.cell 4
  have k5 := x1.cell 5
  have c0 := x3.cell 0
  have c1 := x3.cell 1
  have c2 := x3.cell 2
  have c3 := x3.cell 3
  have c4 := x3.cell 4
  have c5 := x3.cell 5
  have f0 := x3.froz 0
  have f1 := x3.froz 1
  have f2 := x3.froz 2
  have f3 := x3.froz 3
  have f4 := x3.froz 4
  have f5 := x3.froz 5
  simp at k0 k1 k2 k3 k4 k5 c0 c1 c2 c3 c4 c5
  generalize hV : (((((W.setCell ⟨w.heap.size + 1 + 1, 0, none⟩ (.int .i64 a.kd)).setCell ⟨w.heap.size + 1 + 1, 1, none⟩ (.int .i64 a.nn)).setCell ⟨w.heap.size + 1 + 1, 2, none⟩ (.int .i64 a.pi)).setCell ⟨w.heap.size + 1 + 1, 3, none⟩ (.int .i64 a.si)).setCell ⟨w.heap.size + 1 + 1, 4, none⟩ (.int .i64 a.zo)).setCell ⟨w.heap.size + 1 + 1, 5, none⟩ (.bool a.be) = V at z1 z2 z3 hB1
  have l6 := z1.cell 6
  simp at l6
  have hVs : w.heap.size + 1 + 1 < V.heap.size := z3.lt
  replace r1 := r1.grew evC_ne hB1
  clear x1 x2 x3 hb0
  go_enter Tryz.func22, Tryz.ntmps22
  go_wp2_with fail
  clear hW k0 k1 k2 k3 k4 k5 c0 c1 c2 c3 c4 c5 f0 f1 f2 f3 f4 f5
  refine (toEventS_any a.la a.lb a.ln a.lcap a.es V hn r1).mono ?_
  rintro e w1 ⟨rfl, hb1, o1⟩
  clear hV l6 r1
  replace z2 := z2.grew hb1
  replace z3 := z3.grew hb1
  have hB2 := below_app hB1 hb1 hB1.size
  have c6 := z3.cell 6
  have f6 := z3.froz 6
  have y3 := z3.put 6 (.slice (some ⟨V.heap.size, 0, none⟩) a.ln a.ln)
  have y2 := z2.other (q := ⟨w.heap.size + 1 + 1, 6, none⟩) (by simp) (.slice (some ⟨V.heap.size, 0, none⟩) a.ln a.ln)
  have hB3 := hB2.setCell (p := ⟨w.heap.size + 1 + 1, 6, none⟩) (by simp; omega) (.slice (some ⟨V.heap.size, 0, none⟩) a.ln a.ln)
  replace o1 := o1.setCell (q := ⟨w.heap.size + 1 + 1, 6, none⟩) (by simp; omega) (.slice (some ⟨V.heap.size, 0, none⟩) a.ln a.ln)
  generalize hU : w1.setCell ⟨w.heap.size + 1 + 1, 6, none⟩ (.slice (some ⟨V.heap.size, 0, none⟩) a.ln a.ln) = U at y3 y2 hB3 o1
  have m0 := y3.cell 0
  have m1 := y3.cell 1
  have m2 := y3.cell 2
  have m3 := y3.cell 3
  have m4 := y3.cell 4
  have m5 := y3.cell 5
  have m6 := y3.cell 6
  simp at c6 m0 m1 m2 m3 m4 m5 m6
  clear z2 z3 hB2 hb1 hB1 z1
  go_wp2_with (refine wpList_store_row rfl 42 (.tmp 2) _ rfl (w.heap.size + 1) _ (by rfl) (by rfl) _ _ y2 (by kernel_rfl) (by rfl) (by simp [Value.oneCell']) ?_)
  (try simp only [Exit.inBlock, Exit.then]); refine bodyPost_ret (results_cell_row rfl _ _ (w.heap.size + 1) _ _ _ _ rfl (setRow_heap _ _ _ _ _ _ y2) Tryz.underlying42 rfl (by kernel_rfl)) rfl ?_
  exact ⟨{ a with la := some ⟨V.heap.size, 0, none⟩, lcap := a.ln, lb := V.heap.size }, rfl, below_setRow hB3 (by omega) _, ⟨Nat.le_refl _, by show a.ln ≤ maxLen; unfold maxLen; omega, ⟨by show w.heap.size ≤ V.heap.size; omega, (o1.setRow (by omega) _).2⟩⟩, ⟨rfl, rfl, rfl, rfl, rfl, rfl, rfl, rfl⟩⟩
set_option maxHeartbeats 4000000 in
theorem eqAct_alike (t1 t2 a : Ac) (w : World) {B1 B2 : Nat} (o1 : OwnA w B1 t1) (o2 : OwnA w B2 t2) (k1 : AlikeA t1 a) (k2 : AlikeA t2 a) (hn : a.ln ≤ 1048577) :
    Calls Tryz.prog 34 #[(.agg #[.int .i64 t1.kd, .int .i64 t1.nn, .int .i64 t1.pi, .int .i64 t1.si, .int .i64 t1.zo, .bool t1.be, .slice t1.la t1.ln t1.lcap]), (.agg #[.int .i64 t2.kd, .int .i64 t2.nn, .int .i64 t2.pi, .int .i64 t2.si, .int .i64 t2.zo, .bool t2.be, .slice t2.la t2.ln t2.lcap])] w fun e w' => e = .returned (.bool true) ∧ Below w.heap.size w w' := by
  have r1 := o1.2.2.rd
  have r2 := o2.2.2.rd
  have q0 : t2.kd = t1.kd := k2.kd.trans k1.kd.symm
  have q1 : t2.nn = t1.nn := k2.nn.trans k1.nn.symm
  have q2 : t2.pi = t1.pi := k2.pi.trans k1.pi.symm
  have q3 : t2.si = t1.si := k2.si.trans k1.si.symm
  have q4 : t2.zo = t1.zo := k2.zo.trans k1.zo.symm
  have q5 : t2.be = t1.be := k2.be.trans k1.be.symm
  have q6 : t2.ln = t1.ln := k2.ln.trans k1.ln.symm
  have q7 : t2.es = t1.es := k2.es.trans k1.es.symm
  have hl : t1.ln ≤ 1048577 := by rw [k1.ln]; exact hn
  rw [q0, q1, q2, q3, q4, q5, q6]
  rw [q6, q7] at r2
  have HB := ((Below.refl _ w).alloc (Nat.le_refl _) (.cells #[.int .i64 t1.kd, .int .i64 t1.nn, .int .i64 t1.pi, .int .i64 t1.si, .int .i64 t1.zo, .bool t1.be, .slice t1.la t1.ln t1.lcap] 42)).alloc (by simp) (.cells #[.int .i64 t1.kd, .int .i64 t1.nn, .int .i64 t1.pi, .int .i64 t1.si, .int .i64 t1.zo, .bool t1.be, .slice t2.la t1.ln t2.lcap] 42)
  replace r1 := r1.grew evC_ne HB
  replace r2 := r2.grew evC_ne HB
  have hl2 : t1.ln ≤ 9223372036854775807 := by omega
  clear o1 o2 k1 k2 q0 q1 q2 q3 q4 q5 q6 q7 hn hl
  go_enter Tryz.func34, Tryz.ntmps34
  go_wp2_with fail
  refine (eqEventS_same _ _ _ _ _ _ _ _ _ hl2 r1 r2).mono ?_
  rintro e w1 ⟨rfl, hb1⟩
  go_wp2
  go_ret
  exact ⟨rfl, below_app HB hb1 HB.size⟩
set_option maxHeartbeats 4000000 in
theorem markAct_any (t : Ac) (k0 : Int) (w : World) {B : Nat} (hn : t.ln ≤ 1048577) (hk0 : 0 ≤ k0) (hk1 : k0 ≤ 140737488351232) (h : OwnA w B t) :
    Calls Tryz.prog 36 #[(.agg #[.int .i64 t.kd, .int .i64 t.nn, .int .i64 t.pi, .int .i64 t.si, .int .i64 t.zo, .bool t.be, .slice t.la t.ln t.lcap]), .int .i64 k0] w fun e w' => e = .returned (.int .i64 (k0 + 7 * t.ln)) ∧ Only t.lb w w' ∧ OwnE evC 7 w' B t.lb t.la t.ln (fun i => mkE (k0 + 7 * i)) := by
  have HO : Only t.lb w (w.alloc (.cells #[.int .i64 t.kd, .int .i64 t.nn, .int .i64 t.pi, .int .i64 t.si, .int .i64 t.zo, .bool t.be, .slice t.la t.ln t.lcap] 42)) := (Only.refl _ w).alloc _
  have ho := h.2.2.grew ((Below.refl w.heap.size w).alloc (Nat.le_refl _) (.cells #[.int .i64 t.kd, .int .i64 t.nn, .int .i64 t.pi, .int .i64 t.si, .int .i64 t.zo, .bool t.be, .slice t.la t.ln t.lcap] 42))
  generalize hW : w.alloc (.cells #[.int .i64 t.kd, .int .i64 t.nn, .int .i64 t.pi, .int .i64 t.si, .int .i64 t.zo, .bool t.be, .slice t.la t.ln t.lcap] 42) = W at HO ho
  go_enter Tryz.func36, Tryz.ntmps36
  have c6 : W.cell? ⟨w.heap.size, 6, none⟩ = some (.slice t.la t.ln t.lcap) := by rw [← hW]; exact (boxR_new w 42 #[.int .i64 t.kd, .int .i64 t.nn, .int .i64 t.pi, .int .i64 t.si, .int .i64 t.zo, .bool t.be, .slice t.la t.ln t.lcap]).cell 6
  go_wp2_with fail
  clear hW c6
  refine (markEventS_any _ _ _ _ _ _ _ hn hk0 hk1 ho).mono ?_
  rintro e w1 ⟨rfl, ho1, ho2⟩
  go_wp2
  go_ret
  exact ⟨rfl, HO.trans ho1, ho2⟩
end Go.Proofs.YtodfdfncdoliiauGreat
