/-
  Chapter 5: the specification's l5Copy. Own work.
-/
import Derived.Test.YtnlnledijpcjpabStLaw
import Derived.Test.YtnlnledijpcjpabStNew
import Derived.Test.YtnlnledijpcjpabState8
namespace Go.Proofs.Ytnlnledijpcjpab
open Go.ChangeShapes Go.WideShapes Go.ChangeAt Go.RowKit
set_option maxRecDepth 100000
set_option linter.unusedVariables false
/-- both rows begin at the beginning of their blocks -/
def Full (t : Stt) : Prop := t.pa = some ⟨t.pb, 0, none⟩ ∧ t.sa = some ⟨t.sb, 0, none⟩
def AnsF (s : Stt) (w : World) (e : Ending) (w' : World) : Prop := ∃ t : Stt, e = .returned (.agg #[.slice t.pa t.pn t.pcap, .slice t.sa t.sn t.scap, .int .i64 t.ac, .int .i64 t.cl]) ∧ Below w.heap.size w w' ∧ OwnT w' w.heap.size t ∧ Alike t s ∧ Full t
theorem BoxR.grownBy {w w' : World} {b t : Nat} {cs : Array Value} {row : Option Nat} (h : BoxR w b t cs) (hg : w.grownBy w' row) (hr : some b ≠ row) : BoxR w' b t cs := (hg.block b h.lt hr).trans h
theorem OwnE.downTo {α : Type} {C : α → List Value} {m : Nat} {w : World} {B B' b : Nat} {a : Option Addr} {n : Nat} {f : Nat → α} (h : OwnE C m w B b a n f) (hB : B' ≤ B) : OwnE C m w B' b a n f := ⟨Nat.le_trans hB h.1, h.2⟩
set_option maxHeartbeats 4000000 in
theorem l5Copy_any (s : Stt) (w : World) (hok : s.ok w) (hf : Full s) (hn : s.pn ≤ 1048577) (hn2 : s.sn ≤ 1048577) : Calls Try.prog 98 #[(.agg #[.slice s.pa s.pn s.pcap, .slice s.sa s.sn s.scap, .int .i64 s.ac, .int .i64 s.cl])] w fun e w' => AnsF s w e w' := by
  obtain ⟨i0, hi, hz0, hz1, hz2⟩ := info_parts Try.infoPc
  obtain ⟨j0, hj, hy0, hy1, hy2⟩ := info_parts Try.infoSd
  obtain ⟨pad, hpa⟩ : ∃ ad, s.pa = some ad := ⟨_, hf.1⟩
  obtain ⟨sad, hsa⟩ : ∃ ad, s.sa = some ad := ⟨_, hf.2⟩
  clear hf
  obtain ⟨_, _, r1, _, _, r2, _⟩ := hok
  obtain ⟨pa, pn, pcap, pb, ps, sa, sn, scap, sb, ss, ac, cl⟩ := s
  dsimp only at hpa hsa r1 r2 hn hn2 ⊢
  subst hpa hsa
  generalize hsv : (#[.slice (some pad) pn pcap, .slice (some sad) sn scap, .int .i64 ac, .int .i64 cl] : Array Value) = SL0
  have hb0 := (((Below.refl _ w).alloc (Nat.le_refl _) (.cells SL0 56)).alloc (by simp) (.cells #[.slice none 0 0, .slice none 0 0, .int .i64 0, .int .i64 0] 56)).alloc (by simp; omega) (.cells SL0 56)
  have x1 := ((boxR_new w 56 SL0).alloc (.cells #[.slice none 0 0, .slice none 0 0, .int .i64 0, .int .i64 0] 56)).alloc (.cells SL0 56)
  have x2 : BoxR _ (w.heap.size + 1) _ _ := (show BoxR ((w.alloc (.cells SL0 56)).alloc (.cells #[.slice none 0 0, .slice none 0 0, .int .i64 0, .int .i64 0] 56)) (w.heap.size + 1) 56 #[.slice none 0 0, .slice none 0 0, .int .i64 0, .int .i64 0] from heap_alloc2_new _ _ _).alloc (.cells SL0 56)
  have x3 := boxR_new ((w.alloc (.cells SL0 56)).alloc (.cells #[.slice none 0 0, .slice none 0 0, .int .i64 0, .int .i64 0] 56)) 56 SL0
  rw [World.size_alloc, World.size_alloc] at x3
  subst hsv
  generalize hW : ((w.alloc (.cells #[.slice (some pad) pn pcap, .slice (some sad) sn scap, .int .i64 ac, .int .i64 cl] 56)).alloc (.cells #[.slice none 0 0, .slice none 0 0, .int .i64 0, .int .i64 0] 56)).alloc (.cells #[.slice (some pad) pn pcap, .slice (some sad) sn scap, .int .i64 ac, .int .i64 cl] 56) = W at hb0 x1 x2 x3
  have hown0 : (W.alloc (.cells #[] 31)).ownsRow W.heap.size 31 13 (.slice (some ⟨W.heap.size, 0, none⟩) 0 0) 0 [] := World.ownsRow_lit W #[] 0 (Nat.le_refl _) (by decide) rfl
  have hbA := below_new2'' W (.cells #[] 31)
  have hnews := ((r1.grew pcC_ne hb0).grew pcC_ne hbA).newsE pcC_len
  have y1 := x1.alloc (.cells #[] 31)
  have y2 := x2.alloc (.cells #[] 31)
  have y3 := x3.alloc (.cells #[] 31)
  have hWl := x3.lt
  have c0 : (W.alloc (.cells #[] 31)).cell? ⟨w.heap.size, 0, none⟩ = some (.slice (some pad) pn pcap) := y1.cell 0
  go_enter Try.func98, Try.ntmps98
  go_wp2_with (at_builtin; generalize hA : W.alloc (.cells #[] 31) = WA at hown0 hbA hnews y1 y2 y3 c0 ⊢; refine wpList_append_own _ rfl (.tmp 5) (.tmp 7) 53 rfl W.heap.size 31 i0 _ 13 96 Try.underlying53 hi hz0 hz1 hz2 rfl (by decide) _ _ _ rfl hown0 pad pn pcap (valsE pcC pn ps) rfl (by rw [valsE_len pcC_len]) hnews (pcC_one _ _) (by unfold maxLen; omega) (by omega) hbA.size ?_)
  intro v4 w4 hown4 hgr4 hnil4
  have hBA := below_app hb0 hbA hb0.size
  have hWs := hb0.size
  have hb4 : Below w.heap.size w w4 := hBA.grown hgr4 hBA.size (fun k hk => by have := (hown0.lt k hk).1; have := hb0.size; omega)
  have hv4 : v4 ≠ .slice none 0 0 := fun e => by first | exact hnil4 e | (have h9 := (hnil4.1 e).1; simp at h9)
  have z1 := y1.grownBy hgr4 (by simp [Value.ownBlock]; try omega)
  have z2 := y2.grownBy hgr4 (by simp [Value.ownBlock]; try omega)
  have z3 := y3.grownBy hgr4 (by simp [Value.ownBlock]; try omega)
  (try simp only [Nat.zero_add, List.nil_append] at hown4)
  obtain ⟨q4, cap4, rfl, hc4, o4⟩ := own_ofE pcC_len hown4 hv4
  obtain ⟨cur4, hcur4, hm4⟩ := row_type hown4
  have n1 : q4 ≠ w.heap.size + 1 := box_ne z2 hcur4 (by decide)
  have n2 : q4 ≠ w.heap.size + 1 + 1 := box_ne z3 hcur4 (by decide)
  have f0 := z3.froz 0
  have g0 : w4.cell? ⟨w.heap.size + 1 + 1, 0, none⟩ = some (.slice (some pad) pn pcap) := z3.cell 0
  have a3 := z3.put 0 (.slice (some ⟨q4, 0, none⟩) pn cap4)
  have a1 := z1.other (q := ⟨w.heap.size + 1 + 1, 0, none⟩) (by simp; omega) (.slice (some ⟨q4, 0, none⟩) pn cap4)
  have a2 := z2.other (q := ⟨w.heap.size + 1 + 1, 0, none⟩) (by simp) (.slice (some ⟨q4, 0, none⟩) pn cap4)
  have ao := o4.setCell (q := ⟨w.heap.size + 1 + 1, 0, none⟩) n2 (.slice (some ⟨q4, 0, none⟩) pn cap4)
  have hb5 := hb4.setCell (p := ⟨w.heap.size + 1 + 1, 0, none⟩) (by simp; omega) (.slice (some ⟨q4, 0, none⟩) pn cap4)
  generalize hV : w4.setCell ⟨w.heap.size + 1 + 1, 0, none⟩ (.slice (some ⟨q4, 0, none⟩) pn cap4) = V at a1 a2 a3 ao hb5
  clear hown4 hgr4 hnil4 hown0 hnews y1 y2 y3 z1 z2 z3 hcur4 x1 x2 x3 hb0 hbA hBA hW hWl
  have hVl := a3.lt
  have hown1 : (V.alloc (.cells #[] 68)).ownsRow V.heap.size 68 3 (.slice (some ⟨V.heap.size, 0, none⟩) 0 0) 0 [] := World.ownsRow_lit V #[] 0 (Nat.le_refl _) (by decide) rfl
  have hbB := below_new2'' V (.cells #[] 68)
  have hnews := ((r2.grew sdC_ne hb5).grew sdC_ne hbB).newsE sdC_len
  have y1 := a1.alloc (.cells #[] 68)
  have y2 := a2.alloc (.cells #[] 68)
  have y3 := a3.alloc (.cells #[] 68)
  have yo := ao.grew hbB
  have c1 : (V.alloc (.cells #[] 68)).cell? ⟨w.heap.size, 1, none⟩ = some (.slice (some sad) sn scap) := y1.cell 1
  go_wp2_with (at_builtin; generalize hA : V.alloc (.cells #[] 68) = VA at hown1 hbB hnews y1 y2 y3 yo c1 ⊢; refine wpList_append_own _ rfl (.tmp 10) (.tmp 12) 54 rfl V.heap.size 68 j0 _ 3 24 Try.underlying54 hj hy0 hy1 hy2 rfl (by decide) _ _ _ rfl hown1 sad sn scap (valsE sdC sn ss) rfl (by rw [valsE_len sdC_len]) hnews (sdC_one _ _) (by unfold maxLen; omega) (by omega) hbB.size ?_)
  intro v6 w6 hown6 hgr6 hnil6
  have hBB := below_app hb5 hbB hb5.size
  have hb6 : Below w.heap.size w w6 := hBB.grown hgr6 hBB.size (fun k hk => by have := (hown1.lt k hk).1; have := hb5.size; omega)
  have hv6 : v6 ≠ .slice none 0 0 := fun e => by first | exact hnil6 e | (have h9 := (hnil6.1 e).1; simp at h9)
  have z2 := y2.grownBy hgr6 (by simp [Value.ownBlock]; try omega)
  have z3 := y3.grownBy hgr6 (by simp [Value.ownBlock]; try omega)
  have zo := yo.same (hgr6.block q4 yo.2.1 (by have := ao.2.1; simp [Value.ownBlock]; try omega)) hgr6.size
  (try simp only [Nat.zero_add, List.nil_append] at hown6)
  obtain ⟨q6, cap6, rfl, hc6, o6⟩ := own_ofE sdC_len hown6 hv6
  obtain ⟨cur6, hcur6, hm6⟩ := row_type hown6
  have n3 : q6 ≠ w.heap.size + 1 := box_ne z2 hcur6 (by decide)
  have n4 : q6 ≠ w.heap.size + 1 + 1 := box_ne z3 hcur6 (by decide)
  have n5 : q4 ≠ q6 := by have h1 := ao.2.1; have h2 := o6.1; omega
  have f1 := z3.froz 1
  have g1 : w6.cell? ⟨w.heap.size + 1 + 1, 1, none⟩ = some (.slice (some sad) sn scap) := z3.cell 1
  have b3 := z3.put 1 (.slice (some ⟨q6, 0, none⟩) sn cap6)
  have b2 := z2.other (q := ⟨w.heap.size + 1 + 1, 1, none⟩) (by simp) (.slice (some ⟨q6, 0, none⟩) sn cap6)
  have bo := zo.setCell (q := ⟨w.heap.size + 1 + 1, 1, none⟩) n2 (.slice (some ⟨q6, 0, none⟩) sn cap6)
  have bo6 := o6.setCell (q := ⟨w.heap.size + 1 + 1, 1, none⟩) n4 (.slice (some ⟨q6, 0, none⟩) sn cap6)
  have hb7 := hb6.setCell (p := ⟨w.heap.size + 1 + 1, 1, none⟩) (by simp; omega) (.slice (some ⟨q6, 0, none⟩) sn cap6)
  have hVs := hb5.size
  generalize hU : w6.setCell ⟨w.heap.size + 1 + 1, 1, none⟩ (.slice (some ⟨q6, 0, none⟩) sn cap6) = U at b2 b3 bo bo6 hb7
  have m0 : U.cell? ⟨w.heap.size + 1 + 1, 0, none⟩ = some (.slice (some ⟨q4, 0, none⟩) pn cap4) := b3.cell 0
  have m1 : U.cell? ⟨w.heap.size + 1 + 1, 1, none⟩ = some (.slice (some ⟨q6, 0, none⟩) sn cap6) := b3.cell 1
  have m2 : U.cell? ⟨w.heap.size + 1 + 1, 2, none⟩ = some (.int .i64 ac) := b3.cell 2
  have m3 : U.cell? ⟨w.heap.size + 1 + 1, 3, none⟩ = some (.int .i64 cl) := b3.cell 3
  clear hown6 hgr6 hnil6 hown1 hnews y1 y2 y3 yo z2 z3 zo hcur6 a1 a2 a3 ao hb5 hbB hBB hV hVl hb6 hb4
  go_wp2_with (refine wpList_store_row rfl 56 (.tmp 2) _ rfl (w.heap.size + 1) _ (by rfl) (by rfl) _ _ b2 (by kernel_rfl) (by rfl) (by simp [Value.oneCell']) ?_)
  (try simp only [Exit.inBlock, Exit.then]); refine bodyPost_ret (results_cell_row rfl _ _ (w.heap.size + 1) _ _ _ _ rfl (setRow_heap _ _ _ _ _ _ b2) Try.underlying56 rfl (by kernel_rfl)) rfl ?_
  refine ⟨⟨some ⟨q4, 0, none⟩, pn, cap4, q4, ps, some ⟨q6, 0, none⟩, sn, cap6, q6, ss, ac, cl⟩, rfl, below_setRow hb7 (by omega) _, ⟨.inr ((bo.setRow n1 _).downTo (by omega)), .inr ((bo6.setRow n3 _).downTo (by omega)), fun _ _ => n5, hc4, hm4, hc6, hm6⟩, ⟨rfl, rfl, rfl, rfl, rfl, rfl⟩, ⟨rfl, rfl⟩⟩
end Go.Proofs.Ytnlnledijpcjpab
