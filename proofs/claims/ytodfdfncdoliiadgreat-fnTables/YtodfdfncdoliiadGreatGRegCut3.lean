/-
  A region that draws its order, cut off from what follows: its orders meet again. 'vs': which slots hold what behind it. Chapter 11, the program: what tableOf has built so far (TS). Written by tools/tai.gen.py. Chapter 11, the program: tableOf. Written by tools/tai.gen.py. Own work.
-/
import Derived.Test.YtodfdfncdoliiadGreatRows
import Derived.WalkKit
import Derived.Deep.RegionWith
import Derived.Shelf.RegionOpenPlain
import Derived.Test.YtodfdfncdoliiadGreatGEfC3
import Derived.Test.YtodfdfncdoliiadGreatTaE
import Derived.Test.YtodfdfncdoliiadGreatTaG
import Derived.Deep.DeepCutAuto
import Derived.Deep.CutBlock
import Derived.Laws.OwnMore
import Derived.Deep.RegionHeld
import Derived.Deep.RegionHeldLaw
import Derived.Deep.MidRow
namespace Go.Proofs.YtodfdfncdoliiadGreat
def puts (a : Act) (vs : List (Nat × Value)) : Act := vs.foldl (fun a x => a.put (some x.1) x.2) a
theorem wp_cutP {P : Program} {c : Go.Code} {a : Act} {w : World} {K : Act → World → Prop} {Q : Exit → Act → World → Prop} (vs : Nat → Nat → List (Nat × Value)) (F : Nat → Nat → World → Prop)
    (h : c.wp P (Exit.then (fun a' u => ∃ q k, a' = puts a (vs q k) ∧ F q k u) Q) a w) (hk : ∀ q k u, F q k u → K (puts a (vs q k)) u) : c.wp P (Exit.then K Q) a w := by
  refine wp_mono h fun e a' u hq => ?_
  cases e
  case normal => obtain ⟨q, k, rfl, hf⟩ := hq; exact hk q k u hf
  all_goals exact hq
end Go.Proofs.YtodfdfncdoliiadGreat
namespace Go.Proofs.YtodfdfncdoliiadGreat
open Go.ChangeShapes Go.WideShapes Go.ChangeAt Go.RowKit
set_option maxRecDepth 100000
set_option linter.unusedVariables false
set_option linter.unusedSimpArgs false

/-- a region that draws its order, cut off from what follows; what it answers is one of many -/
theorem wp_cutR {β : Type} {P : Program} {c : Go.Code} {a : Act} {w : World} {K : Act → World → Prop} {Q : Exit → Act → World → Prop} (vs : β → List (Nat × Value)) (F : β → World → Prop)
    (h : c.wp P (Exit.then (fun a' u => ∃ x, a' = puts a (vs x) ∧ F x u) Q) a w) (hk : ∀ x u, F x u → K (puts a (vs x)) u) : c.wp P (Exit.then K Q) a w := by
  refine wp_mono h fun e a' u hq => ?_
  cases e
  case normal => obtain ⟨x, rfl, hf⟩ := hq; exact hk x u hf
  all_goals exact hq
/-- .. and where it is a block's last -/
theorem wp_cutQ {β : Type} {P : Program} {c : Go.Code} {a : Act} {w : World} {Q : Exit → Act → World → Prop} (vs : β → List (Nat × Value)) (F : β → World → Prop)
    (h : c.wp P (Exit.then (fun a' u => ∃ x, a' = puts a (vs x) ∧ F x u) Q) a w) (hk : ∀ x u, F x u → Q .normal (puts a (vs x)) u) : c.wp P Q a w := by
  refine wp_mono h fun e a' u hq => ?_
  cases e
  case normal => obtain ⟨x, rfl, hf⟩ := hq; exact hk x u hf
  all_goals exact hq
/-- an effect as a value -/
def efV (e : Ef) : Value := (.agg #[.int .i64 e.id, .int .i64 e.si, .int .i64 e.sr, .int .i64 e.cl, .int .i64 e.pt.kd, .int .i64 e.pt.wh, .int .i64 e.pt.sr, .int .i64 e.pt.tr, .int .i64 e.pt.pi, .int .i64 e.pt.le, .int .i64 e.pt.zo, .int .i64 e.gd.kd, .int .i64 e.gd.nn, .int .i64 e.ac.kd, .int .i64 e.ac.nn, .int .i64 e.ac.pi, .int .i64 e.ac.si, .int .i64 e.ac.zo, .bool e.ac.be, .slice e.ac.la e.ac.ln e.ac.lcap, .int .i64 e.un, .int .i64 e.le])
/-- how many of an Id are among the first k -/
def cntI (f : Nat → Ef) (id : Int) : Nat → Nat
  | 0 => 0
  | k + 1 => cntI f id k + (if (f k).id = id then 1 else 0)
theorem cntI_le (f : Nat → Ef) (id : Int) : ∀ k, cntI f id k ≤ k
  | 0 => Nat.le_refl _
  | k + 1 => by have := cntI_le f id k; unfold cntI; split <;> omega
/-- the mark of the i-th -/
def mkAt (f : Nat → Ef) (i : Nat) : Int × Int := ((f i).id, (cntI f (f i).id i : Int))
/-- the first k by their marks -/
def tabM (f : Nat → Ef) : Nat → Int × Int → Option Ef
  | 0 => fun _ => none
  | k + 1 => fun x => if x = mkAt f k then some (f k) else tabM f k x
def valM (M : Int × Int → Option Ef) : Int × Int → Option Value := fun x => (M x).map efV
def manyM (f : Nat → Ef) (k : Nat) : Int → Option Value := fun id => if cntI f id k = 0 then none else some (.int .i64 (cntI f id k : Int))
theorem tabM_put (f : Nat → Ef) (k : Nat) : putM (valM (tabM f k)) (mkAt f k) (efV (f k)) = valM (tabM f (k + 1)) := by
  funext x
  unfold putM valM
  by_cases h : x = mkAt f k
  · rw [if_pos h]; unfold tabM; rw [if_pos h]; rfl
  · rw [if_neg h]; conv => rhs; unfold tabM
    rw [if_neg h]
theorem manyM_get (f : Nat → Ef) (k : Nat) (id : Int) : (manyM f k id).getD (.int .i64 0) = .int .i64 (cntI f id k : Int) := by
  unfold manyM
  by_cases h : cntI f id k = 0
  · rw [if_pos h, h]; rfl
  · rw [if_neg h]; rfl
theorem manyM_put (f : Nat → Ef) (k : Nat) : putM (manyM f k) (f k).id (.int .i64 ((cntI f (f k).id k : Int) + 1)) = manyM f (k + 1) := by
  funext id
  unfold putM manyM
  by_cases h : id = (f k).id
  · subst h
    rw [if_pos rfl]
    have : cntI f (f k).id (k + 1) = cntI f (f k).id k + 1 := by unfold cntI; rw [if_pos rfl]; cases k <;> rfl
    rw [this, if_neg (by omega)]
    congr 1
  · rw [if_neg h]
    have : cntI f id (k + 1) = cntI f id k := by conv => lhs; unfold cntI
                                                 rw [if_neg (fun e => h e.symm)]; rfl
    rw [this]
theorem MapB.apart {α : Type} {enc : α → Value} {w : World} {b c t : Nat} {M : α → Option Value} {cs : Array Value} {x : Nat × Nat} (h : MapB enc w b M) (hc : w.heap[c]? = some (.cells cs t x)) : c ≠ b := by
  obtain ⟨es, cl, hb, _⟩ := h
  intro e
  subst e
  rw [hb] at hc
  cases hc
theorem BoxR.wrote {w w' : World} {b c t : Nat} {cs : Array Value} (h : BoxR w c t cs) (W : Wrote w w' b) : BoxR w' c t cs := by
  have hne : c ≠ b := by
    obtain ⟨es, cl, es', cl', hb, _⟩ := W
    intro e
    subst e
    unfold BoxR at h
    rw [hb] at h
    cases h
  exact (W.other hne).trans h
/-- what tableOf has built of the first k1 (the map), k2 (how many of each), k3 (the order) -/
structure TS (w : World) (f : Nat → Ef) (n mb qb tb nb k1 k2 k3 : Nat) (u : World) : Prop where
  b : Below w.heap.size w u
  rx : BoxR u w.heap.size 113 #[.map none, .slice none 0 0]
  tx : BoxR u tb 113 #[.map (some mb), .slice (some ⟨qb, 0, none⟩) n n]
  me : MapB encMk u mb (valM (tabM f k1))
  mn : MapB encI u nb (manyM f k2)
  ro : u.heap[qb]? = some (.cells (valsE mkC n (tilE k3 (mkAt f) (fun _ => (0, 0)))).toArray 117 (0, 0))
  l : w.heap.size < tb ∧ w.heap.size < mb ∧ w.heap.size < nb ∧ w.heap.size < qb
  ne : mb ≠ nb ∧ tb ≠ qb
section
variable {w : World} {f : Nat → Ef} {n mb qb tb nb k1 k2 k3 : Nat} {u u' : World}
theorem TS.grew (h : TS w f n mb qb tb nb k1 k2 k3 u) (hb : Below u.heap.size u u') : TS w f n mb qb tb nb k1 k2 k3 u' :=
  ⟨below_app h.b hb h.b.size, h.rx.grew hb, h.tx.grew hb, h.me.grew hb, h.mn.grew hb, (hb.block _ (lt_row h.ro)).trans h.ro, h.l, h.ne⟩
theorem TS.many {k2' : Nat} (h : TS w f n mb qb tb nb k1 k2 k3 u) (W : Wrote u u' nb) (m : MapB encI u' nb (manyM f k2')) : TS w f n mb qb tb nb k1 k2' k3 u' :=
  ⟨h.b.trans (W.below (Nat.le_of_lt h.l.2.2.1)), h.rx.wrote W, h.tx.wrote W, h.me.same (W.other h.ne.1), m, (W.other (h.mn.apart h.ro)).trans h.ro, h.l, h.ne⟩
theorem TS.put {k1' : Nat} (h : TS w f n mb qb tb nb k1 k2 k3 u) (W : Wrote u u' mb) (m : MapB encMk u' mb (valM (tabM f k1'))) : TS w f n mb qb tb nb k1' k2 k3 u' :=
  ⟨h.b.trans (W.below (Nat.le_of_lt h.l.2.1)), h.rx.wrote W, h.tx.wrote W, m, h.mn.same (W.other (fun e => h.ne.1 e.symm)), (W.other (h.me.apart h.ro)).trans h.ro, h.l, h.ne⟩
theorem TS.row (h : TS w f n mb qb tb nb k1 k2 k3 u) (hk : k3 < n) : TS w f n mb qb tb nb k1 k2 (k3 + 1) (u.setCells qb (k3 * 2) (mkC (mkAt f k3))) := by
  have hq := row_putE mkC_len h.ro k3 (mkAt f k3) hk
  rw [tilE_step] at hq
  exact ⟨below_setCells' (Nat.le_of_lt h.l.2.2.2) _ _ _ h.b, h.rx.otherL (Nat.ne_of_lt h.l.2.2.2) _ _, h.tx.otherL h.ne.2 _ _, h.me.same (setCells_other (fun e => h.me.apart h.ro e.symm) _ _ _), h.mn.same (setCells_other (fun e => h.mn.apart h.ro e.symm) _ _ _), hq, h.l, h.ne⟩
end
end Go.Proofs.YtodfdfncdoliiadGreat
namespace Go.Proofs.YtodfdfncdoliiadGreat
open Go.ChangeShapes Go.WideShapes Go.ChangeAt Go.RowKit
set_option maxRecDepth 100000
set_option linter.unusedVariables false
set_option linter.unusedSimpArgs false

theorem BoxR.rangeTt {w : World} {g t : Nat} {cs : Array Value} (h : BoxR w g t cs) : w.rangeAt g 0 cs.toList := fun j v hv => by
  have hc := cell_of_row w g (0 + j) cs t (0, 0) h
  rw [hc]
  simpa using hv

/-- the three that tableOf makes first, in whatever order -/
structure T0 (w : World) (n mb qb tb : Nat) (u : World) : Prop where
  b : Below w.heap.size w u
  tx : BoxR u tb 113 #[.map (some mb), .slice (some ⟨qb, 0, none⟩) n n]
  me : MapB encMk u mb (fun _ : Int × Int => none)
  ro : u.heap[qb]? = some (.cells (valsE mkC n (fun _ => (0, 0))).toArray 117 (0, 0))
  l : w.heap.size ≤ tb ∧ w.heap.size ≤ mb ∧ w.heap.size ≤ qb ∧ tb ≠ qb
set_option maxHeartbeats 4000000 in
theorem tableOf_any (t : Tb) (w : World) (hok : t.okW w) (hn : t.n ≤ 1048577) : Calls Tryz.prog 80 #[.slice t.p t.n t.cap] w fun e w' => ∃ mb qb : Nat, e = .returned (.agg #[.map (some mb), .slice (some ⟨qb, 0, none⟩) t.n t.n]) ∧ Below w.heap.size w w' ∧ MapB encMk w' mb (valM (tabM t.f t.n)) ∧ w.heap.size ≤ mb ∧ qb ≠ mb ∧ OwnE mkC 2 w' w.heap.size qb (some ⟨qb, 0, none⟩) t.n (mkAt t.f) := by
  have hnm := hok.le
  obtain ⟨im, him, hm0, hm1, hm2⟩ := info_parts Tryz.infoMk
  have h58 : (Tryz.prog.info? 113).map (fun i => (i.zero, i.size, i.bytes)) = some (some (.agg #[.map none, .slice none 0 0]), 2, 32) := by kernel_rfl
  obtain ⟨it, hit, ht0, ht1, ht2⟩ := info_parts h58
  obtain ⟨p, n, cap, b, f⟩ := t
  obtain ⟨hc1, hc2, h, hf⟩ := hok
  dsimp only at hc1 hc2 h hf hn hnm ⊢
  have R0 := boxR_new w 113 #[.map none, .slice none 0 0]
  have hb0 := below_new2'' w (.cells #[.map none, .slice none 0 0] 113)
  go_enter Tryz.func80, Tryz.ntmps80
  go_upto_region 1 with fail
  have hWs : (w.alloc (.cells #[.map none, .slice none 0 0] 113)).heap.size = w.heap.size + 1 := by simp
  generalize hW : w.alloc (.cells #[.map none, .slice none 0 0] 113) = W at R0 hb0 hWs ⊢
  clear hW
  refine wp_cutR (fun x : Nat × Nat × Nat => [(8, .slice p n cap), (9, .int .i64 (n : Int)), (10, .map (some x.1)), (11, .slice p n cap), (12, .int .i64 (n : Int)), (13, .slice (some ⟨x.2.1, 0, none⟩) n n), (14, .agg #[.map (some x.1), .slice (some ⟨x.2.1, 0, none⟩) n n]), (3, .pointer (some ⟨x.2.2, 0, none⟩))]) (fun x u => T0 W n x.1 x.2.1 x.2.2 u) ?_ ?_
  · have hq : Below W.heap.size W W.drew := (Below.refl _ W).drew
    refine wp_region_held_drew (S := fun u : World => Below W.heap.size W u) (by kernel_rfl) hq (fun hHeld => ?_)
    clear hq
    generalize hU : W.drew = U at hHeld ⊢
    clear hU
    have hq := hHeld
    refine wpAnyH_take (i := 0) (oi := ⟨some 8, _, _, _, _, _⟩) (v := .slice p n cap) rfl (by kernel_rfl) (by kernel_rfl) (by kernel_rfl) (fun _ _ _ h => h) (Or.inl ⟨by kernel_rfl, fun u hSu => by clear hSu; go_simp⟩) hHeld ?_
    try simp only [Act.put, List.setIfInBounds_toArray, List.set_cons_zero, List.set_cons_succ]
    refine wpAnyH_take (i := 1) (oi := ⟨some 9, _, _, _, _, _⟩) (v := .int .i64 (n : Int)) rfl (by kernel_rfl) (by kernel_rfl) (by kernel_rfl) (fun _ _ _ h => h) (Or.inl ⟨by kernel_rfl, fun u hSu => by clear hSu; go_simp⟩) hHeld ?_
    try simp only [Act.put, List.setIfInBounds_toArray, List.set_cons_zero, List.set_cons_succ]
    refine wpAnyH_take (i := 3) (oi := ⟨some 11, _, _, _, _, _⟩) (v := .slice p n cap) rfl (by kernel_rfl) (by kernel_rfl) (by kernel_rfl) (fun _ _ _ h => h) (Or.inl ⟨by kernel_rfl, fun u hSu => by clear hSu; go_simp⟩) hHeld ?_
    try simp only [Act.put, List.setIfInBounds_toArray, List.set_cons_zero, List.set_cons_succ]
    refine wpAnyH_take (i := 4) (oi := ⟨some 12, _, _, _, _, _⟩) (v := .int .i64 (n : Int)) rfl (by kernel_rfl) (by kernel_rfl) (by kernel_rfl) (fun _ _ _ h => h) (Or.inl ⟨by kernel_rfl, fun u hSu => by clear hSu; go_simp⟩) hHeld ?_
    try simp only [Act.put, List.setIfInBounds_toArray, List.set_cons_zero, List.set_cons_succ]
    refine wpAnyH_ready (rs := [2, 5, 7]) (by kernel_rfl) (by simp) ?_
    refine AllReadyH.cons (o := ⟨some 10, _, _, _, _, _⟩) rfl (fun K' hK => ?_) ?_
    ·
      rw [if_pos (by kernel_rfl)]
      have hUs := hq.size
      refine wp_makeM 110 (.tmp 9) rfl Tryz.underlying110 rfl ?_
      have mm : MapB encMk (U.alloc (.map #[] 0)) U.heap.size (fun _ : Int × Int => none) := MapB.made U
      have hst := below_new2'' U (.map #[] 0)
      have hq2 := below_app hq hst hUs
      have l2 := hUs
      (try dsimp only [Value.cells])
      generalize hV : U.alloc (.map #[] 0) = U2 at hq2 hst mm ⊢
      clear hV
      generalize hx : U.heap.size = mb at l2 mm ⊢
      clear hst
      refine hK.out _ _ hq2 (fun hHeld => ?_)
      clear hK hq hx hUs
      have hq := hq2
      clear hq2
      try simp only [Act.put, List.setIfInBounds_toArray, List.set_cons_zero, List.set_cons_succ]
      refine wpAnyH_ready (rs := [5, 7]) (by kernel_rfl) (by simp) ?_
      refine AllReadyH.cons (o := ⟨some 13, _, _, _, _, _⟩) rfl (fun K' hK => ?_) ?_
      ·
        rw [if_pos (by kernel_rfl)]
        have hUs := hq.size
        have lm' := mm.lt
        refine wp_make_full (.tmp 12) (.tmp 12) 111 rfl U2.heap.size 117 im _ 2 Tryz.underlying111 him hm0 hm1 _ _ _ _ n rfl rfl rfl rfl (by rw [hm2]; omega) (by unfold maxLen; omega) (Nat.le_refl _) ?_
        intro U25 hown hgr
        have hown' : U25.ownsRow U2.heap.size 117 2 (.slice (some ⟨U2.heap.size, 0, none⟩) n n) n (valsE mkC n (fun _ => (0, 0))) := by rw [← made_mark]; exact hown
        have rr := row_madeE hown'
        have hst : Below U2.heap.size U2 U25 := (Below.refl _ _).grown hgr (Nat.le_refl _) (by simp)
        clear hown hown' hgr
        replace mm := mm.grew hst
        have lmu := mm.lt
        have hq2 := below_app hq hst hUs
        have l5 := hUs
        generalize hx : U2.heap.size = qb at l5 rr ⊢
        clear hst
        refine hK.out _ _ hq2 (fun hHeld => ?_)
        clear hK hq hx hUs lm' lmu
        have hq := hq2
        clear hq2
        try simp only [Act.put, List.setIfInBounds_toArray, List.set_cons_zero, List.set_cons_succ]
        refine wpAnyH_take (i := 6) (oi := ⟨some 14, _, _, _, _, _⟩) (v := .agg #[.map (some mb), .slice (some ⟨qb, 0, none⟩) n n]) rfl (by kernel_rfl) (by kernel_rfl) (by kernel_rfl) (fun _ _ _ h => h) (Or.inl ⟨by kernel_rfl, fun u hSu => by clear hSu; go_simp⟩) hHeld ?_
        try simp only [Act.put, List.setIfInBounds_toArray, List.set_cons_zero, List.set_cons_succ]
        refine wpAnyH_ready (rs := [7]) (by kernel_rfl) (by simp) ?_
        refine AllReadyH.cons (o := ⟨some 3, _, _, _, _, _⟩) rfl (fun K' hK => ?_) AllReadyH.nil
        rw [if_pos (by kernel_rfl)]
        have hUs := hq.size
        have lm' := mm.lt
        have lr' := lt_row rr
        refine wp_allocT 113 rfl _ it hit ht0 ?_
        have bb := boxR_new U25 113 #[.map none, .slice none 0 0]
        have hst := below_new2'' U25 (.cells #[.map none, .slice none 0 0] 113)
        replace mm := mm.grew hst
        have lmu := mm.lt
        replace rr := (hst.block _ (lt_row rr)).trans rr
        have hq2 := below_app hq hst hUs
        have l7 := hUs
        have ntq : U25.heap.size ≠ qb := by omega
        (try dsimp only [Value.cells])
        generalize hV : U25.alloc (.cells #[.map none, .slice none 0 0] 113) = U257 at bb hq2 hst lmu mm rr ⊢
        clear hV
        generalize hx : U25.heap.size = tb at bb l7 ntq ⊢
        clear hst
        refine hK.out _ _ hq2 (fun hHeld => ?_)
        clear hK hq hx hUs lm' lr' lmu
        have hq := hq2
        clear hq2
        try simp only [Act.put, List.setIfInBounds_toArray, List.set_cons_zero, List.set_cons_succ]
        refine wpAnyH_ready (rs := [8]) (by kernel_rfl) (by simp) ?_
        refine AllReadyH.cons (o := ⟨none, _, _, _, _, _⟩) rfl (fun K' hK => ?_) AllReadyH.nil
        rw [if_pos (by kernel_rfl)]
        refine wp_store_row 113 (.tmp 3) (.tmp 14) rfl tb #[.map (some mb), .slice (some ⟨qb, 0, none⟩) n n] (by rfl) (by rfl) _ _ bb (by kernel_rfl) (by rfl) (by simp [Value.oneCell']) ?_
        have hq2 := below_setRow hq l7 #[.map (some mb), .slice (some ⟨qb, 0, none⟩) n n]
        refine hK.out _ _ hq2 (fun hHeld => ?_)
        clear hK
        try simp only [Act.put, List.setIfInBounds_toArray, List.set_cons_zero, List.set_cons_succ]
        refine wpAnyH_done (by kernel_rfl) ?_ _
        refine ⟨(mb, qb, tb), rfl, ⟨hq2, setRow_heap _ _ _ _ _ _ bb, mm.same (heap_setRow_ne' _ _ _ _ (fun e => mm.apart bb e.symm)), (heap_setRow_ne' _ _ _ _ (fun e => ntq e.symm)).trans rr, l7, l2, l5, ntq⟩⟩
      refine AllReadyH.cons (o := ⟨some 3, _, _, _, _, _⟩) rfl (fun K' hK => ?_) AllReadyH.nil
      rw [if_pos (by kernel_rfl)]
      have hUs := hq.size
      have lm' := mm.lt
      refine wp_allocT 113 rfl _ it hit ht0 ?_
      have bb := boxR_new U2 113 #[.map none, .slice none 0 0]
      have hst := below_new2'' U2 (.cells #[.map none, .slice none 0 0] 113)
      replace mm := mm.grew hst
      have lmu := mm.lt
      have hq2 := below_app hq hst hUs
      have l7 := hUs
      (try dsimp only [Value.cells])
      generalize hV : U2.alloc (.cells #[.map none, .slice none 0 0] 113) = U27 at bb hq2 hst lmu mm ⊢
      clear hV
      generalize hx : U2.heap.size = tb at bb l7 ⊢
      clear hst
      refine hK.out _ _ hq2 (fun hHeld => ?_)
      clear hK hq hx hUs lm' lmu
      have hq := hq2
      clear hq2
      try simp only [Act.put, List.setIfInBounds_toArray, List.set_cons_zero, List.set_cons_succ]
      refine wpAnyH_ready (rs := [5]) (by kernel_rfl) (by simp) ?_
      refine AllReadyH.cons (o := ⟨some 13, _, _, _, _, _⟩) rfl (fun K' hK => ?_) AllReadyH.nil
      rw [if_pos (by kernel_rfl)]
      have hUs := hq.size
      have lm' := mm.lt
      have lb' := bb.lt
      refine wp_make_full (.tmp 12) (.tmp 12) 111 rfl U27.heap.size 117 im _ 2 Tryz.underlying111 him hm0 hm1 _ _ _ _ n rfl rfl rfl rfl (by rw [hm2]; omega) (by unfold maxLen; omega) (Nat.le_refl _) ?_
      intro U275 hown hgr
      have hown' : U275.ownsRow U27.heap.size 117 2 (.slice (some ⟨U27.heap.size, 0, none⟩) n n) n (valsE mkC n (fun _ => (0, 0))) := by rw [← made_mark]; exact hown
      have rr := row_madeE hown'
      have hst : Below U27.heap.size U27 U275 := (Below.refl _ _).grown hgr (Nat.le_refl _) (by simp)
      clear hown hown' hgr
      replace mm := mm.grew hst
      have lmu := mm.lt
      replace bb := bb.grew hst
      have hq2 := below_app hq hst hUs
      have l5 := hUs
      have ntq : tb ≠ U27.heap.size := by omega
      generalize hx : U27.heap.size = qb at l5 ntq rr ⊢
      clear hst
      refine hK.out _ _ hq2 (fun hHeld => ?_)
      clear hK hq hx hUs lm' lb' lmu
      have hq := hq2
      clear hq2
      try simp only [Act.put, List.setIfInBounds_toArray, List.set_cons_zero, List.set_cons_succ]
      refine wpAnyH_take (i := 6) (oi := ⟨some 14, _, _, _, _, _⟩) (v := .agg #[.map (some mb), .slice (some ⟨qb, 0, none⟩) n n]) rfl (by kernel_rfl) (by kernel_rfl) (by kernel_rfl) (fun _ _ _ h => h) (Or.inl ⟨by kernel_rfl, fun u hSu => by clear hSu; go_simp⟩) hHeld ?_
      try simp only [Act.put, List.setIfInBounds_toArray, List.set_cons_zero, List.set_cons_succ]
      refine wpAnyH_ready (rs := [8]) (by kernel_rfl) (by simp) ?_
      refine AllReadyH.cons (o := ⟨none, _, _, _, _, _⟩) rfl (fun K' hK => ?_) AllReadyH.nil
      rw [if_pos (by kernel_rfl)]
      refine wp_store_row 113 (.tmp 3) (.tmp 14) rfl tb #[.map (some mb), .slice (some ⟨qb, 0, none⟩) n n] (by rfl) (by rfl) _ _ bb (by kernel_rfl) (by rfl) (by simp [Value.oneCell']) ?_
      have hq2 := below_setRow hq l7 #[.map (some mb), .slice (some ⟨qb, 0, none⟩) n n]
      refine hK.out _ _ hq2 (fun hHeld => ?_)
      clear hK
      try simp only [Act.put, List.setIfInBounds_toArray, List.set_cons_zero, List.set_cons_succ]
      refine wpAnyH_done (by kernel_rfl) ?_ _
      refine ⟨(mb, qb, tb), rfl, ⟨hq2, setRow_heap _ _ _ _ _ _ bb, mm.same (heap_setRow_ne' _ _ _ _ (fun e => mm.apart bb e.symm)), (heap_setRow_ne' _ _ _ _ (fun e => ntq e.symm)).trans rr, l7, l2, l5, ntq⟩⟩
    refine AllReadyH.cons (o := ⟨some 13, _, _, _, _, _⟩) rfl (fun K' hK => ?_) ?_
    ·
      rw [if_pos (by kernel_rfl)]
      have hUs := hq.size
      refine wp_make_full (.tmp 12) (.tmp 12) 111 rfl U.heap.size 117 im _ 2 Tryz.underlying111 him hm0 hm1 _ _ _ _ n rfl rfl rfl rfl (by rw [hm2]; omega) (by unfold maxLen; omega) (Nat.le_refl _) ?_
      intro U5 hown hgr
      have hown' : U5.ownsRow U.heap.size 117 2 (.slice (some ⟨U.heap.size, 0, none⟩) n n) n (valsE mkC n (fun _ => (0, 0))) := by rw [← made_mark]; exact hown
      have rr := row_madeE hown'
      have hst : Below U.heap.size U U5 := (Below.refl _ _).grown hgr (Nat.le_refl _) (by simp)
      clear hown hown' hgr
      have hq2 := below_app hq hst hUs
      have l5 := hUs
      generalize hx : U.heap.size = qb at l5 rr ⊢
      clear hst
      refine hK.out _ _ hq2 (fun hHeld => ?_)
      clear hK hq hx hUs
      have hq := hq2
      clear hq2
      try simp only [Act.put, List.setIfInBounds_toArray, List.set_cons_zero, List.set_cons_succ]
      refine wpAnyH_ready (rs := [2, 7]) (by kernel_rfl) (by simp) ?_
      refine AllReadyH.cons (o := ⟨some 10, _, _, _, _, _⟩) rfl (fun K' hK => ?_) ?_
      ·
        rw [if_pos (by kernel_rfl)]
        have hUs := hq.size
        have lr' := lt_row rr
        refine wp_makeM 110 (.tmp 9) rfl Tryz.underlying110 rfl ?_
        have mm : MapB encMk (U5.alloc (.map #[] 0)) U5.heap.size (fun _ : Int × Int => none) := MapB.made U5
        have hst := below_new2'' U5 (.map #[] 0)
        replace rr := (hst.block _ (lt_row rr)).trans rr
        have hq2 := below_app hq hst hUs
        have l2 := hUs
        (try dsimp only [Value.cells])
        generalize hV : U5.alloc (.map #[] 0) = U52 at hq2 hst mm rr ⊢
        clear hV
        generalize hx : U5.heap.size = mb at l2 mm ⊢
        clear hst
        refine hK.out _ _ hq2 (fun hHeld => ?_)
        clear hK hq hx hUs lr'
        have hq := hq2
        clear hq2
        try simp only [Act.put, List.setIfInBounds_toArray, List.set_cons_zero, List.set_cons_succ]
        refine wpAnyH_take (i := 6) (oi := ⟨some 14, _, _, _, _, _⟩) (v := .agg #[.map (some mb), .slice (some ⟨qb, 0, none⟩) n n]) rfl (by kernel_rfl) (by kernel_rfl) (by kernel_rfl) (fun _ _ _ h => h) (Or.inl ⟨by kernel_rfl, fun u hSu => by clear hSu; go_simp⟩) hHeld ?_
        try simp only [Act.put, List.setIfInBounds_toArray, List.set_cons_zero, List.set_cons_succ]
        refine wpAnyH_ready (rs := [7]) (by kernel_rfl) (by simp) ?_
        refine AllReadyH.cons (o := ⟨some 3, _, _, _, _, _⟩) rfl (fun K' hK => ?_) AllReadyH.nil
        rw [if_pos (by kernel_rfl)]
        have hUs := hq.size
        have lm' := mm.lt
        have lr' := lt_row rr
        refine wp_allocT 113 rfl _ it hit ht0 ?_
        have bb := boxR_new U52 113 #[.map none, .slice none 0 0]
        have hst := below_new2'' U52 (.cells #[.map none, .slice none 0 0] 113)
        replace mm := mm.grew hst
        have lmu := mm.lt
        replace rr := (hst.block _ (lt_row rr)).trans rr
        have hq2 := below_app hq hst hUs
        have l7 := hUs
        have ntq : U52.heap.size ≠ qb := by omega
        (try dsimp only [Value.cells])
        generalize hV : U52.alloc (.cells #[.map none, .slice none 0 0] 113) = U527 at bb hq2 hst lmu mm rr ⊢
        clear hV
        generalize hx : U52.heap.size = tb at bb l7 ntq ⊢
        clear hst
        refine hK.out _ _ hq2 (fun hHeld => ?_)
        clear hK hq hx hUs lm' lr' lmu
        have hq := hq2
        clear hq2
        try simp only [Act.put, List.setIfInBounds_toArray, List.set_cons_zero, List.set_cons_succ]
        refine wpAnyH_ready (rs := [8]) (by kernel_rfl) (by simp) ?_
        refine AllReadyH.cons (o := ⟨none, _, _, _, _, _⟩) rfl (fun K' hK => ?_) AllReadyH.nil
        rw [if_pos (by kernel_rfl)]
        refine wp_store_row 113 (.tmp 3) (.tmp 14) rfl tb #[.map (some mb), .slice (some ⟨qb, 0, none⟩) n n] (by rfl) (by rfl) _ _ bb (by kernel_rfl) (by rfl) (by simp [Value.oneCell']) ?_
        have hq2 := below_setRow hq l7 #[.map (some mb), .slice (some ⟨qb, 0, none⟩) n n]
        refine hK.out _ _ hq2 (fun hHeld => ?_)
        clear hK
        try simp only [Act.put, List.setIfInBounds_toArray, List.set_cons_zero, List.set_cons_succ]
        refine wpAnyH_done (by kernel_rfl) ?_ _
        refine ⟨(mb, qb, tb), rfl, ⟨hq2, setRow_heap _ _ _ _ _ _ bb, mm.same (heap_setRow_ne' _ _ _ _ (fun e => mm.apart bb e.symm)), (heap_setRow_ne' _ _ _ _ (fun e => ntq e.symm)).trans rr, l7, l2, l5, ntq⟩⟩
      refine AllReadyH.cons (o := ⟨some 3, _, _, _, _, _⟩) rfl (fun K' hK => ?_) AllReadyH.nil
      rw [if_pos (by kernel_rfl)]
      have hUs := hq.size
      have lr' := lt_row rr
      refine wp_allocT 113 rfl _ it hit ht0 ?_
      have bb := boxR_new U5 113 #[.map none, .slice none 0 0]
      have hst := below_new2'' U5 (.cells #[.map none, .slice none 0 0] 113)
      replace rr := (hst.block _ (lt_row rr)).trans rr
      have hq2 := below_app hq hst hUs
      have l7 := hUs
      have ntq : U5.heap.size ≠ qb := by omega
      (try dsimp only [Value.cells])
      generalize hV : U5.alloc (.cells #[.map none, .slice none 0 0] 113) = U57 at bb hq2 hst rr ⊢
      clear hV
      generalize hx : U5.heap.size = tb at bb l7 ntq ⊢
      clear hst
      refine hK.out _ _ hq2 (fun hHeld => ?_)
      clear hK hq hx hUs lr'
      have hq := hq2
      clear hq2
      try simp only [Act.put, List.setIfInBounds_toArray, List.set_cons_zero, List.set_cons_succ]
      refine wpAnyH_ready (rs := [2]) (by kernel_rfl) (by simp) ?_
      refine AllReadyH.cons (o := ⟨some 10, _, _, _, _, _⟩) rfl (fun K' hK => ?_) AllReadyH.nil
      rw [if_pos (by kernel_rfl)]
      have hUs := hq.size
      have lr' := lt_row rr
      have lb' := bb.lt
      refine wp_makeM 110 (.tmp 9) rfl Tryz.underlying110 rfl ?_
      have mm : MapB encMk (U57.alloc (.map #[] 0)) U57.heap.size (fun _ : Int × Int => none) := MapB.made U57
      have hst := below_new2'' U57 (.map #[] 0)
      replace rr := (hst.block _ (lt_row rr)).trans rr
      replace bb := bb.grew hst
      have hq2 := below_app hq hst hUs
      have l2 := hUs
      (try dsimp only [Value.cells])
      generalize hV : U57.alloc (.map #[] 0) = U572 at bb hq2 hst mm rr ⊢
      clear hV
      generalize hx : U57.heap.size = mb at l2 mm ⊢
      clear hst
      refine hK.out _ _ hq2 (fun hHeld => ?_)
      clear hK hq hx hUs lr' lb'
      have hq := hq2
      clear hq2
      try simp only [Act.put, List.setIfInBounds_toArray, List.set_cons_zero, List.set_cons_succ]
      refine wpAnyH_take (i := 6) (oi := ⟨some 14, _, _, _, _, _⟩) (v := .agg #[.map (some mb), .slice (some ⟨qb, 0, none⟩) n n]) rfl (by kernel_rfl) (by kernel_rfl) (by kernel_rfl) (fun _ _ _ h => h) (Or.inl ⟨by kernel_rfl, fun u hSu => by clear hSu; go_simp⟩) hHeld ?_
      try simp only [Act.put, List.setIfInBounds_toArray, List.set_cons_zero, List.set_cons_succ]
      refine wpAnyH_ready (rs := [8]) (by kernel_rfl) (by simp) ?_
      refine AllReadyH.cons (o := ⟨none, _, _, _, _, _⟩) rfl (fun K' hK => ?_) AllReadyH.nil
      rw [if_pos (by kernel_rfl)]
      refine wp_store_row 113 (.tmp 3) (.tmp 14) rfl tb #[.map (some mb), .slice (some ⟨qb, 0, none⟩) n n] (by rfl) (by rfl) _ _ bb (by kernel_rfl) (by rfl) (by simp [Value.oneCell']) ?_
      have hq2 := below_setRow hq l7 #[.map (some mb), .slice (some ⟨qb, 0, none⟩) n n]
      refine hK.out _ _ hq2 (fun hHeld => ?_)
      clear hK
      try simp only [Act.put, List.setIfInBounds_toArray, List.set_cons_zero, List.set_cons_succ]
      refine wpAnyH_done (by kernel_rfl) ?_ _
      refine ⟨(mb, qb, tb), rfl, ⟨hq2, setRow_heap _ _ _ _ _ _ bb, mm.same (heap_setRow_ne' _ _ _ _ (fun e => mm.apart bb e.symm)), (heap_setRow_ne' _ _ _ _ (fun e => ntq e.symm)).trans rr, l7, l2, l5, ntq⟩⟩
    refine AllReadyH.cons (o := ⟨some 3, _, _, _, _, _⟩) rfl (fun K' hK => ?_) AllReadyH.nil
    rw [if_pos (by kernel_rfl)]
    have hUs := hq.size
    refine wp_allocT 113 rfl _ it hit ht0 ?_
    have bb := boxR_new U 113 #[.map none, .slice none 0 0]
    have hst := below_new2'' U (.cells #[.map none, .slice none 0 0] 113)
    have hq2 := below_app hq hst hUs
    have l7 := hUs
    (try dsimp only [Value.cells])
    generalize hV : U.alloc (.cells #[.map none, .slice none 0 0] 113) = U7 at bb hq2 hst ⊢
    clear hV
    generalize hx : U.heap.size = tb at bb l7 ⊢
    clear hst
    refine hK.out _ _ hq2 (fun hHeld => ?_)
    clear hK hq hx hUs
    have hq := hq2
    clear hq2
    try simp only [Act.put, List.setIfInBounds_toArray, List.set_cons_zero, List.set_cons_succ]
    refine wpAnyH_ready (rs := [2, 5]) (by kernel_rfl) (by simp) ?_
    refine AllReadyH.cons (o := ⟨some 10, _, _, _, _, _⟩) rfl (fun K' hK => ?_) ?_
    ·
      rw [if_pos (by kernel_rfl)]
      have hUs := hq.size
      have lb' := bb.lt
      refine wp_makeM 110 (.tmp 9) rfl Tryz.underlying110 rfl ?_
      have mm : MapB encMk (U7.alloc (.map #[] 0)) U7.heap.size (fun _ : Int × Int => none) := MapB.made U7
      have hst := below_new2'' U7 (.map #[] 0)
      replace bb := bb.grew hst
      have hq2 := below_app hq hst hUs
      have l2 := hUs
      (try dsimp only [Value.cells])
      generalize hV : U7.alloc (.map #[] 0) = U72 at bb hq2 hst mm ⊢
      clear hV
      generalize hx : U7.heap.size = mb at l2 mm ⊢
      clear hst
      refine hK.out _ _ hq2 (fun hHeld => ?_)
      clear hK hq hx hUs lb'
      have hq := hq2
      clear hq2
      try simp only [Act.put, List.setIfInBounds_toArray, List.set_cons_zero, List.set_cons_succ]
      refine wpAnyH_ready (rs := [5]) (by kernel_rfl) (by simp) ?_
      refine AllReadyH.cons (o := ⟨some 13, _, _, _, _, _⟩) rfl (fun K' hK => ?_) AllReadyH.nil
      rw [if_pos (by kernel_rfl)]
      have hUs := hq.size
      have lm' := mm.lt
      have lb' := bb.lt
      refine wp_make_full (.tmp 12) (.tmp 12) 111 rfl U72.heap.size 117 im _ 2 Tryz.underlying111 him hm0 hm1 _ _ _ _ n rfl rfl rfl rfl (by rw [hm2]; omega) (by unfold maxLen; omega) (Nat.le_refl _) ?_
      intro U725 hown hgr
      have hown' : U725.ownsRow U72.heap.size 117 2 (.slice (some ⟨U72.heap.size, 0, none⟩) n n) n (valsE mkC n (fun _ => (0, 0))) := by rw [← made_mark]; exact hown
      have rr := row_madeE hown'
      have hst : Below U72.heap.size U72 U725 := (Below.refl _ _).grown hgr (Nat.le_refl _) (by simp)
      clear hown hown' hgr
      replace mm := mm.grew hst
      have lmu := mm.lt
      replace bb := bb.grew hst
      have hq2 := below_app hq hst hUs
      have l5 := hUs
      have ntq : tb ≠ U72.heap.size := by omega
      generalize hx : U72.heap.size = qb at l5 ntq rr ⊢
      clear hst
      refine hK.out _ _ hq2 (fun hHeld => ?_)
      clear hK hq hx hUs lm' lb' lmu
      have hq := hq2
      clear hq2
      try simp only [Act.put, List.setIfInBounds_toArray, List.set_cons_zero, List.set_cons_succ]
      refine wpAnyH_take (i := 6) (oi := ⟨some 14, _, _, _, _, _⟩) (v := .agg #[.map (some mb), .slice (some ⟨qb, 0, none⟩) n n]) rfl (by kernel_rfl) (by kernel_rfl) (by kernel_rfl) (fun _ _ _ h => h) (Or.inl ⟨by kernel_rfl, fun u hSu => by clear hSu; go_simp⟩) hHeld ?_
      try simp only [Act.put, List.setIfInBounds_toArray, List.set_cons_zero, List.set_cons_succ]
      refine wpAnyH_ready (rs := [8]) (by kernel_rfl) (by simp) ?_
      refine AllReadyH.cons (o := ⟨none, _, _, _, _, _⟩) rfl (fun K' hK => ?_) AllReadyH.nil
      rw [if_pos (by kernel_rfl)]
      refine wp_store_row 113 (.tmp 3) (.tmp 14) rfl tb #[.map (some mb), .slice (some ⟨qb, 0, none⟩) n n] (by rfl) (by rfl) _ _ bb (by kernel_rfl) (by rfl) (by simp [Value.oneCell']) ?_
      have hq2 := below_setRow hq l7 #[.map (some mb), .slice (some ⟨qb, 0, none⟩) n n]
      refine hK.out _ _ hq2 (fun hHeld => ?_)
      clear hK
      try simp only [Act.put, List.setIfInBounds_toArray, List.set_cons_zero, List.set_cons_succ]
      refine wpAnyH_done (by kernel_rfl) ?_ _
      refine ⟨(mb, qb, tb), rfl, ⟨hq2, setRow_heap _ _ _ _ _ _ bb, mm.same (heap_setRow_ne' _ _ _ _ (fun e => mm.apart bb e.symm)), (heap_setRow_ne' _ _ _ _ (fun e => ntq e.symm)).trans rr, l7, l2, l5, ntq⟩⟩
    refine AllReadyH.cons (o := ⟨some 13, _, _, _, _, _⟩) rfl (fun K' hK => ?_) AllReadyH.nil
    rw [if_pos (by kernel_rfl)]
    have hUs := hq.size
    have lb' := bb.lt
    refine wp_make_full (.tmp 12) (.tmp 12) 111 rfl U7.heap.size 117 im _ 2 Tryz.underlying111 him hm0 hm1 _ _ _ _ n rfl rfl rfl rfl (by rw [hm2]; omega) (by unfold maxLen; omega) (Nat.le_refl _) ?_
    intro U75 hown hgr
    have hown' : U75.ownsRow U7.heap.size 117 2 (.slice (some ⟨U7.heap.size, 0, none⟩) n n) n (valsE mkC n (fun _ => (0, 0))) := by rw [← made_mark]; exact hown
    have rr := row_madeE hown'
    have hst : Below U7.heap.size U7 U75 := (Below.refl _ _).grown hgr (Nat.le_refl _) (by simp)
    clear hown hown' hgr
    replace bb := bb.grew hst
    have hq2 := below_app hq hst hUs
    have l5 := hUs
    have ntq : tb ≠ U7.heap.size := by omega
    generalize hx : U7.heap.size = qb at l5 ntq rr ⊢
    clear hst
    refine hK.out _ _ hq2 (fun hHeld => ?_)
    clear hK hq hx hUs lb'
    have hq := hq2
    clear hq2
    try simp only [Act.put, List.setIfInBounds_toArray, List.set_cons_zero, List.set_cons_succ]
    refine wpAnyH_ready (rs := [2]) (by kernel_rfl) (by simp) ?_
    refine AllReadyH.cons (o := ⟨some 10, _, _, _, _, _⟩) rfl (fun K' hK => ?_) AllReadyH.nil
    rw [if_pos (by kernel_rfl)]
    have hUs := hq.size
    have lr' := lt_row rr
    have lb' := bb.lt
    refine wp_makeM 110 (.tmp 9) rfl Tryz.underlying110 rfl ?_
    have mm : MapB encMk (U75.alloc (.map #[] 0)) U75.heap.size (fun _ : Int × Int => none) := MapB.made U75
    have hst := below_new2'' U75 (.map #[] 0)
    replace rr := (hst.block _ (lt_row rr)).trans rr
    replace bb := bb.grew hst
    have hq2 := below_app hq hst hUs
    have l2 := hUs
    (try dsimp only [Value.cells])
    generalize hV : U75.alloc (.map #[] 0) = U752 at bb hq2 hst mm rr ⊢
    clear hV
    generalize hx : U75.heap.size = mb at l2 mm ⊢
    clear hst
    refine hK.out _ _ hq2 (fun hHeld => ?_)
    clear hK hq hx hUs lr' lb'
    have hq := hq2
    clear hq2
    try simp only [Act.put, List.setIfInBounds_toArray, List.set_cons_zero, List.set_cons_succ]
    refine wpAnyH_take (i := 6) (oi := ⟨some 14, _, _, _, _, _⟩) (v := .agg #[.map (some mb), .slice (some ⟨qb, 0, none⟩) n n]) rfl (by kernel_rfl) (by kernel_rfl) (by kernel_rfl) (fun _ _ _ h => h) (Or.inl ⟨by kernel_rfl, fun u hSu => by clear hSu; go_simp⟩) hHeld ?_
    try simp only [Act.put, List.setIfInBounds_toArray, List.set_cons_zero, List.set_cons_succ]
    refine wpAnyH_ready (rs := [8]) (by kernel_rfl) (by simp) ?_
    refine AllReadyH.cons (o := ⟨none, _, _, _, _, _⟩) rfl (fun K' hK => ?_) AllReadyH.nil
    rw [if_pos (by kernel_rfl)]
    refine wp_store_row 113 (.tmp 3) (.tmp 14) rfl tb #[.map (some mb), .slice (some ⟨qb, 0, none⟩) n n] (by rfl) (by rfl) _ _ bb (by kernel_rfl) (by rfl) (by simp [Value.oneCell']) ?_
    have hq2 := below_setRow hq l7 #[.map (some mb), .slice (some ⟨qb, 0, none⟩) n n]
    refine hK.out _ _ hq2 (fun hHeld => ?_)
    clear hK
    try simp only [Act.put, List.setIfInBounds_toArray, List.set_cons_zero, List.set_cons_succ]
    refine wpAnyH_done (by kernel_rfl) ?_ _
    refine ⟨(mb, qb, tb), rfl, ⟨hq2, setRow_heap _ _ _ _ _ _ bb, mm.same (heap_setRow_ne' _ _ _ _ (fun e => mm.apart bb e.symm)), (heap_setRow_ne' _ _ _ _ (fun e => ntq e.symm)).trans rr, l7, l2, l5, ntq⟩⟩
  rintro ⟨mb, qb, tb⟩ u H0
  obtain ⟨hb1, tx, me, ro, ⟨l1, l2, l3, l4⟩⟩ := H0
  dsimp only at hb1 tx me ro l1 l2 l3 l4
  try simp only [puts, List.foldl_cons, List.foldl_nil, Act.put, List.setIfInBounds_toArray, List.set_cons_zero, List.set_cons_succ]
  have hAl := below_new2'' u (.map #[] 0)
  have hus := hb1.size
  rw [hWs] at l1 l2 l3 hus
  have H : TS w f n mb qb tb u.heap.size 0 0 0 (u.alloc (.map #[] 0)) := ⟨below_app (below_app hb0 hb1 hb0.size) hAl (by omega), (R0.grew hb1).alloc _, tx.alloc _, (me.grew hAl).congr (fun x => rfl), (MapB.made u).congr (fun x => by simp [manyM, cntI]), by rw [tilE_zero]; exact (hAl.block _ (lt_row ro)).trans ro, ⟨by omega, by omega, by omega, by omega⟩, ⟨by have := me.lt; omega, l4⟩⟩
  clear hb0 hb1 R0 tx me ro l1 l2 l3 l4 hAl hus hWs
  go_wp2_with (refine wpList_makeM0 _ rfl 156 rfl Tryz.underlying156 ?_)
  generalize u.alloc (.map #[] 0) = W0 at H ⊢
  generalize u.heap.size = nb at H ⊢
  go_loopw [18] (fun i wr => ∃ k : Nat, k ≤ n ∧ i = .int .i64 k ∧ TS w f n mb qb tb nb k k k wr) (fun i _ => n - (intOf i).toNat)
  case atStart => exact ⟨0, Nat.zero_le _, rfl, H⟩
  case round =>
    clear H
    obtain ⟨k, hk, rfl, H⟩ := hrel
    by_cases hlt : k < n
    · rcases h.grew efC_ne H.b with h3 | ⟨o1, rfl, h3⟩
      · omega
      have ra := RdE.rangeD h3 hlt
      have y1 : (0 : Int) ≤ (k : Int) := by omega
      have y2 : (k : Int) < (n : Int) := by omega
      have hput := tabM_put f k
      have hmany := manyM_put f k
      have hcl := cntI_le f (f k).id k
      have hget := manyM_get f k (f k).id
      have hmk : Hid (mkAt f k = ((f k).id, (cntI f (f k).id k : Int))) := (rfl : mkAt f k = ((f k).id, (cntI f (f k).id k : Int)))
      generalize hxe : f k = x at ra hput hmany hcl hget hmk
      generalize hce : cntI f x.id k = c at hmany hcl hget hmk
      clear h3 h hxe hce
      have z0 : BoxR (wr.alloc (.cells #[.int .i64 0, .int .i64 0, .int .i64 0, .int .i64 0, .int .i64 0, .int .i64 0, .int .i64 0, .int .i64 0, .int .i64 0, .int .i64 0, .int .i64 0, .int .i64 0, .int .i64 0, .int .i64 0, .int .i64 0, .int .i64 0, .int .i64 0, .int .i64 0, .bool false, .slice none 0 0, .int .i64 0, .int .i64 0] 32)) wr.heap.size 32 #[.int .i64 0, .int .i64 0, .int .i64 0, .int .i64 0, .int .i64 0, .int .i64 0, .int .i64 0, .int .i64 0, .int .i64 0, .int .i64 0, .int .i64 0, .int .i64 0, .int .i64 0, .int .i64 0, .int .i64 0, .int .i64 0, .int .i64 0, .int .i64 0, .bool false, .slice none 0 0, .int .i64 0, .int .i64 0] := boxR_new _ _ _
      have zb := below_setRow (below_new2'' wr (.cells #[.int .i64 0, .int .i64 0, .int .i64 0, .int .i64 0, .int .i64 0, .int .i64 0, .int .i64 0, .int .i64 0, .int .i64 0, .int .i64 0, .int .i64 0, .int .i64 0, .int .i64 0, .int .i64 0, .int .i64 0, .int .i64 0, .int .i64 0, .int .i64 0, .bool false, .slice none 0 0, .int .i64 0, .int .i64 0] 32)) (Nat.le_refl _) (#[.int .i64 x.id, .int .i64 x.si, .int .i64 x.sr, .int .i64 x.cl, .int .i64 x.pt.kd, .int .i64 x.pt.wh, .int .i64 x.pt.sr, .int .i64 x.pt.tr, .int .i64 x.pt.pi, .int .i64 x.pt.le, .int .i64 x.pt.zo, .int .i64 x.gd.kd, .int .i64 x.gd.nn, .int .i64 x.ac.kd, .int .i64 x.ac.nn, .int .i64 x.ac.pi, .int .i64 x.ac.si, .int .i64 x.ac.zo, .bool x.ac.be, .slice x.ac.la x.ac.ln x.ac.lcap, .int .i64 x.un, .int .i64 x.le] : Array Value)
      have z1 : BoxR ((wr.alloc (.cells #[.int .i64 0, .int .i64 0, .int .i64 0, .int .i64 0, .int .i64 0, .int .i64 0, .int .i64 0, .int .i64 0, .int .i64 0, .int .i64 0, .int .i64 0, .int .i64 0, .int .i64 0, .int .i64 0, .int .i64 0, .int .i64 0, .int .i64 0, .int .i64 0, .bool false, .slice none 0 0, .int .i64 0, .int .i64 0] 32)).setRow wr.heap.size #[.int .i64 x.id, .int .i64 x.si, .int .i64 x.sr, .int .i64 x.cl, .int .i64 x.pt.kd, .int .i64 x.pt.wh, .int .i64 x.pt.sr, .int .i64 x.pt.tr, .int .i64 x.pt.pi, .int .i64 x.pt.le, .int .i64 x.pt.zo, .int .i64 x.gd.kd, .int .i64 x.gd.nn, .int .i64 x.ac.kd, .int .i64 x.ac.nn, .int .i64 x.ac.pi, .int .i64 x.ac.si, .int .i64 x.ac.zo, .bool x.ac.be, .slice x.ac.la x.ac.ln x.ac.lcap, .int .i64 x.un, .int .i64 x.le]) wr.heap.size 32 #[.int .i64 x.id, .int .i64 x.si, .int .i64 x.sr, .int .i64 x.cl, .int .i64 x.pt.kd, .int .i64 x.pt.wh, .int .i64 x.pt.sr, .int .i64 x.pt.tr, .int .i64 x.pt.pi, .int .i64 x.pt.le, .int .i64 x.pt.zo, .int .i64 x.gd.kd, .int .i64 x.gd.nn, .int .i64 x.ac.kd, .int .i64 x.ac.nn, .int .i64 x.ac.pi, .int .i64 x.ac.si, .int .i64 x.ac.zo, .bool x.ac.be, .slice x.ac.la x.ac.ln x.ac.lcap, .int .i64 x.un, .int .i64 x.le] := setRow_heap _ _ _ _ _ _ z0
      go_upto_region 6 with first | (refine wpList_load_mid rfl 32 _ rfl b (o1 + k * 22) (by rfl) [.int .i64 x.id, .int .i64 x.si, .int .i64 x.sr, .int .i64 x.cl, .int .i64 x.pt.kd, .int .i64 x.pt.wh, .int .i64 x.pt.sr, .int .i64 x.pt.tr, .int .i64 x.pt.pi, .int .i64 x.pt.le, .int .i64 x.pt.zo, .int .i64 x.gd.kd, .int .i64 x.gd.nn, .int .i64 x.ac.kd, .int .i64 x.ac.nn, .int .i64 x.ac.pi, .int .i64 x.ac.si, .int .i64 x.ac.zo, .bool x.ac.be, .slice x.ac.la x.ac.ln x.ac.lcap, .int .i64 x.un, .int .i64 x.le] _ ra Tryz.underlying32 rfl (by kernel_rfl) ?_) | (refine wpList_store_row rfl 32 (.tmp 6) _ rfl wr.heap.size _ (by rfl) (by rfl) _ _ z0 (by kernel_rfl) (by rfl) (by simp [Value.oneCell']) ?_)
      generalize hU : (wr.alloc (.cells #[.int .i64 0, .int .i64 0, .int .i64 0, .int .i64 0, .int .i64 0, .int .i64 0, .int .i64 0, .int .i64 0, .int .i64 0, .int .i64 0, .int .i64 0, .int .i64 0, .int .i64 0, .int .i64 0, .int .i64 0, .int .i64 0, .int .i64 0, .int .i64 0, .bool false, .slice none 0 0, .int .i64 0, .int .i64 0] 32)).setRow wr.heap.size #[.int .i64 x.id, .int .i64 x.si, .int .i64 x.sr, .int .i64 x.cl, .int .i64 x.pt.kd, .int .i64 x.pt.wh, .int .i64 x.pt.sr, .int .i64 x.pt.tr, .int .i64 x.pt.pi, .int .i64 x.pt.le, .int .i64 x.pt.zo, .int .i64 x.gd.kd, .int .i64 x.gd.nn, .int .i64 x.ac.kd, .int .i64 x.ac.nn, .int .i64 x.ac.pi, .int .i64 x.ac.si, .int .i64 x.ac.zo, .bool x.ac.be, .slice x.ac.la x.ac.ln x.ac.lcap, .int .i64 x.un, .int .i64 x.le] = U at zb z1 ⊢
      have H0 := H
      replace H := H.grew zb
      have nq1 : wr.heap.size ≠ qb := by have := lt_row H0.ro; omega
      generalize wr.heap.size = eb at z1 nq1 ⊢
      clear H0 z0 zb hU ra
      have c0 : U.cell? ⟨eb, 0, none⟩ = some (.int .i64 x.id) := by have := z1.cell 0; simpa using this
      have z2 : BoxR (U.alloc (.cells #[.int .i64 0, .int .i64 0] 117)) U.heap.size 117 #[.int .i64 0, .int .i64 0] := boxR_new _ _ _
      have zb := below_setRow (below_new2'' U (.cells #[.int .i64 0, .int .i64 0] 117)) (Nat.le_refl _) (#[.int .i64 x.id, .int .i64 (c : Int)] : Array Value)
      have z3 : BoxR ((U.alloc (.cells #[.int .i64 0, .int .i64 0] 117)).setRow U.heap.size #[.int .i64 x.id, .int .i64 (c : Int)]) U.heap.size 117 #[.int .i64 x.id, .int .i64 (c : Int)] := setRow_heap _ _ _ _ _ _ z2
      have mn := H.mn
      go_upto_region 7 with first | (refine wpList_lookM' _ rfl (.tmp 25) (.tmp 27) 156 rfl keyI Tryz.underlying156 (zeroInt _) rfl mn x.id rfl ?_; rw [hget]) | (refine wpList_store_row rfl 117 (.tmp 7) _ rfl U.heap.size _ (by rfl) (by rfl) _ _ z2 (by kernel_rfl) (by rfl) (by simp [Value.oneCell']) ?_)
      generalize hV : (U.alloc (.cells #[.int .i64 0, .int .i64 0] 117)).setRow U.heap.size #[.int .i64 x.id, .int .i64 (c : Int)] = V at zb z3 ⊢
      have H0 := H
      replace H := H.grew zb
      replace z1 := z1.grew zb
      have nq2 : U.heap.size ≠ qb := by have := lt_row H0.ro; omega
      generalize U.heap.size = gb at z3 nq2 ⊢
      clear H0 z2 zb hV c0 mn
      have c0 : V.cell? ⟨eb, 0, none⟩ = some (.int .i64 x.id) := by have := z1.cell 0; simpa using this
      have mn := H.mn
      have hc1 : -9223372036854775808 ≤ (c : Int) + 1 ∧ (c : Int) + 1 ≤ 9223372036854775807 := by omega
      go_upto_region 8 with first | (refine wpList_lookM' _ rfl (.tmp 30) (.tmp 32) 156 rfl keyI Tryz.underlying156 (zeroInt _) rfl mn x.id rfl ?_; rw [hget]) | (refine wpList_putM _ rfl (.tmp 30) (.tmp 32) (.tmp 34) 156 rfl keyI Tryz.underlying156 rfl mn x.id rfl (.int .i64 ((c : Int) + 1)) rfl ?_; intro V2 mn2 wr2)
      rw [hmany] at mn2
      replace H := H.many wr2 mn2
      replace z1 := z1.wrote wr2
      replace z3 := z3.wrote wr2
      clear mn mn2 wr2 c0 hc1 hmany hget hcl
      try simp only [Act.put, List.setIfInBounds_toArray, List.set_cons_zero, List.set_cons_succ]
      refine wp_cutQ (fun _ : Unit => [(35, .pointer (some ⟨tb, 0, none⟩)), (36, .map (some mb)), (37, .agg #[.int .i64 x.id, .int .i64 (c : Int)]), (38, .pointer (some ⟨tb, 1, none⟩)), (39, .slice (some ⟨qb, 0, none⟩) n n), (40, .int .i64 (k : Int)), (41, (.agg #[.int .i64 x.id, .int .i64 x.si, .int .i64 x.sr, .int .i64 x.cl, .int .i64 x.pt.kd, .int .i64 x.pt.wh, .int .i64 x.pt.sr, .int .i64 x.pt.tr, .int .i64 x.pt.pi, .int .i64 x.pt.le, .int .i64 x.pt.zo, .int .i64 x.gd.kd, .int .i64 x.gd.nn, .int .i64 x.ac.kd, .int .i64 x.ac.nn, .int .i64 x.ac.pi, .int .i64 x.ac.si, .int .i64 x.ac.zo, .bool x.ac.be, .slice x.ac.la x.ac.ln x.ac.lcap, .int .i64 x.un, .int .i64 x.le])), (42, .agg #[.int .i64 x.id, .int .i64 (c : Int)]), (43, .pointer (some ⟨qb, k * 2, none⟩))]) (fun _ u => TS w f n mb qb tb nb (k + 1) (k + 1) (k + 1) u) ?_ ?_
      · have tx := H.tx
        refine wp_region_held_drew (S := fun u : World => BoxR u tb 113 #[.map (some mb), .slice (some ⟨qb, 0, none⟩) n n] ∧ BoxR u eb 32 #[.int .i64 x.id, .int .i64 x.si, .int .i64 x.sr, .int .i64 x.cl, .int .i64 x.pt.kd, .int .i64 x.pt.wh, .int .i64 x.pt.sr, .int .i64 x.pt.tr, .int .i64 x.pt.pi, .int .i64 x.pt.le, .int .i64 x.pt.zo, .int .i64 x.gd.kd, .int .i64 x.gd.nn, .int .i64 x.ac.kd, .int .i64 x.ac.nn, .int .i64 x.ac.pi, .int .i64 x.ac.si, .int .i64 x.ac.zo, .bool x.ac.be, .slice x.ac.la x.ac.ln x.ac.lcap, .int .i64 x.un, .int .i64 x.le] ∧ BoxR u gb 117 #[.int .i64 x.id, .int .i64 (c : Int)]) (by kernel_rfl) ⟨tx, z1, z3⟩ (fun hHeld => ?_)
        clear tx
        replace H : TS w f n mb qb tb nb k (k + 1) k V2.drew := H.grew (Below.refl _ V2).drew
        generalize hY : V2.drew = Y at H hHeld ⊢
        clear hY z1 z3
        refine wpAnyH_take (i := 0) (oi := ⟨some 35, _, _, _, _, _⟩) (v := .pointer (some ⟨tb, 0, none⟩)) rfl (by kernel_rfl) (by kernel_rfl) (by kernel_rfl) (fun _ _ _ h => h) (Or.inl ⟨by kernel_rfl, fun u hSu => by clear hSu; go_simp⟩) hHeld ?_
        try simp only [Act.put, List.setIfInBounds_toArray, List.set_cons_zero, List.set_cons_succ]
        refine wpAnyH_take (i := 1) (oi := ⟨some 36, _, _, _, _, _⟩) (v := .map (some mb)) rfl (by kernel_rfl) (by kernel_rfl) (by kernel_rfl) (fun _ _ _ h => h) (Or.inl ⟨by kernel_rfl, fun u hSu => by have hcu := hSu.1.cell 0; simp at hcu; clear hSu; go_simp⟩) hHeld ?_
        try simp only [Act.put, List.setIfInBounds_toArray, List.set_cons_zero, List.set_cons_succ]
        refine wpAnyH_take (i := 2) (oi := ⟨some 37, _, _, _, _, _⟩) (v := .agg (#[.int .i64 x.id, .int .i64 (c : Int)] : Array Value)) rfl (by kernel_rfl) (by kernel_rfl) (by kernel_rfl) (fun _ _ _ h => h) (yieldsIf_load_mid (by kernel_rfl) 117 (.tmp 7) rfl (gb) 0 (by rfl) (#[.int .i64 x.id, .int .i64 (c : Int)] : Array Value).toList _ (fun u hu => BoxR.rangeTt hu.2.2) Tryz.underlying117 rfl (by kernel_rfl)) hHeld ?_
        try simp only [Act.put, List.setIfInBounds_toArray, List.set_cons_zero, List.set_cons_succ]
        refine wpAnyH_take (i := 3) (oi := ⟨some 38, _, _, _, _, _⟩) (v := .pointer (some ⟨tb, 1, none⟩)) rfl (by kernel_rfl) (by kernel_rfl) (by kernel_rfl) (fun _ _ _ h => h) (Or.inl ⟨by kernel_rfl, fun u hSu => by clear hSu; go_simp⟩) hHeld ?_
        try simp only [Act.put, List.setIfInBounds_toArray, List.set_cons_zero, List.set_cons_succ]
        refine wpAnyH_take (i := 4) (oi := ⟨some 39, _, _, _, _, _⟩) (v := .slice (some ⟨qb, 0, none⟩) n n) rfl (by kernel_rfl) (by kernel_rfl) (by kernel_rfl) (fun _ _ _ h => h) (Or.inl ⟨by kernel_rfl, fun u hSu => by have hcu := hSu.1.cell 1; simp at hcu; clear hSu; go_simp⟩) hHeld ?_
        try simp only [Act.put, List.setIfInBounds_toArray, List.set_cons_zero, List.set_cons_succ]
        refine wpAnyH_take (i := 5) (oi := ⟨some 40, _, _, _, _, _⟩) (v := .int .i64 (k : Int)) rfl (by kernel_rfl) (by kernel_rfl) (by kernel_rfl) (fun _ _ _ h => h) (Or.inl ⟨by kernel_rfl, fun u hSu => by clear hSu; go_simp⟩) hHeld ?_
        try simp only [Act.put, List.setIfInBounds_toArray, List.set_cons_zero, List.set_cons_succ]
        refine wpAnyH_take (i := 6) (oi := ⟨some 41, _, _, _, _, _⟩) (v := .agg (#[.int .i64 x.id, .int .i64 x.si, .int .i64 x.sr, .int .i64 x.cl, .int .i64 x.pt.kd, .int .i64 x.pt.wh, .int .i64 x.pt.sr, .int .i64 x.pt.tr, .int .i64 x.pt.pi, .int .i64 x.pt.le, .int .i64 x.pt.zo, .int .i64 x.gd.kd, .int .i64 x.gd.nn, .int .i64 x.ac.kd, .int .i64 x.ac.nn, .int .i64 x.ac.pi, .int .i64 x.ac.si, .int .i64 x.ac.zo, .bool x.ac.be, .slice x.ac.la x.ac.ln x.ac.lcap, .int .i64 x.un, .int .i64 x.le] : Array Value)) rfl (by kernel_rfl) (by kernel_rfl) (by kernel_rfl) (fun _ _ _ h => h) (yieldsIf_load_mid (by kernel_rfl) 32 (.tmp 6) rfl (eb) 0 (by rfl) (#[.int .i64 x.id, .int .i64 x.si, .int .i64 x.sr, .int .i64 x.cl, .int .i64 x.pt.kd, .int .i64 x.pt.wh, .int .i64 x.pt.sr, .int .i64 x.pt.tr, .int .i64 x.pt.pi, .int .i64 x.pt.le, .int .i64 x.pt.zo, .int .i64 x.gd.kd, .int .i64 x.gd.nn, .int .i64 x.ac.kd, .int .i64 x.ac.nn, .int .i64 x.ac.pi, .int .i64 x.ac.si, .int .i64 x.ac.zo, .bool x.ac.be, .slice x.ac.la x.ac.ln x.ac.lcap, .int .i64 x.un, .int .i64 x.le] : Array Value).toList _ (fun u hu => BoxR.rangeTt hu.2.1) Tryz.underlying32 rfl (by kernel_rfl)) hHeld ?_
        try simp only [Act.put, List.setIfInBounds_toArray, List.set_cons_zero, List.set_cons_succ]
        refine wpAnyH_take (i := 7) (oi := ⟨some 42, _, _, _, _, _⟩) (v := .agg (#[.int .i64 x.id, .int .i64 (c : Int)] : Array Value)) rfl (by kernel_rfl) (by kernel_rfl) (by kernel_rfl) (fun _ _ _ h => h) (yieldsIf_load_mid (by kernel_rfl) 117 (.tmp 7) rfl (gb) 0 (by rfl) (#[.int .i64 x.id, .int .i64 (c : Int)] : Array Value).toList _ (fun u hu => BoxR.rangeTt hu.2.2) Tryz.underlying117 rfl (by kernel_rfl)) hHeld ?_
        try simp only [Act.put, List.setIfInBounds_toArray, List.set_cons_zero, List.set_cons_succ]
        refine wpAnyH_ready (rs := [8]) (by kernel_rfl) (by simp) ?_
        refine AllReadyH.cons (o := ⟨none, _, _, _, _, _⟩) rfl (fun K' hK => ?_) AllReadyH.nil
        rw [if_pos (by kernel_rfl)]
        have me := H.me
        refine wp_putM (.tmp 36) (.tmp 37) (.tmp 41) 110 rfl keyM Tryz.underlying110 rfl me (x.id, (c : Int)) rfl (efV x) rfl ?_
        intro Y2 me2 wr2
        have hmk' := hmk.out
        rw [← hmk', hput] at me2
        replace H := H.put wr2 me2
        refine hK.out _ _ ⟨hHeld.1.wrote wr2, hHeld.2.1.wrote wr2, hHeld.2.2.wrote wr2⟩ (fun hHeld => ?_)
        clear hK me me2 wr2 hput
        try simp only [Act.put, List.setIfInBounds_toArray, List.set_cons_zero, List.set_cons_succ]
        refine wpAnyH_take (i := 9) (oi := ⟨some 43, _, _, _, _, _⟩) (v := .pointer (some ⟨qb, k * 2, none⟩)) rfl (by kernel_rfl) (by kernel_rfl) (by kernel_rfl) (fun _ _ _ h => h) (Or.inl ⟨by kernel_rfl, fun u hSu => by clear hSu; go_simp⟩) hHeld ?_
        try simp only [Act.put, List.setIfInBounds_toArray, List.set_cons_zero, List.set_cons_succ]
        refine wpAnyH_ready (rs := [10]) (by kernel_rfl) (by simp) ?_
        refine AllReadyH.cons (o := ⟨none, _, _, _, _, _⟩) rfl (fun K' hK => ?_) AllReadyH.nil
        rw [if_pos (by kernel_rfl)]
        have ht : Y2.there qb (k * 2) 2 := there_row H.ro (by simp [valsE_len mkC_len]; omega)
        replace H := H.row hlt
        rw [hmk'] at H
        have hS : BoxR (Y2.setCells qb (k * 2) (mkC (x.id, (c : Int)))) tb 113 #[.map (some mb), .slice (some ⟨qb, 0, none⟩) n n] ∧ BoxR (Y2.setCells qb (k * 2) (mkC (x.id, (c : Int)))) eb 32 #[.int .i64 x.id, .int .i64 x.si, .int .i64 x.sr, .int .i64 x.cl, .int .i64 x.pt.kd, .int .i64 x.pt.wh, .int .i64 x.pt.sr, .int .i64 x.pt.tr, .int .i64 x.pt.pi, .int .i64 x.pt.le, .int .i64 x.pt.zo, .int .i64 x.gd.kd, .int .i64 x.gd.nn, .int .i64 x.ac.kd, .int .i64 x.ac.nn, .int .i64 x.ac.pi, .int .i64 x.ac.si, .int .i64 x.ac.zo, .bool x.ac.be, .slice x.ac.la x.ac.ln x.ac.lcap, .int .i64 x.un, .int .i64 x.le] ∧ BoxR (Y2.setCells qb (k * 2) (mkC (x.id, (c : Int)))) gb 117 #[.int .i64 x.id, .int .i64 (c : Int)] := ⟨H.tx, hHeld.2.1.otherL nq1 _ _, hHeld.2.2.otherL nq2 _ _⟩
        refine wp_store_mid 117 (.tmp 43) (.tmp 42) rfl qb (k * 2) #[.int .i64 x.id, .int .i64 (c : Int)] (by rfl) (by rfl) ht (by kernel_rfl) (by simp [Value.oneCell']) ?_
        refine hK.out _ _ hS (fun hHeld => ?_)
        clear hK hS
        try simp only [Act.put, List.setIfInBounds_toArray, List.set_cons_zero, List.set_cons_succ]
        refine wpAnyH_done (by kernel_rfl) ?_ _
        refine ⟨(), ?_, H⟩
        simp only [puts, List.foldl_cons, List.foldl_nil, Act.put, List.setIfInBounds_toArray, List.set_cons_zero, List.set_cons_succ]
      rintro _ V3 H3
      try simp only [puts, List.foldl_cons, List.foldl_nil, Act.put, List.setIfInBounds_toArray, List.set_cons_zero, List.set_cons_succ]
      try simp only [Exit.inBlock, Exit.then]
      clear H z1 z3 hput hmk
      go_wp2
      go_roundw
      case rel => first | exact ⟨k + 1, by omega, by go_num, H3⟩ | ((repeat apply Exists.intro); exact ⟨⟨k + 1, by omega, by go_num, H3⟩, rfl⟩)
      case measure => simp [intOf]; omega
    · obtain rfl : k = n := by omega
      have tx := H.tx
      have rx := H.rx
      have hro := H.ro
      rw [valsE_congr mkC_len (tilE_all (mkAt f) (fun _ => (0, 0)) (Nat.le_refl k))] at hro
      have ho := ownE_row mkC_len hro (Nat.le_of_lt H.l.2.2.2)
      clear hro h
      go_wp2_with first | (refine wpList_load_row rfl 113 _ rfl tb (by rfl) _ _ _ _ tx Tryz.underlying113 rfl (by kernel_rfl) ?_) | (refine wpList_store_row rfl 113 (.tmp 2) _ rfl w.heap.size _ (by rfl) (by rfl) _ _ rx (by kernel_rfl) (by rfl) (by simp [Value.oneCell']) ?_)
      (try simp only [Exit.inBlock, Exit.then]); refine bodyPost_ret (results_cell_row rfl _ _ w.heap.size _ _ _ _ rfl (setRow_heap _ _ _ _ _ _ rx) Tryz.underlying113 rfl (by kernel_rfl)) rfl ?_
      have hm := H.l.2.1
      have hqm := H.me.apart H.ro
      exact ⟨mb, qb, rfl, below_setRow H.b (Nat.le_refl _) _, H.me.same (heap_setRow_ne' _ _ _ _ (by omega)), by omega, hqm, ho.setRow (by have := H.l.2.2.2; omega) _⟩
end Go.Proofs.YtodfdfncdoliiadGreat
