/-
  Chapter 10: words for an effect: how a law's own is taken over, compared, marked, held. Written by tools/ef.gen.py. Own work.
-/
import Derived.Test.YtodfdfncdoliiauGreatGPaA3
import Derived.Deep.DeepCutAuto
import Derived.Deep.CutBlock
namespace Go.Proofs.YtodfdfncdoliiauGreat
open Go.ChangeShapes Go.WideShapes Go.ChangeAt Go.RowKit
set_option maxRecDepth 100000
set_option linter.unusedVariables false
set_option linter.unusedSimpArgs false

def putA (cs : Array Value) (k : Nat) : List Value → Array Value
  | [] => cs
  | v :: L => putA (cs.setIfInBounds k v) (k + 1) L
theorem BoxR.putL {w : World} {g t : Nat} {cs : Array Value} (h : BoxR w g t cs) (k : Nat) (L : List Value) : BoxR (w.setCells g k L) g t (putA cs k L) := by
  induction L generalizing w cs k with
  | nil => exact h
  | cons v L ih => unfold World.setCells; exact ih (h.put k v) (k + 1)
theorem BoxR.otherL {w : World} {b g t : Nat} {cs : Array Value} (h : BoxR w b t cs) (hne : b ≠ g) (k : Nat) (L : List Value) : BoxR (w.setCells g k L) b t cs := by
  induction L generalizing w k with
  | nil => exact h
  | cons v L ih => unfold World.setCells; exact ih (h.other (q := ⟨g, k, none⟩) hne v) (k + 1)
theorem BoxR.thereL {w : World} {g t : Nat} {cs : Array Value} (h : BoxR w g t cs) {k n : Nat} (hn : k + n ≤ cs.size) : w.there g k n := there_row h hn
theorem setCells_other {g i : Nat} (hne : i ≠ g) : ∀ (L : List Value) (k : Nat) (w : World), (w.setCells g k L).heap[i]? = w.heap[i]?
  | [], _, _ => rfl
  | v :: L, k, w => by unfold World.setCells; rw [setCells_other hne L (k + 1)]; exact Below.heap_setCell w ⟨g, k, none⟩ v i hne
theorem OwnA.setL {w : World} {B g : Nat} {t : Ac} (h : OwnA w B t) (hne : t.lb ≠ g) (k : Nat) (L : List Value) : OwnA (w.setCells g k L) B t := by
  refine ⟨h.1, h.2.1, ?_⟩
  refine h.2.2.same (setCells_other hne L k w) ?_
  have : ∀ (L : List Value) (k : Nat) (w : World), w.heap.size ≤ (w.setCells g k L).heap.size := by
    intro L
    induction L with
    | nil => intro k w; exact Nat.le_refl _
    | cons v L ih => intro k w; unfold World.setCells; exact Nat.le_trans (by simp) (ih (k + 1) _)
  exact this L k w
theorem OwnA.setC {w : World} {B g : Nat} {t : Ac} (h : OwnA w B t) (hne : t.lb ≠ g) (k : Nat) (v : Value) : OwnA (w.setCell ⟨g, k, none⟩ v) B t :=
  ⟨h.1, h.2.1, h.2.2.same (Below.heap_setCell w ⟨g, k, none⟩ v t.lb hne) (by simp)⟩
/-- they say the same, wherever their lists lie -/
structure AlikeF (t a : Ef) : Prop where
  id : t.id = a.id
  si : t.si = a.si
  sr : t.sr = a.sr
  cl : t.cl = a.cl
  pt : t.pt = a.pt
  gd : t.gd = a.gd
  ac : AlikeA t.ac a.ac
  un : t.un = a.un
  le : t.le = a.le
/-- the call's own -/
def OwnF (w : World) (B : Nat) (t : Ef) : Prop := OwnA w B t.ac
theorem OwnF.grew {w w' : World} {B : Nat} {t : Ef} (h : OwnF w B t) (hb : Below w.heap.size w w') : OwnF w' B t := OwnA.grew h hb
theorem okT10 {t a : Ef} {w w0 : World} {B : Nat} (h : OwnF w B t) (k : AlikeF t a) (hs : a.ok w0) : t.ok w := by
  refine ⟨okT9 h k.ac hs.1, ?_, ?_, ?_⟩
  · rw [k.id, k.si, k.sr, k.cl, k.un, k.le]; exact hs.2.1
  · rw [k.pt]; exact hs.2.2.1
  · rw [k.gd]; exact hs.2.2.2
set_option maxHeartbeats 8000000 in
theorem toEffect_ans (a : Ef) (w : World) (hok : a.ok w) (hn : a.ac.ln ≤ 1048576) :
    Calls Tryz.prog 8 #[(.agg #[.int .i64 a.id, .int .i64 a.si, .int .i64 a.sr, .int .i64 a.cl, .int .i64 a.pt.kd, .int .i64 a.pt.wh, .int .i64 a.pt.sr, .int .i64 a.pt.tr, .int .i64 a.pt.pi, .int .i64 a.pt.le, .int .i64 a.pt.zo, .int .i64 a.gd.kd, .int .i64 a.gd.nn, .int .i64 a.ac.kd, .int .i64 a.ac.nn, .int .i64 a.ac.pi, .int .i64 a.ac.si, .int .i64 a.ac.zo, .bool a.ac.be, .slice a.ac.la a.ac.ln a.ac.lcap, .int .i64 a.un, .int .i64 a.le])] w fun e w' => ∃ t : Ef, e = .returned (.agg #[.int .i64 t.id, .int .i64 t.si, .int .i64 t.sr, .int .i64 t.cl, .int .i64 t.pt.kd, .int .i64 t.pt.wh, .int .i64 t.pt.sr, .int .i64 t.pt.tr, .int .i64 t.pt.pi, .int .i64 t.pt.le, .int .i64 t.pt.zo, .int .i64 t.gd.kd, .int .i64 t.gd.nn, .int .i64 t.ac.kd, .int .i64 t.ac.nn, .int .i64 t.ac.pi, .int .i64 t.ac.si, .int .i64 t.ac.zo, .bool t.ac.be, .slice t.ac.la t.ac.ln t.ac.lcap, .int .i64 t.un, .int .i64 t.le]) ∧ Below w.heap.size w w' ∧ OwnF w' w.heap.size t ∧ AlikeF t a := by
  have hb0 := (((Below.refl _ w).alloc (Nat.le_refl _) (.cells #[.int .i64 a.id, .int .i64 a.si, .int .i64 a.sr, .int .i64 a.cl, .int .i64 a.pt.kd, .int .i64 a.pt.wh, .int .i64 a.pt.sr, .int .i64 a.pt.tr, .int .i64 a.pt.pi, .int .i64 a.pt.le, .int .i64 a.pt.zo, .int .i64 a.gd.kd, .int .i64 a.gd.nn, .int .i64 a.ac.kd, .int .i64 a.ac.nn, .int .i64 a.ac.pi, .int .i64 a.ac.si, .int .i64 a.ac.zo, .bool a.ac.be, .slice a.ac.la a.ac.ln a.ac.lcap, .int .i64 a.un, .int .i64 a.le] 31)).alloc (by simp) (.cells #[.int .i64 0, .int .i64 0, .int .i64 0, .int .i64 0, .int .i64 0, .int .i64 0, .int .i64 0, .int .i64 0, .int .i64 0, .int .i64 0, .int .i64 0, .int .i64 0, .int .i64 0, .int .i64 0, .int .i64 0, .int .i64 0, .int .i64 0, .int .i64 0, .bool false, .slice none 0 0, .int .i64 0, .int .i64 0] 44)).alloc (by simp; omega) (.cells #[.int .i64 0, .int .i64 0, .int .i64 0, .int .i64 0, .int .i64 0, .int .i64 0, .int .i64 0, .int .i64 0, .int .i64 0, .int .i64 0, .int .i64 0, .int .i64 0, .int .i64 0, .int .i64 0, .int .i64 0, .int .i64 0, .int .i64 0, .int .i64 0, .bool false, .slice none 0 0, .int .i64 0, .int .i64 0] 44)
  have x1 := ((boxR_new w 31 #[.int .i64 a.id, .int .i64 a.si, .int .i64 a.sr, .int .i64 a.cl, .int .i64 a.pt.kd, .int .i64 a.pt.wh, .int .i64 a.pt.sr, .int .i64 a.pt.tr, .int .i64 a.pt.pi, .int .i64 a.pt.le, .int .i64 a.pt.zo, .int .i64 a.gd.kd, .int .i64 a.gd.nn, .int .i64 a.ac.kd, .int .i64 a.ac.nn, .int .i64 a.ac.pi, .int .i64 a.ac.si, .int .i64 a.ac.zo, .bool a.ac.be, .slice a.ac.la a.ac.ln a.ac.lcap, .int .i64 a.un, .int .i64 a.le]).alloc (.cells #[.int .i64 0, .int .i64 0, .int .i64 0, .int .i64 0, .int .i64 0, .int .i64 0, .int .i64 0, .int .i64 0, .int .i64 0, .int .i64 0, .int .i64 0, .int .i64 0, .int .i64 0, .int .i64 0, .int .i64 0, .int .i64 0, .int .i64 0, .int .i64 0, .bool false, .slice none 0 0, .int .i64 0, .int .i64 0] 44)).alloc (.cells #[.int .i64 0, .int .i64 0, .int .i64 0, .int .i64 0, .int .i64 0, .int .i64 0, .int .i64 0, .int .i64 0, .int .i64 0, .int .i64 0, .int .i64 0, .int .i64 0, .int .i64 0, .int .i64 0, .int .i64 0, .int .i64 0, .int .i64 0, .int .i64 0, .bool false, .slice none 0 0, .int .i64 0, .int .i64 0] 44)
  have x2 : BoxR _ (w.heap.size + 1) _ _ := (show BoxR ((w.alloc (.cells #[.int .i64 a.id, .int .i64 a.si, .int .i64 a.sr, .int .i64 a.cl, .int .i64 a.pt.kd, .int .i64 a.pt.wh, .int .i64 a.pt.sr, .int .i64 a.pt.tr, .int .i64 a.pt.pi, .int .i64 a.pt.le, .int .i64 a.pt.zo, .int .i64 a.gd.kd, .int .i64 a.gd.nn, .int .i64 a.ac.kd, .int .i64 a.ac.nn, .int .i64 a.ac.pi, .int .i64 a.ac.si, .int .i64 a.ac.zo, .bool a.ac.be, .slice a.ac.la a.ac.ln a.ac.lcap, .int .i64 a.un, .int .i64 a.le] 31)).alloc (.cells #[.int .i64 0, .int .i64 0, .int .i64 0, .int .i64 0, .int .i64 0, .int .i64 0, .int .i64 0, .int .i64 0, .int .i64 0, .int .i64 0, .int .i64 0, .int .i64 0, .int .i64 0, .int .i64 0, .int .i64 0, .int .i64 0, .int .i64 0, .int .i64 0, .bool false, .slice none 0 0, .int .i64 0, .int .i64 0] 44)) (w.heap.size + 1) 44 #[.int .i64 0, .int .i64 0, .int .i64 0, .int .i64 0, .int .i64 0, .int .i64 0, .int .i64 0, .int .i64 0, .int .i64 0, .int .i64 0, .int .i64 0, .int .i64 0, .int .i64 0, .int .i64 0, .int .i64 0, .int .i64 0, .int .i64 0, .int .i64 0, .bool false, .slice none 0 0, .int .i64 0, .int .i64 0] from heap_alloc2_new _ _ _).alloc (.cells #[.int .i64 0, .int .i64 0, .int .i64 0, .int .i64 0, .int .i64 0, .int .i64 0, .int .i64 0, .int .i64 0, .int .i64 0, .int .i64 0, .int .i64 0, .int .i64 0, .int .i64 0, .int .i64 0, .int .i64 0, .int .i64 0, .int .i64 0, .int .i64 0, .bool false, .slice none 0 0, .int .i64 0, .int .i64 0] 44)
  have x3 := boxR_new ((w.alloc (.cells #[.int .i64 a.id, .int .i64 a.si, .int .i64 a.sr, .int .i64 a.cl, .int .i64 a.pt.kd, .int .i64 a.pt.wh, .int .i64 a.pt.sr, .int .i64 a.pt.tr, .int .i64 a.pt.pi, .int .i64 a.pt.le, .int .i64 a.pt.zo, .int .i64 a.gd.kd, .int .i64 a.gd.nn, .int .i64 a.ac.kd, .int .i64 a.ac.nn, .int .i64 a.ac.pi, .int .i64 a.ac.si, .int .i64 a.ac.zo, .bool a.ac.be, .slice a.ac.la a.ac.ln a.ac.lcap, .int .i64 a.un, .int .i64 a.le] 31)).alloc (.cells #[.int .i64 0, .int .i64 0, .int .i64 0, .int .i64 0, .int .i64 0, .int .i64 0, .int .i64 0, .int .i64 0, .int .i64 0, .int .i64 0, .int .i64 0, .int .i64 0, .int .i64 0, .int .i64 0, .int .i64 0, .int .i64 0, .int .i64 0, .int .i64 0, .bool false, .slice none 0 0, .int .i64 0, .int .i64 0] 44)) 44 #[.int .i64 0, .int .i64 0, .int .i64 0, .int .i64 0, .int .i64 0, .int .i64 0, .int .i64 0, .int .i64 0, .int .i64 0, .int .i64 0, .int .i64 0, .int .i64 0, .int .i64 0, .int .i64 0, .int .i64 0, .int .i64 0, .int .i64 0, .int .i64 0, .bool false, .slice none 0 0, .int .i64 0, .int .i64 0]
  rw [World.size_alloc, World.size_alloc] at x3
  generalize hW : ((w.alloc (.cells #[.int .i64 a.id, .int .i64 a.si, .int .i64 a.sr, .int .i64 a.cl, .int .i64 a.pt.kd, .int .i64 a.pt.wh, .int .i64 a.pt.sr, .int .i64 a.pt.tr, .int .i64 a.pt.pi, .int .i64 a.pt.le, .int .i64 a.pt.zo, .int .i64 a.gd.kd, .int .i64 a.gd.nn, .int .i64 a.ac.kd, .int .i64 a.ac.nn, .int .i64 a.ac.pi, .int .i64 a.ac.si, .int .i64 a.ac.zo, .bool a.ac.be, .slice a.ac.la a.ac.ln a.ac.lcap, .int .i64 a.un, .int .i64 a.le] 31)).alloc (.cells #[.int .i64 0, .int .i64 0, .int .i64 0, .int .i64 0, .int .i64 0, .int .i64 0, .int .i64 0, .int .i64 0, .int .i64 0, .int .i64 0, .int .i64 0, .int .i64 0, .int .i64 0, .int .i64 0, .int .i64 0, .int .i64 0, .int .i64 0, .int .i64 0, .bool false, .slice none 0 0, .int .i64 0, .int .i64 0] 44)).alloc (.cells #[.int .i64 0, .int .i64 0, .int .i64 0, .int .i64 0, .int .i64 0, .int .i64 0, .int .i64 0, .int .i64 0, .int .i64 0, .int .i64 0, .int .i64 0, .int .i64 0, .int .i64 0, .int .i64 0, .int .i64 0, .int .i64 0, .int .i64 0, .int .i64 0, .bool false, .slice none 0 0, .int .i64 0, .int .i64 0] 44) = W at hb0 x1 x2 x3
  have hwz := x3.lt
  have k0 := x1.cell 0
  simp at k0
  have k1 := x1.cell 1
  simp at k1
  have k2 := x1.cell 2
  simp at k2
  have k3 := x1.cell 3
  simp at k3
  have z3 := (((x3.put 0 (.int .i64 a.id)).put 1 (.int .i64 a.si)).put 2 (.int .i64 a.sr)).put 3 (.int .i64 a.cl)
  have z2 := (((x2.other (q := ⟨w.heap.size + 1 + 1, 0, none⟩) (by simp) (.int .i64 a.id)).other (q := ⟨w.heap.size + 1 + 1, 1, none⟩) (by simp) (.int .i64 a.si)).other (q := ⟨w.heap.size + 1 + 1, 2, none⟩) (by simp) (.int .i64 a.sr)).other (q := ⟨w.heap.size + 1 + 1, 3, none⟩) (by simp) (.int .i64 a.cl)
  have z1 := (((x1.other (q := ⟨w.heap.size + 1 + 1, 0, none⟩) (by simp; omega) (.int .i64 a.id)).other (q := ⟨w.heap.size + 1 + 1, 1, none⟩) (by simp; omega) (.int .i64 a.si)).other (q := ⟨w.heap.size + 1 + 1, 2, none⟩) (by simp; omega) (.int .i64 a.sr)).other (q := ⟨w.heap.size + 1 + 1, 3, none⟩) (by simp; omega) (.int .i64 a.cl)
  have zb := (((hb0.setCell (p := ⟨w.heap.size + 1 + 1, 0, none⟩) (by simp; omega) (.int .i64 a.id)).setCell (p := ⟨w.heap.size + 1 + 1, 1, none⟩) (by simp; omega) (.int .i64 a.si)).setCell (p := ⟨w.heap.size + 1 + 1, 2, none⟩) (by simp; omega) (.int .i64 a.sr)).setCell (p := ⟨w.heap.size + 1 + 1, 3, none⟩) (by simp; omega) (.int .i64 a.cl)
  have m0 := x3.cell 0
  have f0 := x3.froz 0
  simp at m0
  have m1 := x3.cell 1
  have f1 := x3.froz 1
  simp at m1
  have m2 := x3.cell 2
  have f2 := x3.froz 2
  simp at m2
  have m3 := x3.cell 3
  have f3 := x3.froz 3
  simp at m3
  generalize hV : (((W.setCell ⟨w.heap.size + 1 + 1, 0, none⟩ (.int .i64 a.id)).setCell ⟨w.heap.size + 1 + 1, 1, none⟩ (.int .i64 a.si)).setCell ⟨w.heap.size + 1 + 1, 2, none⟩ (.int .i64 a.sr)).setCell ⟨w.heap.size + 1 + 1, 3, none⟩ (.int .i64 a.cl) = V at z1 z2 z3 zb
  clear x1 x2 x3 hb0
  have k4 := z1.cell 4
  simp at k4
  have k5 := z1.cell 5
  simp at k5
  have k6 := z1.cell 6
  simp at k6
  have k7 := z1.cell 7
  simp at k7
  have k8 := z1.cell 8
  simp at k8
  have k9 := z1.cell 9
  simp at k9
  have k10 := z1.cell 10
  simp at k10
  go_enter Tryz.func8, Tryz.ntmps8
  go_wp2_with fail
  clear hW hV k0 k1 k2 k3 k4 k5 k6 k7 k8 k9 k10 m0 f0 m1 f1 m2 f2 m3 f3
  as_aux_lemma =>
    refine (toPat_any a.pt _).mono ?_
    rintro e w1 ⟨rfl, hb⟩
    replace z1 := z1.grew hb
    replace z2 := z2.grew hb
    replace z3 := z3.grew hb
    have hsz1 := zb.size
    replace zb := below_app zb hb zb.size
    clear hb
    have ht : w1.there (w.heap.size + 1 + 1) 4 7 := z3.thereL (by simp [putA])
    have y3 := z3.putL 4 (#[.int .i64 a.pt.kd, .int .i64 a.pt.wh, .int .i64 a.pt.sr, .int .i64 a.pt.tr, .int .i64 a.pt.pi, .int .i64 a.pt.le, .int .i64 a.pt.zo] : Array Value).toList
    have y2 := z2.otherL (g := w.heap.size + 1 + 1) (by omega) 4 (#[.int .i64 a.pt.kd, .int .i64 a.pt.wh, .int .i64 a.pt.sr, .int .i64 a.pt.tr, .int .i64 a.pt.pi, .int .i64 a.pt.le, .int .i64 a.pt.zo] : Array Value).toList
    have y1 := z1.otherL (g := w.heap.size + 1 + 1) (by omega) 4 (#[.int .i64 a.pt.kd, .int .i64 a.pt.wh, .int .i64 a.pt.sr, .int .i64 a.pt.tr, .int .i64 a.pt.pi, .int .i64 a.pt.le, .int .i64 a.pt.zo] : Array Value).toList
    have yb := below_setCells' (g := w.heap.size + 1 + 1) (by omega) (#[.int .i64 a.pt.kd, .int .i64 a.pt.wh, .int .i64 a.pt.sr, .int .i64 a.pt.tr, .int .i64 a.pt.pi, .int .i64 a.pt.le, .int .i64 a.pt.zo] : Array Value).toList 4 w1 zb
    generalize hU1 : w1.setCells (w.heap.size + 1 + 1) 4 (#[.int .i64 a.pt.kd, .int .i64 a.pt.wh, .int .i64 a.pt.sr, .int .i64 a.pt.tr, .int .i64 a.pt.pi, .int .i64 a.pt.le, .int .i64 a.pt.zo] : Array Value).toList = U1 at y1 y2 y3 yb
    clear z1 z2 z3 zb
    have z1 := y1
    have z2 := y2
    have z3 := y3
    have zb := yb
    clear y1 y2 y3 yb
    simp only [putA, List.setIfInBounds_toArray, List.set_cons_zero, List.set_cons_succ] at z3
    go_upto_region 7 with (refine wpList_store_mid rfl 38 (.tmp 19) (.tmp 18) rfl (w.heap.size + 1 + 1) 4 #[.int .i64 a.pt.kd, .int .i64 a.pt.wh, .int .i64 a.pt.sr, .int .i64 a.pt.tr, .int .i64 a.pt.pi, .int .i64 a.pt.le, .int .i64 a.pt.zo] (by first | rfl | simp [Act.eval]) rfl ht (by kernel_rfl) (by simp [Value.oneCell']) ?_; rw [hU1])
    clear hU1 ht
    as_aux_lemma =>
      have k11 := z1.cell 11
      simp at k11
      have k12 := z1.cell 12
      simp at k12
      go_wp2_with fail
      clear k11 k12
      as_aux_lemma =>
        refine (toGuard_any a.gd _).mono ?_
        rintro e w2 ⟨rfl, hb⟩
        replace z1 := z1.grew hb
        replace z2 := z2.grew hb
        replace z3 := z3.grew hb
        have hsz2 := zb.size
        replace zb := below_app zb hb zb.size
        clear hb
        have ht : w2.there (w.heap.size + 1 + 1) 11 2 := z3.thereL (by simp [putA])
        have y3 := z3.putL 11 (#[.int .i64 a.gd.kd, .int .i64 a.gd.nn] : Array Value).toList
        have y2 := z2.otherL (g := w.heap.size + 1 + 1) (by omega) 11 (#[.int .i64 a.gd.kd, .int .i64 a.gd.nn] : Array Value).toList
        have y1 := z1.otherL (g := w.heap.size + 1 + 1) (by omega) 11 (#[.int .i64 a.gd.kd, .int .i64 a.gd.nn] : Array Value).toList
        have yb := below_setCells' (g := w.heap.size + 1 + 1) (by omega) (#[.int .i64 a.gd.kd, .int .i64 a.gd.nn] : Array Value).toList 11 w2 zb
        generalize hU2 : w2.setCells (w.heap.size + 1 + 1) 11 (#[.int .i64 a.gd.kd, .int .i64 a.gd.nn] : Array Value).toList = U2 at y1 y2 y3 yb
        clear z1 z2 z3 zb
        have z1 := y1
        have z2 := y2
        have z3 := y3
        have zb := yb
        clear y1 y2 y3 yb
        simp only [putA, List.setIfInBounds_toArray, List.set_cons_zero, List.set_cons_succ] at z3
        go_upto_region 8 with (refine wpList_store_mid rfl 39 (.tmp 23) (.tmp 22) rfl (w.heap.size + 1 + 1) 11 #[.int .i64 a.gd.kd, .int .i64 a.gd.nn] (by first | rfl | simp [Act.eval]) rfl ht (by kernel_rfl) (by simp [Value.oneCell']) ?_; rw [hU2])
        clear hU2 ht
        as_aux_lemma =>
          have k13 := z1.cell 13
          simp at k13
          have k14 := z1.cell 14
          simp at k14
          have k15 := z1.cell 15
          simp at k15
          have k16 := z1.cell 16
          simp at k16
          have k17 := z1.cell 17
          simp at k17
          have k18 := z1.cell 18
          simp at k18
          have k19 := z1.cell 19
          simp at k19
          go_wp2_with fail
          clear k13 k14 k15 k16 k17 k18 k19
          as_aux_lemma =>
            have oka := act_grew hok.1 zb
            have hq := z3.lt
            refine (toAct_ans a.ac _ oka hn).mono ?_
            rintro e w3 ⟨ta, rfl, hb, oA, eA⟩
            replace z1 := z1.grew hb
            replace z2 := z2.grew hb
            replace z3 := z3.grew hb
            have hsz3 := zb.size
            replace zb := below_app zb hb zb.size
            clear hb
            have ht : w3.there (w.heap.size + 1 + 1) 13 7 := z3.thereL (by simp [putA])
            have y3 := z3.putL 13 (#[.int .i64 ta.kd, .int .i64 ta.nn, .int .i64 ta.pi, .int .i64 ta.si, .int .i64 ta.zo, .bool ta.be, .slice ta.la ta.ln ta.lcap] : Array Value).toList
            have y2 := z2.otherL (g := w.heap.size + 1 + 1) (by omega) 13 (#[.int .i64 ta.kd, .int .i64 ta.nn, .int .i64 ta.pi, .int .i64 ta.si, .int .i64 ta.zo, .bool ta.be, .slice ta.la ta.ln ta.lcap] : Array Value).toList
            have y1 := z1.otherL (g := w.heap.size + 1 + 1) (by omega) 13 (#[.int .i64 ta.kd, .int .i64 ta.nn, .int .i64 ta.pi, .int .i64 ta.si, .int .i64 ta.zo, .bool ta.be, .slice ta.la ta.ln ta.lcap] : Array Value).toList
            have yb := below_setCells' (g := w.heap.size + 1 + 1) (by omega) (#[.int .i64 ta.kd, .int .i64 ta.nn, .int .i64 ta.pi, .int .i64 ta.si, .int .i64 ta.zo, .bool ta.be, .slice ta.la ta.ln ta.lcap] : Array Value).toList 13 w3 zb
            replace oA := OwnA.setL oA (g := w.heap.size + 1 + 1) (by have := oA.2.2.1; omega) 13 (#[.int .i64 ta.kd, .int .i64 ta.nn, .int .i64 ta.pi, .int .i64 ta.si, .int .i64 ta.zo, .bool ta.be, .slice ta.la ta.ln ta.lcap] : Array Value).toList
            generalize hU3 : w3.setCells (w.heap.size + 1 + 1) 13 (#[.int .i64 ta.kd, .int .i64 ta.nn, .int .i64 ta.pi, .int .i64 ta.si, .int .i64 ta.zo, .bool ta.be, .slice ta.la ta.ln ta.lcap] : Array Value).toList = U3 at y1 y2 y3 yb oA
            clear z1 z2 z3 zb
            have z1 := y1
            have z2 := y2
            have z3 := y3
            have zb := yb
            clear y1 y2 y3 yb
            simp only [putA, List.setIfInBounds_toArray, List.set_cons_zero, List.set_cons_succ] at z3
            go_upto_region 9 with (refine wpList_store_mid rfl 42 (.tmp 27) (.tmp 26) rfl (w.heap.size + 1 + 1) 13 #[.int .i64 ta.kd, .int .i64 ta.nn, .int .i64 ta.pi, .int .i64 ta.si, .int .i64 ta.zo, .bool ta.be, .slice ta.la ta.ln ta.lcap] (by first | rfl | simp [Act.eval]) rfl ht (by kernel_rfl) (by simp [Value.oneCell']) ?_; rw [hU3])
            clear hU3 ht
            as_aux_lemma =>
              have k20 := z1.cell 20
              simp at k20
              have k21 := z1.cell 21
              simp at k21
              have x1 := z1
              have x2 := z2
              have x3 := z3
              have xb := zb
              clear z1 z2 z3 zb
              have oB : OwnA ((U3.setCell ⟨w.heap.size + 1 + 1, 20, none⟩ (.int .i64 a.un)).setCell ⟨w.heap.size + 1 + 1, 21, none⟩ (.int .i64 a.le)) U2.heap.size ta := OwnA.setC (OwnA.setC oA (by have := oA.2.2.1; omega) 20 _) (by have := oA.2.2.1; omega) 21 _
              have z3 := (x3.put 20 (.int .i64 a.un)).put 21 (.int .i64 a.le)
              have z2 := (x2.other (q := ⟨w.heap.size + 1 + 1, 20, none⟩) (by simp) (.int .i64 a.un)).other (q := ⟨w.heap.size + 1 + 1, 21, none⟩) (by simp) (.int .i64 a.le)
              have z1 := (x1.other (q := ⟨w.heap.size + 1 + 1, 20, none⟩) (by simp; omega) (.int .i64 a.un)).other (q := ⟨w.heap.size + 1 + 1, 21, none⟩) (by simp; omega) (.int .i64 a.le)
              have zb := (xb.setCell (p := ⟨w.heap.size + 1 + 1, 20, none⟩) (by simp; omega) (.int .i64 a.un)).setCell (p := ⟨w.heap.size + 1 + 1, 21, none⟩) (by simp; omega) (.int .i64 a.le)
              have m20 := x3.cell 20
              have f20 := x3.froz 20
              simp at m20
              have m21 := x3.cell 21
              have f21 := x3.froz 21
              simp at m21
              generalize hV : (U3.setCell ⟨w.heap.size + 1 + 1, 20, none⟩ (.int .i64 a.un)).setCell ⟨w.heap.size + 1 + 1, 21, none⟩ (.int .i64 a.le) = Y at z1 z2 z3 zb oB
              clear x1 x2 x3 xb
              simp only [List.setIfInBounds_toArray, List.set_cons_zero, List.set_cons_succ] at z3
              go_upto_region 11 with fail
              clear hV k20 k21 m20 m21 f20 f21
              as_aux_lemma =>
                have z4 : BoxR Y (w.heap.size + 1 + 1) 44 #[.int .i64 a.id, .int .i64 a.si, .int .i64 a.sr, .int .i64 a.cl, .int .i64 a.pt.kd, .int .i64 a.pt.wh, .int .i64 a.pt.sr, .int .i64 a.pt.tr, .int .i64 a.pt.pi, .int .i64 a.pt.le, .int .i64 a.pt.zo, .int .i64 a.gd.kd, .int .i64 a.gd.nn, .int .i64 ta.kd, .int .i64 ta.nn, .int .i64 ta.pi, .int .i64 ta.si, .int .i64 ta.zo, .bool ta.be, .slice ta.la ta.ln ta.lcap, .int .i64 a.un, .int .i64 a.le] := z3
                clear z3
                go_wp2_with first | (refine wpList_load_row rfl 44 (.tmp 3) rfl (w.heap.size + 1 + 1) (by rfl) _ _ _ _ z4 Tryz.underlying44 rfl (by kernel_rfl) ?_) | (refine wpList_store_row rfl 44 (.tmp 2) _ rfl (w.heap.size + 1) _ (by rfl) (by rfl) _ _ z2 (by kernel_rfl) (by rfl) (by simp [Value.oneCell']) ?_)
                (try simp only [Exit.inBlock, Exit.then]); refine bodyPost_ret (results_cell_row rfl _ _ (w.heap.size + 1) _ _ _ _ rfl (setRow_heap _ _ _ _ _ _ z2) Tryz.underlying44 rfl (by kernel_rfl)) rfl ?_
                exact ⟨⟨a.id, a.si, a.sr, a.cl, a.pt, a.gd, ta, a.un, a.le⟩, rfl, below_setRow zb (by omega) _, ⟨oB.1, oB.2.1, ⟨by show w.heap.size ≤ ta.lb; have := oB.2.2.1; omega, (oB.2.2.setRow (by have := oB.2.2.1; omega) _).2⟩⟩, ⟨rfl, rfl, rfl, rfl, rfl, rfl, eA, rfl, rfl⟩⟩
end Go.Proofs.YtodfdfncdoliiauGreat
