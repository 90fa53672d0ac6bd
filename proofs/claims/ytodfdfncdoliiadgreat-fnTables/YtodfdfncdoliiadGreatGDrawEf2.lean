/-
  Chapter 10: an effect while it is drawn (DE); the draw l10Draw. Written by tools/drawef.gen.py. Chapter 10: the draw l10Any. Written by tools/drawef.gen.py. Own work.
-/
import Derived.Test.YtodfdfncdoliiadGreatDrawA3
import Derived.Test.YtodfdfncdoliiadGreatGDrawT62
import Derived.Test.YtodfdfncdoliiadGreatDrawPa
import Derived.Test.YtodfdfncdoliiadGreatGPaA4
import Derived.Deep.DeepCutAuto
import Derived.Deep.CutBlock
import Derived.Deep.RegionHeld
namespace Go.Proofs.YtodfdfncdoliiadGreat
open Go.ChangeShapes Go.WideShapes Go.ChangeAt Go.RowKit
set_option maxRecDepth 100000
set_option linter.unusedVariables false
set_option linter.unusedSimpArgs false

theorem row_setL {e : TypeId} {m : Nat} {v : Value} {n B g : Nat} {xs : List Value} (hne : some g ≠ v.ownBlock) : ∀ (L : List Value) (k : Nat) (w : World), w.ownsRow B e m v n xs → (w.setCells g k L).ownsRow B e m v n xs
  | [], _, _, h => h
  | u :: L, k, w, h => by unfold World.setCells; exact row_setL hne L (k + 1) _ (row_set h hne u)
theorem Only.setL {p g : Nat} {a : World} (hg : a.heap.size ≤ g) : ∀ (L : List Value) (k : Nat) (w : World), Only p a w → Only p a (w.setCells g k L)
  | [], _, _, h => h
  | v :: L, k, w, h => by unfold World.setCells; exact Only.setL hg L (k + 1) _ (h.setCell (.inr hg) v)
/-- what is told of a drawn effect -/
def EW (t : Ef) : Prop := inI64 t.le ∧ t.ac.wf ∧ t.ac.ln ≤ 5
/-- while an effect is drawn: the cursor p, the state's cell and the answer's cell ahead of g, the effect under way at g -/
structure DE (w : World) (p : Nat) (a : Option Addr) (len cap : Nat) (s : Stt) (g : Nat) (t : Ef) (u : World) : Prop where
  only : Only p w u
  cur : Cur u p a len cap
  pr : p < w.heap.size
  rg : w.heap.size + 1 < g
  bx : BoxR u w.heap.size 37 #[.slice s.pa s.pn s.pcap, .slice s.sa s.sn s.scap, .int .i64 s.ac, .int .i64 s.cl]
  br : BoxR u (w.heap.size + 1) 32 #[.int .i64 0, .int .i64 0, .int .i64 0, .int .i64 0, .int .i64 0, .int .i64 0, .int .i64 0, .int .i64 0, .int .i64 0, .int .i64 0, .int .i64 0, .int .i64 0, .int .i64 0, .int .i64 0, .int .i64 0, .int .i64 0, .int .i64 0, .int .i64 0, .bool false, .slice none 0 0, .int .i64 0, .int .i64 0]
  bg : BoxR u g 32 #[.int .i64 t.id, .int .i64 t.si, .int .i64 t.sr, .int .i64 t.cl, .int .i64 t.pt.kd, .int .i64 t.pt.wh, .int .i64 t.pt.sr, .int .i64 t.pt.tr, .int .i64 t.pt.pi, .int .i64 t.pt.le, .int .i64 t.pt.zo, .int .i64 t.gd.kd, .int .i64 t.gd.nn, .int .i64 t.ac.kd, .int .i64 t.ac.nn, .int .i64 t.ac.pi, .int .i64 t.ac.si, .int .i64 t.ac.zo, .bool t.ac.be, .slice t.ac.la t.ac.ln t.ac.lcap, .int .i64 t.un, .int .i64 t.le]
  rw : RowA u w.heap.size t.ac
  wf : EW t
section
variable {w : World} {p : Nat} {a : Option Addr} {len cap : Nat} {s : Stt} {g : Nat} {t : Ef} {u u' : World}
theorem DE.draw (h : DE w p a len cap s g t u) (ho : Only p u u') (hk : Cur u' p a len cap) : DE w p a len cap s g t u' :=
  have h1 := h.pr
  have h2 := h.rg
  ⟨h.only.trans ho, hk, h.pr, h.rg, h.bx.onlyR ho (by omega), h.br.onlyR ho (by omega), h.bg.onlyR ho (by omega), h.rw.only ho h.pr, h.wf⟩
theorem DE.drew (h : DE w p a len cap s g t u) : DE w p a len cap s g t u.drew := ⟨h.only.drew, h.cur, h.pr, h.rg, h.bx, h.br, h.bg, h.rw, h.wf⟩
theorem DE.putI (h : DE w p a len cap s g t u) (j : Nat) (v : Value) {t' : Ef} (e : (#[.int .i64 t.id, .int .i64 t.si, .int .i64 t.sr, .int .i64 t.cl, .int .i64 t.pt.kd, .int .i64 t.pt.wh, .int .i64 t.pt.sr, .int .i64 t.pt.tr, .int .i64 t.pt.pi, .int .i64 t.pt.le, .int .i64 t.pt.zo, .int .i64 t.gd.kd, .int .i64 t.gd.nn, .int .i64 t.ac.kd, .int .i64 t.ac.nn, .int .i64 t.ac.pi, .int .i64 t.ac.si, .int .i64 t.ac.zo, .bool t.ac.be, .slice t.ac.la t.ac.ln t.ac.lcap, .int .i64 t.un, .int .i64 t.le] : Array Value).setIfInBounds j v = #[.int .i64 t'.id, .int .i64 t'.si, .int .i64 t'.sr, .int .i64 t'.cl, .int .i64 t'.pt.kd, .int .i64 t'.pt.wh, .int .i64 t'.pt.sr, .int .i64 t'.pt.tr, .int .i64 t'.pt.pi, .int .i64 t'.pt.le, .int .i64 t'.pt.zo, .int .i64 t'.gd.kd, .int .i64 t'.gd.nn, .int .i64 t'.ac.kd, .int .i64 t'.ac.nn, .int .i64 t'.ac.pi, .int .i64 t'.ac.si, .int .i64 t'.ac.zo, .bool t'.ac.be, .slice t'.ac.la t'.ac.ln t'.ac.lcap, .int .i64 t'.un, .int .i64 t'.le]) (hac : t'.ac = t.ac) (hw : inI64 t'.le) : DE w p a len cap s g t' (u.setCell ⟨g, j, none⟩ v) :=
  have h1 := h.pr
  have h2 := h.rg
  ⟨h.only.setCell (.inr (by show w.heap.size ≤ g; omega)) v, h.cur.only ((Only.refl g u).setCell (.inl rfl) v) (by omega), h.pr, h.rg, h.bx.other (q := ⟨g, j, none⟩) (by show w.heap.size ≠ g; omega) v, h.br.other (q := ⟨g, j, none⟩) (by show w.heap.size + 1 ≠ g; omega) v, by have := h.bg.put j v; rwa [e] at this, by rw [hac]; exact row_set h.rw (own_ne h.rw h.bg (by decide)) v, ⟨hw, by rw [hac]; exact h.wf.2⟩⟩
theorem DE.putL (h : DE w p a len cap s g t u) (k : Nat) (L : List Value) {t' : Ef} (e : putA (#[.int .i64 t.id, .int .i64 t.si, .int .i64 t.sr, .int .i64 t.cl, .int .i64 t.pt.kd, .int .i64 t.pt.wh, .int .i64 t.pt.sr, .int .i64 t.pt.tr, .int .i64 t.pt.pi, .int .i64 t.pt.le, .int .i64 t.pt.zo, .int .i64 t.gd.kd, .int .i64 t.gd.nn, .int .i64 t.ac.kd, .int .i64 t.ac.nn, .int .i64 t.ac.pi, .int .i64 t.ac.si, .int .i64 t.ac.zo, .bool t.ac.be, .slice t.ac.la t.ac.ln t.ac.lcap, .int .i64 t.un, .int .i64 t.le] : Array Value) k L = #[.int .i64 t'.id, .int .i64 t'.si, .int .i64 t'.sr, .int .i64 t'.cl, .int .i64 t'.pt.kd, .int .i64 t'.pt.wh, .int .i64 t'.pt.sr, .int .i64 t'.pt.tr, .int .i64 t'.pt.pi, .int .i64 t'.pt.le, .int .i64 t'.pt.zo, .int .i64 t'.gd.kd, .int .i64 t'.gd.nn, .int .i64 t'.ac.kd, .int .i64 t'.ac.nn, .int .i64 t'.ac.pi, .int .i64 t'.ac.si, .int .i64 t'.ac.zo, .bool t'.ac.be, .slice t'.ac.la t'.ac.ln t'.ac.lcap, .int .i64 t'.un, .int .i64 t'.le]) (hr : RowA (u.setCells g k L) w.heap.size t'.ac) (hw : EW t') : DE w p a len cap s g t' (u.setCells g k L) :=
  have h1 := h.pr
  have h2 := h.rg
  ⟨Only.setL (by omega) L k u h.only, h.cur.only (Only.setCells L k u (Only.refl g u)) (by omega), h.pr, h.rg, h.bx.otherL (by omega) k L, h.br.otherL (by omega) k L, by have := h.bg.putL k L; rwa [e] at this, hr, hw⟩
set_option maxHeartbeats 2000000 in
theorem DE.putP (h : DE w p a len cap s g t u) (q : Pt) : DE w p a len cap s g ⟨t.id, t.si, t.sr, t.cl, q, t.gd, t.ac, t.un, t.le⟩ (u.setCells g 4 (#[.int .i64 q.kd, .int .i64 q.wh, .int .i64 q.sr, .int .i64 q.tr, .int .i64 q.pi, .int .i64 q.le, .int .i64 q.zo] : Array Value).toList) := by
  exact h.putL 4 _ (by rfl) (show RowA _ _ t.ac from row_setL (own_ne h.rw h.bg (by decide)) _ _ _ h.rw) h.wf
set_option maxHeartbeats 2000000 in
theorem DE.putG (h : DE w p a len cap s g t u) (q : Gd) : DE w p a len cap s g ⟨t.id, t.si, t.sr, t.cl, t.pt, q, t.ac, t.un, t.le⟩ (u.setCells g 11 (#[.int .i64 q.kd, .int .i64 q.nn] : Array Value).toList) := by
  exact h.putL 11 _ (by rfl) (show RowA _ _ t.ac from row_setL (own_ne h.rw h.bg (by decide)) _ _ _ h.rw) h.wf
set_option maxHeartbeats 2000000 in
theorem DE.putA (h : DE w p a len cap s g t u) {q : Ac} {B : Nat} (hr : RowA u B q) (hB : w.heap.size ≤ B) (hq : q.wf) (hl : q.ln ≤ 5) : DE w p a len cap s g ⟨t.id, t.si, t.sr, t.cl, t.pt, t.gd, q, t.un, t.le⟩ (u.setCells g 13 (#[.int .i64 q.kd, .int .i64 q.nn, .int .i64 q.pi, .int .i64 q.si, .int .i64 q.zo, .bool q.be, .slice q.la q.ln q.lcap] : Array Value).toList) := by
  exact h.putL 13 _ (by rfl) (show RowA _ _ q from RowA.down (B := B) (show RowA _ _ q from row_setL (own_ne hr h.bg (by decide)) _ _ _ hr) hB) ⟨h.wf.1, hq, hl⟩
theorem DE.putId (h : DE w p a len cap s g t u) {x : Int} : DE w p a len cap s g ⟨x, t.si, t.sr, t.cl, t.pt, t.gd, t.ac, t.un, t.le⟩ (u.setCell ⟨g, 0, none⟩ (.int .i64 x)) := h.putI 0 _ rfl rfl h.wf.1
theorem DE.putSi (h : DE w p a len cap s g t u) {x : Int} : DE w p a len cap s g ⟨t.id, x, t.sr, t.cl, t.pt, t.gd, t.ac, t.un, t.le⟩ (u.setCell ⟨g, 1, none⟩ (.int .i64 x)) := h.putI 1 _ rfl rfl h.wf.1
theorem DE.putSr (h : DE w p a len cap s g t u) {x : Int} : DE w p a len cap s g ⟨t.id, t.si, x, t.cl, t.pt, t.gd, t.ac, t.un, t.le⟩ (u.setCell ⟨g, 2, none⟩ (.int .i64 x)) := h.putI 2 _ rfl rfl h.wf.1
theorem DE.putCl (h : DE w p a len cap s g t u) {x : Int} : DE w p a len cap s g ⟨t.id, t.si, t.sr, x, t.pt, t.gd, t.ac, t.un, t.le⟩ (u.setCell ⟨g, 3, none⟩ (.int .i64 x)) := h.putI 3 _ rfl rfl h.wf.1
theorem DE.putUn (h : DE w p a len cap s g t u) {x : Int} : DE w p a len cap s g ⟨t.id, t.si, t.sr, t.cl, t.pt, t.gd, t.ac, x, t.le⟩ (u.setCell ⟨g, 20, none⟩ (.int .i64 x)) := h.putI 20 _ rfl rfl h.wf.1
theorem DE.putLe (h : DE w p a len cap s g t u) {x : Int} (hx : inI64 x) : DE w p a len cap s g ⟨t.id, t.si, t.sr, t.cl, t.pt, t.gd, t.ac, t.un, x⟩ (u.setCell ⟨g, 21, none⟩ (.int .i64 x)) := h.putI 21 _ rfl rfl hx
end
set_option maxHeartbeats 2000000 in
theorem wpL_build3 (x0 x1 x2 : Int) {ops : Array Oper} {rest : List Oper} {a : Act} {w : World} {Q : Exit → Act → World → Prop} {d : Option Tmp} {ty : TypeId} {pos : String} {aft : Array Edge}
    (h : wpList Tryz.prog ops Q rest (a.put d (.slice (some ⟨w.heap.size, 0, none⟩) 3 3)) (w.alloc (.cells #[.int .i64 x0, .int .i64 x1, .int .i64 x2] 3))) :
    wpList Tryz.prog ops Q (⟨d, .buildSlice 131 3 #[(0, .const (.int .i64 x0)), (1, .const (.int .i64 x1)), (2, .const (.int .i64 x2))], ty, pos, aft, none⟩ :: rest) a w := by
  refine wpList_plain rfl (fun K hK => ?_)
  go_simp
  exact hK _ _ h
set_option maxHeartbeats 2000000 in
theorem wpL_build4 (x0 x1 x2 x3 : Int) {ops : Array Oper} {rest : List Oper} {a : Act} {w : World} {Q : Exit → Act → World → Prop} {d : Option Tmp} {ty : TypeId} {pos : String} {aft : Array Edge}
    (h : wpList Tryz.prog ops Q rest (a.put d (.slice (some ⟨w.heap.size, 0, none⟩) 4 4)) (w.alloc (.cells #[.int .i64 x0, .int .i64 x1, .int .i64 x2, .int .i64 x3] 3))) :
    wpList Tryz.prog ops Q (⟨d, .buildSlice 131 4 #[(0, .const (.int .i64 x0)), (1, .const (.int .i64 x1)), (2, .const (.int .i64 x2)), (3, .const (.int .i64 x3))], ty, pos, aft, none⟩ :: rest) a w := by
  refine wpList_plain rfl (fun K hK => ?_)
  go_simp
  exact hK _ _ h
set_option maxHeartbeats 2000000 in
theorem wpL_build5 (x0 x1 x2 x3 x4 : Int) {ops : Array Oper} {rest : List Oper} {a : Act} {w : World} {Q : Exit → Act → World → Prop} {d : Option Tmp} {ty : TypeId} {pos : String} {aft : Array Edge}
    (h : wpList Tryz.prog ops Q rest (a.put d (.slice (some ⟨w.heap.size, 0, none⟩) 5 5)) (w.alloc (.cells #[.int .i64 x0, .int .i64 x1, .int .i64 x2, .int .i64 x3, .int .i64 x4] 3))) :
    wpList Tryz.prog ops Q (⟨d, .buildSlice 131 5 #[(0, .const (.int .i64 x0)), (1, .const (.int .i64 x1)), (2, .const (.int .i64 x2)), (3, .const (.int .i64 x3)), (4, .const (.int .i64 x4))], ty, pos, aft, none⟩ :: rest) a w := by
  refine wpList_plain rfl (fun K hK => ?_)
  go_simp
  exact hK _ _ h
set_option maxHeartbeats 2000000 in
theorem wpL_build7 (x0 x1 x2 x3 x4 x5 x6 : Int) {ops : Array Oper} {rest : List Oper} {a : Act} {w : World} {Q : Exit → Act → World → Prop} {d : Option Tmp} {ty : TypeId} {pos : String} {aft : Array Edge}
    (h : wpList Tryz.prog ops Q rest (a.put d (.slice (some ⟨w.heap.size, 0, none⟩) 7 7)) (w.alloc (.cells #[.int .i64 x0, .int .i64 x1, .int .i64 x2, .int .i64 x3, .int .i64 x4, .int .i64 x5, .int .i64 x6] 3))) :
    wpList Tryz.prog ops Q (⟨d, .buildSlice 131 7 #[(0, .const (.int .i64 x0)), (1, .const (.int .i64 x1)), (2, .const (.int .i64 x2)), (3, .const (.int .i64 x3)), (4, .const (.int .i64 x4)), (5, .const (.int .i64 x5)), (6, .const (.int .i64 x6))], ty, pos, aft, none⟩ :: rest) a w := by
  refine wpList_plain rfl (fun K hK => ?_)
  go_simp
  exact hK _ _ h
set_option maxHeartbeats 40000000 in
theorem l10Draw_any (p : Nat) (a : Option Addr) (len cap : Nat) (s : Stt) (id : Int) (w : World) {B C : Nat} (hc : Code w a len B) (hB : B ≤ p) (hcur : Cur w p a len cap) (hs : anS s) (hcl : 0 ≤ s.cl ∧ s.cl ≤ 10000) (hrw : RowsT w C s) (hC : p < C) :
    Calls Tryz.prog 93 #[.pointer (some ⟨p, 0, none⟩), (.agg #[.slice s.pa s.pn s.pcap, .slice s.sa s.sn s.scap, .int .i64 s.ac, .int .i64 s.cl]), .int .i64 id] w fun e w' => ∃ t : Ef, EW t ∧ e = .returned (.agg #[.int .i64 t.id, .int .i64 t.si, .int .i64 t.sr, .int .i64 t.cl, .int .i64 t.pt.kd, .int .i64 t.pt.wh, .int .i64 t.pt.sr, .int .i64 t.pt.tr, .int .i64 t.pt.pi, .int .i64 t.pt.le, .int .i64 t.pt.zo, .int .i64 t.gd.kd, .int .i64 t.gd.nn, .int .i64 t.ac.kd, .int .i64 t.ac.nn, .int .i64 t.ac.pi, .int .i64 t.ac.si, .int .i64 t.ac.zo, .bool t.ac.be, .slice t.ac.la t.ac.ln t.ac.lcap, .int .i64 t.un, .int .i64 t.le]) ∧ Only p w w' ∧ Cur w' p a len cap ∧ RowA w' w.heap.size t.ac := by
  have hp : p < w.heap.size := hcur.1
  have ho0 : Only p w ((w.alloc (.cells #[.slice s.pa s.pn s.pcap, .slice s.sa s.sn s.scap, .int .i64 s.ac, .int .i64 s.cl] 37)).alloc (.cells #[.int .i64 0, .int .i64 0, .int .i64 0, .int .i64 0, .int .i64 0, .int .i64 0, .int .i64 0, .int .i64 0, .int .i64 0, .int .i64 0, .int .i64 0, .int .i64 0, .int .i64 0, .int .i64 0, .int .i64 0, .int .i64 0, .int .i64 0, .int .i64 0, .bool false, .slice none 0 0, .int .i64 0, .int .i64 0] 32)) := ((Only.refl p w).alloc _).alloc _
  have hk0 : Cur ((w.alloc (.cells #[.slice s.pa s.pn s.pcap, .slice s.sa s.sn s.scap, .int .i64 s.ac, .int .i64 s.cl] 37)).alloc (.cells #[.int .i64 0, .int .i64 0, .int .i64 0, .int .i64 0, .int .i64 0, .int .i64 0, .int .i64 0, .int .i64 0, .int .i64 0, .int .i64 0, .int .i64 0, .int .i64 0, .int .i64 0, .int .i64 0, .int .i64 0, .int .i64 0, .int .i64 0, .int .i64 0, .bool false, .slice none 0 0, .int .i64 0, .int .i64 0] 32)) p a len cap := (hcur.only ((Only.refl w.heap.size w).alloc _) (Nat.ne_of_lt hp)).only ((Only.refl (w.heap.size + 1) _).alloc _) (by omega)
  have xb := (boxR_new w 37 #[.slice s.pa s.pn s.pcap, .slice s.sa s.sn s.scap, .int .i64 s.ac, .int .i64 s.cl]).alloc (.cells #[.int .i64 0, .int .i64 0, .int .i64 0, .int .i64 0, .int .i64 0, .int .i64 0, .int .i64 0, .int .i64 0, .int .i64 0, .int .i64 0, .int .i64 0, .int .i64 0, .int .i64 0, .int .i64 0, .int .i64 0, .int .i64 0, .int .i64 0, .int .i64 0, .bool false, .slice none 0 0, .int .i64 0, .int .i64 0] 32)
  have br : BoxR ((w.alloc (.cells #[.slice s.pa s.pn s.pcap, .slice s.sa s.sn s.scap, .int .i64 s.ac, .int .i64 s.cl] 37)).alloc (.cells #[.int .i64 0, .int .i64 0, .int .i64 0, .int .i64 0, .int .i64 0, .int .i64 0, .int .i64 0, .int .i64 0, .int .i64 0, .int .i64 0, .int .i64 0, .int .i64 0, .int .i64 0, .int .i64 0, .int .i64 0, .int .i64 0, .int .i64 0, .int .i64 0, .bool false, .slice none 0 0, .int .i64 0, .int .i64 0] 32)) (w.heap.size + 1) 32 #[.int .i64 0, .int .i64 0, .int .i64 0, .int .i64 0, .int .i64 0, .int .i64 0, .int .i64 0, .int .i64 0, .int .i64 0, .int .i64 0, .int .i64 0, .int .i64 0, .int .i64 0, .int .i64 0, .int .i64 0, .int .i64 0, .int .i64 0, .int .i64 0, .bool false, .slice none 0 0, .int .i64 0, .int .i64 0] := heap_alloc2_new _ _ _
  generalize hW : (w.alloc (.cells #[.slice s.pa s.pn s.pcap, .slice s.sa s.sn s.scap, .int .i64 s.ac, .int .i64 s.cl] 37)).alloc (.cells #[.int .i64 0, .int .i64 0, .int .i64 0, .int .i64 0, .int .i64 0, .int .i64 0, .int .i64 0, .int .i64 0, .int .i64 0, .int .i64 0, .int .i64 0, .int .i64 0, .int .i64 0, .int .i64 0, .int .i64 0, .int .i64 0, .int .i64 0, .int .i64 0, .bool false, .slice none 0 0, .int .i64 0, .int .i64 0] 32) = W at ho0 hk0 xb br
  have hlw : w.heap.size + 1 < W.heap.size := br.lt
  go_enter Tryz.func93, Tryz.ntmps93
  (try simp only [List.append_eq, List.cons_append, List.nil_append])
  go_wp2_with fail
  clear hW hcur
  refine (l1Below_any p a len cap 2 _ (hc.only ho0 hB) hB hk0).mono ?_
  rintro e v0 ⟨si, _, _, rfl, ho, hk⟩
  replace xb := xb.onlyR ho (by omega)
  replace br := br.onlyR ho (by omega)
  replace ho0 := ho0.trans ho
  clear hk0 ho
  go_wp2_with fail
  refine (l1Int_new p a len cap [4, 4, 4, 1, 2, 3, 0] 3 _ (hc.only ho0 hB) hB hk (by decide) (by decide)).mono ?_
  rintro e v1 ⟨cl, _, rfl, ho, hk1⟩
  replace xb := xb.onlyR ho (by omega)
  replace br := br.onlyR ho (by omega)
  replace ho0 := ho0.trans ho
  clear hk ho
  have hlv : w.heap.size + 1 < v1.heap.size := br.lt
  have zx := boxR_new v1 32 #[.int .i64 0, .int .i64 0, .int .i64 0, .int .i64 0, .int .i64 0, .int .i64 0, .int .i64 0, .int .i64 0, .int .i64 0, .int .i64 0, .int .i64 0, .int .i64 0, .int .i64 0, .int .i64 0, .int .i64 0, .int .i64 0, .int .i64 0, .int .i64 0, .bool false, .slice none 0 0, .int .i64 0, .int .i64 0]
  have hb := below_setRow ((Below.refl _ v1).alloc (Nat.le_refl _) (.cells #[.int .i64 0, .int .i64 0, .int .i64 0, .int .i64 0, .int .i64 0, .int .i64 0, .int .i64 0, .int .i64 0, .int .i64 0, .int .i64 0, .int .i64 0, .int .i64 0, .int .i64 0, .int .i64 0, .int .i64 0, .int .i64 0, .int .i64 0, .int .i64 0, .bool false, .slice none 0 0, .int .i64 0, .int .i64 0] 32)) (Nat.le_refl _) #[.int .i64 id, .int .i64 si, .int .i64 0, .int .i64 cl, .int .i64 0, .int .i64 0, .int .i64 0, .int .i64 0, .int .i64 0, .int .i64 0, .int .i64 0, .int .i64 0, .int .i64 0, .int .i64 0, .int .i64 0, .int .i64 0, .int .i64 0, .int .i64 0, .bool false, .slice none 0 0, .int .i64 (-1), .int .i64 (-1)]
  have bg : BoxR ((v1.alloc (.cells #[.int .i64 0, .int .i64 0, .int .i64 0, .int .i64 0, .int .i64 0, .int .i64 0, .int .i64 0, .int .i64 0, .int .i64 0, .int .i64 0, .int .i64 0, .int .i64 0, .int .i64 0, .int .i64 0, .int .i64 0, .int .i64 0, .int .i64 0, .int .i64 0, .bool false, .slice none 0 0, .int .i64 0, .int .i64 0] 32)).setRow v1.heap.size #[.int .i64 id, .int .i64 si, .int .i64 0, .int .i64 cl, .int .i64 0, .int .i64 0, .int .i64 0, .int .i64 0, .int .i64 0, .int .i64 0, .int .i64 0, .int .i64 0, .int .i64 0, .int .i64 0, .int .i64 0, .int .i64 0, .int .i64 0, .int .i64 0, .bool false, .slice none 0 0, .int .i64 (-1), .int .i64 (-1)]) v1.heap.size 32 #[.int .i64 id, .int .i64 si, .int .i64 0, .int .i64 cl, .int .i64 0, .int .i64 0, .int .i64 0, .int .i64 0, .int .i64 0, .int .i64 0, .int .i64 0, .int .i64 0, .int .i64 0, .int .i64 0, .int .i64 0, .int .i64 0, .int .i64 0, .int .i64 0, .bool false, .slice none 0 0, .int .i64 (-1), .int .i64 (-1)] := setRow_heap _ _ _ _ _ _ zx
  have hS : Only p v1 ((v1.alloc (.cells #[.int .i64 0, .int .i64 0, .int .i64 0, .int .i64 0, .int .i64 0, .int .i64 0, .int .i64 0, .int .i64 0, .int .i64 0, .int .i64 0, .int .i64 0, .int .i64 0, .int .i64 0, .int .i64 0, .int .i64 0, .int .i64 0, .int .i64 0, .int .i64 0, .bool false, .slice none 0 0, .int .i64 0, .int .i64 0] 32)).setRow v1.heap.size #[.int .i64 id, .int .i64 si, .int .i64 0, .int .i64 cl, .int .i64 0, .int .i64 0, .int .i64 0, .int .i64 0, .int .i64 0, .int .i64 0, .int .i64 0, .int .i64 0, .int .i64 0, .int .i64 0, .int .i64 0, .int .i64 0, .int .i64 0, .int .i64 0, .bool false, .slice none 0 0, .int .i64 (-1), .int .i64 (-1)]) := ((Only.refl p v1).alloc _).setRow (by omega) _
  have hK : Cur ((v1.alloc (.cells #[.int .i64 0, .int .i64 0, .int .i64 0, .int .i64 0, .int .i64 0, .int .i64 0, .int .i64 0, .int .i64 0, .int .i64 0, .int .i64 0, .int .i64 0, .int .i64 0, .int .i64 0, .int .i64 0, .int .i64 0, .int .i64 0, .int .i64 0, .int .i64 0, .bool false, .slice none 0 0, .int .i64 0, .int .i64 0] 32)).setRow v1.heap.size #[.int .i64 id, .int .i64 si, .int .i64 0, .int .i64 cl, .int .i64 0, .int .i64 0, .int .i64 0, .int .i64 0, .int .i64 0, .int .i64 0, .int .i64 0, .int .i64 0, .int .i64 0, .int .i64 0, .int .i64 0, .int .i64 0, .int .i64 0, .int .i64 0, .bool false, .slice none 0 0, .int .i64 (-1), .int .i64 (-1)]) p a len cap := (hk1.only ((Only.refl v1.heap.size v1).alloc _) (Nat.ne_of_lt hk1.1)).setRow (by have := hk1.1; omega) _
  have hX := hk1.1
  generalize hV : ((v1.alloc (.cells #[.int .i64 0, .int .i64 0, .int .i64 0, .int .i64 0, .int .i64 0, .int .i64 0, .int .i64 0, .int .i64 0, .int .i64 0, .int .i64 0, .int .i64 0, .int .i64 0, .int .i64 0, .int .i64 0, .int .i64 0, .int .i64 0, .int .i64 0, .int .i64 0, .bool false, .slice none 0 0, .int .i64 0, .int .i64 0] 32)).setRow v1.heap.size #[.int .i64 id, .int .i64 si, .int .i64 0, .int .i64 cl, .int .i64 0, .int .i64 0, .int .i64 0, .int .i64 0, .int .i64 0, .int .i64 0, .int .i64 0, .int .i64 0, .int .i64 0, .int .i64 0, .int .i64 0, .int .i64 0, .int .i64 0, .int .i64 0, .bool false, .slice none 0 0, .int .i64 (-1), .int .i64 (-1)]) = V at hb bg hS hK
  have i_0 : inI64 0 := by unfold inI64; omega
  have i_1 : inI64 (-1) := by unfold inI64; omega
  have H : DE w p a len cap s v1.heap.size (⟨id, si, 0, cl, ⟨0, 0, 0, 0, 0, 0, 0⟩, ⟨0, 0⟩, ⟨0, 0, 0, 0, 0, false, none, 0, 0, 0, fun _ => zE⟩, -1, -1⟩ : Ef) V := ⟨ho0.trans hS, hK, hp, hlv, xb.grew hb, br.grew hb, bg, World.ownsRow_nil _ _ _ _, ⟨i_1, ⟨⟨i_0, i_0, i_0, i_0, i_0⟩, fun i hi => by simp at hi⟩, Nat.zero_le _⟩⟩
  clear hb bg hS hK ho0 hk1 xb br hlw
  go_upto_region 2 with (refine wpList_store_row rfl 32 (.tmp 7) _ rfl (v1.heap.size) #[.int .i64 id, .int .i64 si, .int .i64 0, .int .i64 cl, .int .i64 0, .int .i64 0, .int .i64 0, .int .i64 0, .int .i64 0, .int .i64 0, .int .i64 0, .int .i64 0, .int .i64 0, .int .i64 0, .int .i64 0, .int .i64 0, .int .i64 0, .int .i64 0, .bool false, .slice none 0 0, .int .i64 (-1), .int .i64 (-1)] (by rfl) (by rfl) _ _ zx (by kernel_rfl) (by rfl) (by simp [Value.oneCell']) ?_; rw [hV])
  clear zx hV
  generalize v1.heap.size = g at H hlv hX ⊢
  generalize (⟨id, si, 0, cl, ⟨0, 0, 0, 0, 0, 0, 0⟩, ⟨0, 0⟩, ⟨0, 0, 0, 0, 0, false, none, 0, 0, 0, fun _ => zE⟩, -1, -1⟩ : Ef) = t at H
  clear hlv hX i_0 i_1
  as_aux_lemma =>
    simp only [Act.put]
    go_cut [21] (fun sx wc => ∃ b : Bool, sx = .bool b ∧ DE w p a len cap s g t wc)
    case first =>
      have k3 := H.bg.cell 3
      simp at k3
      cases hcl0 : (t.cl == 0)
      case true =>
        go_wp2_with fail
        go_meet
        case rel => exact ⟨_, rfl, H⟩
      case false =>
        go_wp2_with fail
        refine (l1Once_any p a len cap _ _ (hc.only H.only hB) hB H.cur).mono ?_
        rintro e y1_ ⟨b, rfl, ho, hk⟩
        replace H := H.draw ho hk
        clear ho hk
        clear k3
        go_wp2_with fail
        go_meet
        case rel => exact ⟨_, rfl, H⟩
    case rest =>
      clear H
      obtain ⟨b, rfl, H⟩ := hcut
      go_upto_if 21 with fail
      go_cut [] (fun wc => ∃ t : Ef, DE w p a len cap s g t wc)
      case first =>
        cases b
        case false =>
          go_wp2_with fail
          go_meet
          case rel => exact ⟨_, H⟩
        case true =>
          have X0 := H.bx.cell 0
          have X1 := H.bx.cell 1
          have X2 := H.bx.cell 2
          have X3 := H.bx.cell 3
          simp at X0 X1 X2 X3
          go_wp2_with fail
          refine (l6Id_any p a len cap s _ (hc.only H.only hB) hB H.cur hs (hrw.only H.only hC) hC).mono ?_
          rintro e y2_ ⟨x, i_x, rfl, ho, hk⟩
          replace H := H.draw ho hk
          clear ho hk
          clear X0 X1 X2 X3
          have kj := H.bg.cell 2
          simp at kj
          have fj := H.bg.froz 2
          have H' := H.putSr (x := x)
          clear H
          go_wp2_with fail
          go_meet
          case rel => exact ⟨_, H'⟩
      case rest =>
        clear H
        obtain ⟨t, H⟩ := hcut
        as_aux_lemma =>
          have X0 := H.bx.cell 0
          have X1 := H.bx.cell 1
          have X2 := H.bx.cell 2
          have X3 := H.bx.cell 3
          simp at X0 X1 X2 X3
          go_wp2_with fail
          refine (l7Draw_any p a len cap s _ (hc.only H.only hB) hB H.cur hs (hrw.only H.only hC) hC).mono ?_
          rintro e y3_ ⟨q, qwf, rfl, ho, hk⟩
          replace H := H.draw ho hk
          clear ho hk
          clear X0 X1 X2 X3
          have ht : y3_.there g 4 7 := H.bg.thereL (by simp)
          have H' := H.putP q
          clear H
          generalize hU : y3_.setCells g 4 (#[.int .i64 q.kd, .int .i64 q.wh, .int .i64 q.sr, .int .i64 q.tr, .int .i64 q.pi, .int .i64 q.le, .int .i64 q.zo] : Array Value).toList = y4_ at H'
          go_upto_region 5 with (refine wpList_store_mid rfl 25 (.tmp 29) (.tmp 28) rfl g 4 #[.int .i64 q.kd, .int .i64 q.wh, .int .i64 q.sr, .int .i64 q.tr, .int .i64 q.pi, .int .i64 q.le, .int .i64 q.zo] (by first | rfl | simp [Act.eval]) rfl ht (by kernel_rfl) (by simp [Value.oneCell']) ?_; rw [hU])
          clear ht hU
          generalize (⟨t.id, t.si, t.sr, t.cl, q, t.gd, t.ac, t.un, t.le⟩ : Ef) = t1 at H'
          have H := H'
          clear H'
          try clear t
          as_aux_lemma =>
            clear qwf
            go_wp2_with fail
            refine (l8Draw_any p a len cap _ (hc.only H.only hB) hB H.cur).mono ?_
            rintro e y5_ ⟨q, rfl, ho, hk⟩
            replace H := H.draw ho hk
            clear ho hk
            have ht : y5_.there g 11 2 := H.bg.thereL (by simp)
            have H' := H.putG q
            clear H
            generalize hU : y5_.setCells g 11 (#[.int .i64 q.kd, .int .i64 q.nn] : Array Value).toList = y6_ at H'
            go_upto_region 6 with (refine wpList_store_mid rfl 27 (.tmp 32) (.tmp 31) rfl g 11 #[.int .i64 q.kd, .int .i64 q.nn] (by first | rfl | simp [Act.eval]) rfl ht (by kernel_rfl) (by simp [Value.oneCell']) ?_; rw [hU])
            clear ht hU
            generalize (⟨t1.id, t1.si, t1.sr, t1.cl, t1.pt, q, t1.ac, t1.un, t1.le⟩ : Ef) = t2 at H'
            have H := H'
            clear H'
            try clear t1
            as_aux_lemma =>
              have k4 := H.bg.cell 4
              simp at k4
              have X0 := H.bx.cell 0
              have X1 := H.bx.cell 1
              have X2 := H.bx.cell 2
              have X3 := H.bx.cell 3
              simp at X0 X1 X2 X3
              go_wp2_with fail
              refine (l9Draw_any p a len cap s t2.pt.kd _ (hc.only H.only hB) hB H.cur hs (hrw.only H.only hC) hC).mono ?_
              rintro e y7_ ⟨q, twf, tl2, rfl, ho, hk, hra⟩
              have hBs : w.heap.size ≤ y6_.heap.size := H.only.size
              replace H := H.draw ho hk
              clear ho hk
              have tl : q.ln ≤ 5 := by omega
              clear X0 X1 X2 X3 k4 tl2
              have ht : y7_.there g 13 7 := H.bg.thereL (by simp)
              have H' := H.putA hra hBs twf tl
              clear H
              generalize hU : y7_.setCells g 13 (#[.int .i64 q.kd, .int .i64 q.nn, .int .i64 q.pi, .int .i64 q.si, .int .i64 q.zo, .bool q.be, .slice q.la q.ln q.lcap] : Array Value).toList = y8_ at H'
              go_upto_region 7 with (refine wpList_store_mid rfl 30 (.tmp 39) (.tmp 38) rfl g 13 #[.int .i64 q.kd, .int .i64 q.nn, .int .i64 q.pi, .int .i64 q.si, .int .i64 q.zo, .bool q.be, .slice q.la q.ln q.lcap] (by first | rfl | simp [Act.eval]) rfl ht (by kernel_rfl) (by simp [Value.oneCell']) ?_; rw [hU])
              clear ht hU
              generalize (⟨t2.id, t2.si, t2.sr, t2.cl, t2.pt, t2.gd, q, t2.un, t2.le⟩ : Ef) = t3 at H'
              have H := H'
              clear H'
              try clear t2
              clear twf tl hra hBs
              as_aux_lemma =>
                go_wp2_with fail
                refine (l1Once_any p a len cap _ _ (hc.only H.only hB) hB H.cur).mono ?_
                rintro e y9_ ⟨b, rfl, ho, hk⟩
                replace H := H.draw ho hk
                clear ho hk
                go_upto_if 41 with fail
                go_cut [] (fun wc => ∃ t : Ef, DE w p a len cap s g t wc)
                case first =>
                  cases b
                  case false =>
                    go_wp2_with fail
                    go_meet
                    case rel => exact ⟨_, H⟩
                  case true =>
                    go_wp2_with fail
                    have H0 := H.drew
                    clear H
                    have SK : Hid (∀ u : World, BoxR u w.heap.size 37 #[.slice s.pa s.pn s.pcap, .slice s.sa s.sn s.scap, .int .i64 s.ac, .int .i64 s.cl] → u.cell? ⟨w.heap.size, 3, none⟩ = some (.int .i64 s.cl)) := fun u h => h.cell 3
                    refine wp_region_held_drew (S := fun u : World => u.cell? ⟨w.heap.size, 3, none⟩ = some (.int .i64 s.cl)) (by kernel_rfl) (SK.out _ H0.bx) (fun hHeld => ?_)
                    refine wpAnyH_take (i := 0) (oi := ⟨some 42, _, _, _, _, _⟩) (v := .pointer (some ⟨w.heap.size, 3, none⟩)) rfl (by kernel_rfl) (by kernel_rfl) (by kernel_rfl) (fun _ _ _ h => h) (Or.inl ⟨by kernel_rfl, fun u hSu => by (try dsimp only at hSu); go_simp⟩) hHeld ?_
                    try simp only [Act.put, List.setIfInBounds_toArray, List.set_cons_zero, List.set_cons_succ]
                    refine wpAnyH_take (i := 1) (oi := ⟨some 43, _, _, _, _, _⟩) (v := .int .i64 s.cl) rfl (by kernel_rfl) (by kernel_rfl) (by kernel_rfl) (fun _ _ _ h => h) (Or.inl ⟨by kernel_rfl, fun u hSu => by (try dsimp only at hSu); go_simp⟩) hHeld ?_
                    try simp only [Act.put, List.setIfInBounds_toArray, List.set_cons_zero, List.set_cons_succ]
                    refine wpAnyH_take (i := 2) (oi := ⟨some 44, _, _, _, _, _⟩) (v := .pointer (some ⟨p, 0, none⟩)) rfl (by kernel_rfl) (by kernel_rfl) (by kernel_rfl) (fun _ _ _ h => h) (Or.inl ⟨by kernel_rfl, fun u hSu => by (try dsimp only at hSu); go_simp⟩) hHeld ?_
                    try simp only [Act.put, List.setIfInBounds_toArray, List.set_cons_zero, List.set_cons_succ]
                    refine wpAnyH_ready (rs := [3]) (by kernel_rfl) (by simp) ?_
                    refine AllReadyH.cons rfl (fun K' hK => ?_) AllReadyH.nil
                    go_simp
                    go_at_call 52
                    refine (l1Below_any p a len cap 3 _ (hc.only H0.only hB) hB H0.cur).mono ?_
                    rintro e y10_ ⟨x, n0_, n1_, rfl, ho, hk⟩
                    have n2_ := n1_ (by omega)
                    have H := H0.draw ho hk
                    clear H0 ho hk n1_
                    refine hK.out _ _ (SK.out _ H.bx) (fun hHeld => ?_)
                    clear hK
                    try simp only [Act.put, List.setIfInBounds_toArray, List.set_cons_zero, List.set_cons_succ]
                    have i_1 : -9223372036854775808 ≤ s.cl + x ∧ s.cl + x ≤ 9223372036854775807 := by omega
                    have i_2 : -9223372036854775808 ≤ s.cl + x - 1 ∧ s.cl + x - 1 ≤ 9223372036854775807 := by omega
                    refine wpAnyH_take (i := 4) (oi := ⟨some 46, _, _, _, _, _⟩) (v := .int .i64 (s.cl + x)) rfl (by kernel_rfl) (by kernel_rfl) (by kernel_rfl) (fun _ _ _ h => h) (Or.inl ⟨by kernel_rfl, fun u hSu => by (try dsimp only at hSu); go_simp; first | done | go_num | (rw [IntKind.wrap_i64]; omega) | (congr 1; rw [IntKind.wrap_i64]; omega) | (simp [IntKind.wrap_i64]; omega)⟩) hHeld ?_
                    try simp only [Act.put, List.setIfInBounds_toArray, List.set_cons_zero, List.set_cons_succ]
                    refine wpAnyH_take (i := 5) (oi := ⟨some 47, _, _, _, _, _⟩) (v := .int .i64 (s.cl + x - 1)) rfl (by kernel_rfl) (by kernel_rfl) (by kernel_rfl) (fun _ _ _ h => h) (Or.inl ⟨by kernel_rfl, fun u hSu => by (try dsimp only at hSu); go_simp; first | done | go_num | (rw [IntKind.wrap_i64]; omega) | (congr 1; rw [IntKind.wrap_i64]; omega) | (simp [IntKind.wrap_i64]; omega)⟩) hHeld ?_
                    try simp only [Act.put, List.setIfInBounds_toArray, List.set_cons_zero, List.set_cons_succ]
                    refine wpAnyH_take (i := 6) (oi := ⟨some 48, _, _, _, _, _⟩) (v := .pointer (some ⟨g, 20, none⟩)) rfl (by kernel_rfl) (by kernel_rfl) (by kernel_rfl) (fun _ _ _ h => h) (Or.inl ⟨by kernel_rfl, fun u hSu => by (try dsimp only at hSu); go_simp⟩) hHeld ?_
                    try simp only [Act.put, List.setIfInBounds_toArray, List.set_cons_zero, List.set_cons_succ]
                    have kj := H.bg.cell 20
                    simp at kj
                    have fj := H.bg.froz 20
                    have H' := H.putUn (x := s.cl + x - 1)
                    refine wpAnyH_ready (rs := [7]) (by kernel_rfl) (by simp) ?_
                    refine AllReadyH.cons rfl (fun K' hK => ?_) AllReadyH.nil
                    go_simp
                    refine hK.out _ _ (SK.out _ H'.bx) (fun hHeld => ?_)
                    clear hK
                    try simp only [Act.put, List.setIfInBounds_toArray, List.set_cons_zero, List.set_cons_succ]
                    refine wpAnyH_done (by kernel_rfl) ?_ _
                    clear hHeld SK kj fj H
                    go_wp2_with fail
                    go_meet
                    case rel => exact ⟨_, H'⟩
                case rest =>
                  clear H
                  obtain ⟨t, H⟩ := hcut
                  as_aux_lemma =>
                    have k13 := H.bg.cell 13
                    simp at k13
                    go_upto_if 52 with fail
                    clear k13
                    go_cut [] (fun wc => ∃ t : Ef, DE w p a len cap s g t wc)
                    case first =>
                      cases hsh : (t.ac.kd == 2)
                      case true =>
                        go_wp2_with (refine wpL_build4 _ _ _ _ ?_)
                        refine (l1Int_new p a len cap [1, 2, 3, 5] 3 _ (hc.only H.only hB) hB H.cur (by decide) (by decide)).mono ?_
                        rintro e y11_ ⟨x, m_, rfl, ho, hk⟩
                        have i_x : inI64 x := list_in _ (by decide) x m_
                        replace H := H.draw ho hk
                        clear ho hk
                        clear m_
                        have kj := H.bg.cell 21
                        simp at kj
                        have fj := H.bg.froz 21
                        have H' := H.putLe i_x
                        clear H
                        go_wp2_with fail
                        go_meet
                        case rel => exact ⟨_, H'⟩
                      case false =>
                        go_wp2_with fail
                        refine (l1Once_any p a len cap _ _ (hc.only H.only hB) hB H.cur).mono ?_
                        rintro e y12_ ⟨b, rfl, ho, hk⟩
                        replace H := H.draw ho hk
                        clear ho hk
                        cases b
                        case false =>
                          go_wp2_with fail
                          go_meet
                          case rel => exact ⟨_, H⟩
                        case true =>
                          go_wp2_with fail
                          refine (l1Below_any p a len cap 3 _ (hc.only H.only hB) hB H.cur).mono ?_
                          rintro e y13_ ⟨y, n0_, n1_, rfl, ho, hk⟩
                          have n2_ := n1_ (by omega)
                          replace H := H.draw ho hk
                          clear ho hk
                          have hy : -9223372036854775808 ≤ 1 + y ∧ 1 + y ≤ 9223372036854775807 := by omega
                          have i_x : inI64 (1 + y) := hy
                          have kj := H.bg.cell 21
                          simp at kj
                          have fj := H.bg.froz 21
                          have H' := H.putLe i_x
                          clear H
                          go_wp2_with fail
                          go_meet
                          case rel => exact ⟨_, H'⟩
                    case rest =>
                      clear H
                      obtain ⟨t, H⟩ := hcut
                      as_aux_lemma =>
                        go_wp2_with first | (refine wpList_load_row rfl 32 _ rfl g (by rfl) _ _ _ _ H.bg Tryz.underlying32 rfl (by kernel_rfl) ?_) | (refine wpList_store_row rfl 32 (.tmp 6) _ rfl (w.heap.size + 1) _ (by rfl) (by rfl) _ _ H.br (by kernel_rfl) (by rfl) (by simp [Value.oneCell']) ?_)
                        (try simp only [Exit.inBlock, Exit.then]); refine bodyPost_ret (results_cell_row rfl _ _ (w.heap.size + 1) _ _ _ _ rfl (setRow_heap _ _ _ _ _ _ H.br) Tryz.underlying32 rfl (by kernel_rfl)) rfl ?_
                        exact ⟨t, H.wf, rfl, H.only.setRow (by omega) _, H.cur.setRow (by omega) _, row_setRow' H.rw (own_ne H.rw H.br (by decide)) _⟩
end Go.Proofs.YtodfdfncdoliiadGreat
namespace Go.Proofs.YtodfdfncdoliiadGreat
open Go.ChangeShapes Go.WideShapes Go.ChangeAt Go.RowKit
set_option maxRecDepth 100000
set_option linter.unusedVariables false
set_option linter.unusedSimpArgs false

/-- while the effect's first draw is under way -/
structure D1 (w : World) (p : Nat) (a : Option Addr) (len cap : Nat) (s : Stt) (u : World) : Prop where
  only : Only p w u
  cur : Cur u p a len cap
  pr : p < w.heap.size
  bx : BoxR u w.heap.size 37 #[.slice s.pa s.pn s.pcap, .slice s.sa s.sn s.scap, .int .i64 s.ac, .int .i64 s.cl]
  br : BoxR u (w.heap.size + 1) 32 #[.int .i64 0, .int .i64 0, .int .i64 0, .int .i64 0, .int .i64 0, .int .i64 0, .int .i64 0, .int .i64 0, .int .i64 0, .int .i64 0, .int .i64 0, .int .i64 0, .int .i64 0, .int .i64 0, .int .i64 0, .int .i64 0, .int .i64 0, .int .i64 0, .bool false, .slice none 0 0, .int .i64 0, .int .i64 0]
theorem D1.draw {w : World} {p : Nat} {a : Option Addr} {len cap : Nat} {s : Stt} {u u' : World} (h : D1 w p a len cap s u) (ho : Only p u u') (hk : Cur u' p a len cap) : D1 w p a len cap s u' :=
  have h1 := h.pr
  ⟨h.only.trans ho, hk, h.pr, h.bx.onlyR ho (by omega), h.br.onlyR ho (by omega)⟩
theorem D1.alloc {w : World} {p : Nat} {a : Option Addr} {len cap : Nat} {s : Stt} {u : World} (h : D1 w p a len cap s u) (o : Obj) : D1 w p a len cap s (u.alloc o) :=
  ⟨h.only.alloc o, h.cur.only ((Only.refl u.heap.size u).alloc o) (Nat.ne_of_lt h.cur.1), h.pr, h.bx.alloc o, h.br.alloc o⟩
theorem D1.drew {w : World} {p : Nat} {a : Option Addr} {len cap : Nat} {s : Stt} {u : World} (h : D1 w p a len cap s u) : D1 w p a len cap s u.drew := ⟨h.only.drew, h.cur, h.pr, h.bx, h.br⟩
/-- the effect that was drawn, stored where it was made room for -/
theorem D1.fill {w : World} {p : Nat} {a : Option Addr} {len cap : Nat} {s : Stt} {u : World} {t : Ef} {g B : Nat} (h : D1 w p a len cap s u) (bg : BoxR u g 32 #[.int .i64 0, .int .i64 0, .int .i64 0, .int .i64 0, .int .i64 0, .int .i64 0, .int .i64 0, .int .i64 0, .int .i64 0, .int .i64 0, .int .i64 0, .int .i64 0, .int .i64 0, .int .i64 0, .int .i64 0, .int .i64 0, .int .i64 0, .int .i64 0, .bool false, .slice none 0 0, .int .i64 0, .int .i64 0]) (hg : w.heap.size + 1 < g) (hr : RowA u B t.ac) (hB : w.heap.size ≤ B) (hw : EW t) : DE w p a len cap s g t (u.setRow g #[.int .i64 t.id, .int .i64 t.si, .int .i64 t.sr, .int .i64 t.cl, .int .i64 t.pt.kd, .int .i64 t.pt.wh, .int .i64 t.pt.sr, .int .i64 t.pt.tr, .int .i64 t.pt.pi, .int .i64 t.pt.le, .int .i64 t.pt.zo, .int .i64 t.gd.kd, .int .i64 t.gd.nn, .int .i64 t.ac.kd, .int .i64 t.ac.nn, .int .i64 t.ac.pi, .int .i64 t.ac.si, .int .i64 t.ac.zo, .bool t.ac.be, .slice t.ac.la t.ac.ln t.ac.lcap, .int .i64 t.un, .int .i64 t.le]) :=
  have h1 := h.pr
  ⟨h.only.setRow (by omega) _, h.cur.setRow (by omega) _, h.pr, hg, oldRow9 h.bx (by omega), oldRow9 h.br (by omega), setRow_heap _ _ _ _ _ _ bg, row_setRow' (RowA.down hr hB) (own_ne hr bg (by decide)) _, hw⟩
set_option maxHeartbeats 40000000 in
theorem l10Any_any (p : Nat) (a : Option Addr) (len cap : Nat) (s : Stt) (w : World) {B C : Nat} (hc : Code w a len B) (hB : B ≤ p) (hcur : Cur w p a len cap) (hs : anS s) (hcl : 0 ≤ s.cl ∧ s.cl ≤ 10000) (hrw : RowsT w C s) (hC : p < C) :
    Calls Tryz.prog 45 #[.pointer (some ⟨p, 0, none⟩), (.agg #[.slice s.pa s.pn s.pcap, .slice s.sa s.sn s.scap, .int .i64 s.ac, .int .i64 s.cl])] w fun e w' => ∃ t : Ef, EW t ∧ e = .returned (.agg #[.int .i64 t.id, .int .i64 t.si, .int .i64 t.sr, .int .i64 t.cl, .int .i64 t.pt.kd, .int .i64 t.pt.wh, .int .i64 t.pt.sr, .int .i64 t.pt.tr, .int .i64 t.pt.pi, .int .i64 t.pt.le, .int .i64 t.pt.zo, .int .i64 t.gd.kd, .int .i64 t.gd.nn, .int .i64 t.ac.kd, .int .i64 t.ac.nn, .int .i64 t.ac.pi, .int .i64 t.ac.si, .int .i64 t.ac.zo, .bool t.ac.be, .slice t.ac.la t.ac.ln t.ac.lcap, .int .i64 t.un, .int .i64 t.le]) ∧ Only p w w' ∧ Cur w' p a len cap ∧ RowA w' w.heap.size t.ac := by
  have hp : p < w.heap.size := hcur.1
  have xb := (boxR_new w 37 #[.slice s.pa s.pn s.pcap, .slice s.sa s.sn s.scap, .int .i64 s.ac, .int .i64 s.cl]).alloc (.cells #[.int .i64 0, .int .i64 0, .int .i64 0, .int .i64 0, .int .i64 0, .int .i64 0, .int .i64 0, .int .i64 0, .int .i64 0, .int .i64 0, .int .i64 0, .int .i64 0, .int .i64 0, .int .i64 0, .int .i64 0, .int .i64 0, .int .i64 0, .int .i64 0, .bool false, .slice none 0 0, .int .i64 0, .int .i64 0] 32)
  have br : BoxR ((w.alloc (.cells #[.slice s.pa s.pn s.pcap, .slice s.sa s.sn s.scap, .int .i64 s.ac, .int .i64 s.cl] 37)).alloc (.cells #[.int .i64 0, .int .i64 0, .int .i64 0, .int .i64 0, .int .i64 0, .int .i64 0, .int .i64 0, .int .i64 0, .int .i64 0, .int .i64 0, .int .i64 0, .int .i64 0, .int .i64 0, .int .i64 0, .int .i64 0, .int .i64 0, .int .i64 0, .int .i64 0, .bool false, .slice none 0 0, .int .i64 0, .int .i64 0] 32)) (w.heap.size + 1) 32 #[.int .i64 0, .int .i64 0, .int .i64 0, .int .i64 0, .int .i64 0, .int .i64 0, .int .i64 0, .int .i64 0, .int .i64 0, .int .i64 0, .int .i64 0, .int .i64 0, .int .i64 0, .int .i64 0, .int .i64 0, .int .i64 0, .int .i64 0, .int .i64 0, .bool false, .slice none 0 0, .int .i64 0, .int .i64 0] := heap_alloc2_new _ _ _
  have h0 : D1 w p a len cap s ((w.alloc (.cells #[.slice s.pa s.pn s.pcap, .slice s.sa s.sn s.scap, .int .i64 s.ac, .int .i64 s.cl] 37)).alloc (.cells #[.int .i64 0, .int .i64 0, .int .i64 0, .int .i64 0, .int .i64 0, .int .i64 0, .int .i64 0, .int .i64 0, .int .i64 0, .int .i64 0, .int .i64 0, .int .i64 0, .int .i64 0, .int .i64 0, .int .i64 0, .int .i64 0, .int .i64 0, .int .i64 0, .bool false, .slice none 0 0, .int .i64 0, .int .i64 0] 32)) := ⟨((Only.refl p w).alloc _).alloc _, (hcur.only ((Only.refl w.heap.size w).alloc _) (Nat.ne_of_lt hp)).only ((Only.refl (w.heap.size + 1) _).alloc _) (by omega), hp, xb, br⟩
  clear xb br
  generalize hW : (w.alloc (.cells #[.slice s.pa s.pn s.pcap, .slice s.sa s.sn s.scap, .int .i64 s.ac, .int .i64 s.cl] 37)).alloc (.cells #[.int .i64 0, .int .i64 0, .int .i64 0, .int .i64 0, .int .i64 0, .int .i64 0, .int .i64 0, .int .i64 0, .int .i64 0, .int .i64 0, .int .i64 0, .int .i64 0, .int .i64 0, .int .i64 0, .int .i64 0, .int .i64 0, .int .i64 0, .int .i64 0, .bool false, .slice none 0 0, .int .i64 0, .int .i64 0] 32) = W at h0
  have hlw : w.heap.size + 1 < W.heap.size := h0.br.lt
  have SK : Hid (∀ u : World, BoxR u w.heap.size 37 #[.slice s.pa s.pn s.pcap, .slice s.sa s.sn s.scap, .int .i64 s.ac, .int .i64 s.cl] → u.cell? ⟨w.heap.size, 0, none⟩ = some (.slice s.pa s.pn s.pcap) ∧ u.cell? ⟨w.heap.size, 1, none⟩ = some (.slice s.sa s.sn s.scap) ∧ u.cell? ⟨w.heap.size, 2, none⟩ = some (.int .i64 s.ac) ∧ u.cell? ⟨w.heap.size, 3, none⟩ = some (.int .i64 s.cl)) := fun u h => ⟨h.cell 0, h.cell 1, h.cell 2, h.cell 3⟩
  go_enter Tryz.func45, Tryz.ntmps45
  (try simp only [List.append_eq, List.cons_append, List.nil_append])
  go_wp2_with fail
  clear hW hcur
  refine wp_cutT (fun x : Int × Nat × Value => [(6, .pointer (some ⟨p, 0, none⟩)), (7, (.agg #[.slice s.pa s.pn s.pcap, .slice s.sa s.sn s.scap, .int .i64 s.ac, .int .i64 s.cl])), (8, .pointer (some ⟨p, 0, none⟩)), (9, .int .i64 x.1), (10, .int .i64 (1 + x.1)), (11, x.2.2), (5, .pointer (some ⟨x.2.1, 0, none⟩))]) (fun x u => ∃ t : Ef, DE w p a len cap s x.2.1 t u) ?_ ?_
  · have hD := h0.drew
    refine wp_region_held_drew (S := fun u : World => u.cell? ⟨w.heap.size, 0, none⟩ = some (.slice s.pa s.pn s.pcap) ∧ u.cell? ⟨w.heap.size, 1, none⟩ = some (.slice s.sa s.sn s.scap) ∧ u.cell? ⟨w.heap.size, 2, none⟩ = some (.int .i64 s.ac) ∧ u.cell? ⟨w.heap.size, 3, none⟩ = some (.int .i64 s.cl)) (by kernel_rfl) (SK.out _ hD.bx) (fun hHeld => ?_)
    refine wpAnyH_take (i := 0) (oi := ⟨some 6, _, _, _, _, _⟩) (v := .pointer (some ⟨p, 0, none⟩)) rfl (by kernel_rfl) (by kernel_rfl) (by kernel_rfl) (fun _ _ _ h => h) (Or.inl ⟨by kernel_rfl, fun u hSu => by (try dsimp only at hSu); go_simp⟩) hHeld ?_
    try simp only [Act.put, List.setIfInBounds_toArray, List.set_cons_zero, List.set_cons_succ]
    refine wpAnyH_take (i := 1) (oi := ⟨some 7, _, _, _, _, _⟩) (v := (.agg #[.slice s.pa s.pn s.pcap, .slice s.sa s.sn s.scap, .int .i64 s.ac, .int .i64 s.cl])) rfl (by kernel_rfl) (by kernel_rfl) (by kernel_rfl) (fun _ _ _ h => h) (Or.inl ⟨by kernel_rfl, fun u hSu => by (try dsimp only at hSu); go_simp⟩) hHeld ?_
    try simp only [Act.put, List.setIfInBounds_toArray, List.set_cons_zero, List.set_cons_succ]
    refine wpAnyH_take (i := 2) (oi := ⟨some 8, _, _, _, _, _⟩) (v := .pointer (some ⟨p, 0, none⟩)) rfl (by kernel_rfl) (by kernel_rfl) (by kernel_rfl) (fun _ _ _ h => h) (Or.inl ⟨by kernel_rfl, fun u hSu => by (try dsimp only at hSu); go_simp⟩) hHeld ?_
    try simp only [Act.put, List.setIfInBounds_toArray, List.set_cons_zero, List.set_cons_succ]
    refine wpAnyH_ready (rs := [3, 6]) (by kernel_rfl) (by simp) ?_
    refine AllReadyH.cons rfl (fun K' hK => ?_) (AllReadyH.cons rfl (fun K' hK => ?_) (AllReadyH.nil))
    · go_simp
      go_at_call 52
      refine (l1Below_any p a len cap _ _ (hc.only hD.only hB) hB hD.cur).mono ?_
      rintro e y1_ ⟨x, n0_, n1_, rfl, ho, hk⟩
      have n2_ := n1_ (by omega)
      have i_x : inI64 (1 + x) := by unfold inI64; omega
      have hdy1_ := hD.draw ho hk
      clear ho hk n1_
      refine hK.out _ _ (SK.out _ hdy1_.bx) (fun hHeld => ?_)
      clear hK
      try simp only [Act.put, List.setIfInBounds_toArray, List.set_cons_zero, List.set_cons_succ]
      refine wpAnyH_take (i := 4) (oi := ⟨some 10, _, _, _, _, _⟩) (v := .int .i64 (1 + x)) rfl (by kernel_rfl) (by kernel_rfl) (by kernel_rfl) (fun _ _ _ h => h) (Or.inl ⟨by kernel_rfl, fun u hSu => by (try dsimp only at hSu); go_simp; first | done | go_num | (rw [IntKind.wrap_i64]; omega)⟩) hHeld ?_
      try simp only [Act.put, List.setIfInBounds_toArray, List.set_cons_zero, List.set_cons_succ]
      refine wpAnyH_ready (rs := [5, 6]) (by kernel_rfl) (by simp) ?_
      refine AllReadyH.cons rfl (fun K' hK => ?_) (AllReadyH.cons rfl (fun K' hK => ?_) (AllReadyH.nil))
      · go_simp
        go_at_call 93
        refine (l10Draw_any p a len cap s _ _ (hc.only hdy1_.only hB) hB hdy1_.cur hs hcl (hrw.only hdy1_.only hC) hC).mono ?_
        rintro e y2_ ⟨t, twf, rfl, ho, hk, hra⟩
        have hdy2_ := hdy1_.draw ho hk
        have hz : w.heap.size ≤ y1_.heap.size := hdy1_.only.size
        clear ho hk
        refine hK.out _ _ (SK.out _ hdy2_.bx) (fun hHeld => ?_)
        clear hK
        try simp only [Act.put, List.setIfInBounds_toArray, List.set_cons_zero, List.set_cons_succ]
        refine wpAnyH_ready (rs := [6]) (by kernel_rfl) (by simp) ?_
        refine AllReadyH.cons rfl (fun K' hK => ?_) AllReadyH.nil
        have ha40 : D1 w p a len cap s (y2_.alloc (.cells #[.int .i64 0, .int .i64 0, .int .i64 0, .int .i64 0, .int .i64 0, .int .i64 0, .int .i64 0, .int .i64 0, .int .i64 0, .int .i64 0, .int .i64 0, .int .i64 0, .int .i64 0, .int .i64 0, .int .i64 0, .int .i64 0, .int .i64 0, .int .i64 0, .bool false, .slice none 0 0, .int .i64 0, .int .i64 0] 32)) := hdy2_.alloc (.cells #[.int .i64 0, .int .i64 0, .int .i64 0, .int .i64 0, .int .i64 0, .int .i64 0, .int .i64 0, .int .i64 0, .int .i64 0, .int .i64 0, .int .i64 0, .int .i64 0, .int .i64 0, .int .i64 0, .int .i64 0, .int .i64 0, .int .i64 0, .int .i64 0, .bool false, .slice none 0 0, .int .i64 0, .int .i64 0] 32)
        have bg : BoxR (y2_.alloc (.cells #[.int .i64 0, .int .i64 0, .int .i64 0, .int .i64 0, .int .i64 0, .int .i64 0, .int .i64 0, .int .i64 0, .int .i64 0, .int .i64 0, .int .i64 0, .int .i64 0, .int .i64 0, .int .i64 0, .int .i64 0, .int .i64 0, .int .i64 0, .int .i64 0, .bool false, .slice none 0 0, .int .i64 0, .int .i64 0] 32)) y2_.heap.size 32 #[.int .i64 0, .int .i64 0, .int .i64 0, .int .i64 0, .int .i64 0, .int .i64 0, .int .i64 0, .int .i64 0, .int .i64 0, .int .i64 0, .int .i64 0, .int .i64 0, .int .i64 0, .int .i64 0, .int .i64 0, .int .i64 0, .int .i64 0, .int .i64 0, .bool false, .slice none 0 0, .int .i64 0, .int .i64 0] := boxR_new y2_ 32 #[.int .i64 0, .int .i64 0, .int .i64 0, .int .i64 0, .int .i64 0, .int .i64 0, .int .i64 0, .int .i64 0, .int .i64 0, .int .i64 0, .int .i64 0, .int .i64 0, .int .i64 0, .int .i64 0, .int .i64 0, .int .i64 0, .int .i64 0, .int .i64 0, .bool false, .slice none 0 0, .int .i64 0, .int .i64 0]
        have hgz : w.heap.size + 1 < y2_.heap.size := hdy2_.br.lt
        replace hra := hra.grew (below_new2'' (y2_) (.cells #[.int .i64 0, .int .i64 0, .int .i64 0, .int .i64 0, .int .i64 0, .int .i64 0, .int .i64 0, .int .i64 0, .int .i64 0, .int .i64 0, .int .i64 0, .int .i64 0, .int .i64 0, .int .i64 0, .int .i64 0, .int .i64 0, .int .i64 0, .int .i64 0, .bool false, .slice none 0 0, .int .i64 0, .int .i64 0] 32))
        go_simp
        refine hK.out _ _ (SK.out _ ha40.bx) (fun hHeld => ?_)
        clear hK
        try simp only [Act.put, List.setIfInBounds_toArray, List.set_cons_zero, List.set_cons_succ]
        generalize hGy3_ : (y2_.alloc (.cells #[.int .i64 0, .int .i64 0, .int .i64 0, .int .i64 0, .int .i64 0, .int .i64 0, .int .i64 0, .int .i64 0, .int .i64 0, .int .i64 0, .int .i64 0, .int .i64 0, .int .i64 0, .int .i64 0, .int .i64 0, .int .i64 0, .int .i64 0, .int .i64 0, .bool false, .slice none 0 0, .int .i64 0, .int .i64 0] 32)) = y3_ at ha40 bg hra hHeld ⊢
        clear hGy3_
        obtain ⟨g, hg⟩ : ∃ g, y2_.heap.size = g := ⟨_, rfl⟩
        rw [hg] at bg hgz ⊢
        clear hg
        have hpg : p < g := by omega
        refine wpAnyH_ready (rs := [7]) (by kernel_rfl) (by simp) ?_
        refine AllReadyH.cons rfl (fun K' hK => ?_) AllReadyH.nil
        have H := ha40.fill bg hgz hra hz twf
        rw [if_pos (by rfl)]
        refine wp_store_row 32 (.tmp 5) (.tmp 11) rfl g #[.int .i64 t.id, .int .i64 t.si, .int .i64 t.sr, .int .i64 t.cl, .int .i64 t.pt.kd, .int .i64 t.pt.wh, .int .i64 t.pt.sr, .int .i64 t.pt.tr, .int .i64 t.pt.pi, .int .i64 t.pt.le, .int .i64 t.pt.zo, .int .i64 t.gd.kd, .int .i64 t.gd.nn, .int .i64 t.ac.kd, .int .i64 t.ac.nn, .int .i64 t.ac.pi, .int .i64 t.ac.si, .int .i64 t.ac.zo, .bool t.ac.be, .slice t.ac.la t.ac.ln t.ac.lcap, .int .i64 t.un, .int .i64 t.le] (by first | rfl | simp [Act.eval]) rfl _ _ bg (by kernel_rfl) (by rfl) (by simp [Value.oneCell']) ?_
        refine hK.out _ _ (SK.out _ H.bx) (fun hHeld => ?_)
        clear hK
        try simp only [Act.put, List.setIfInBounds_toArray, List.set_cons_zero, List.set_cons_succ]
        refine wpAnyH_done (by kernel_rfl) ?_ _
        exact ⟨(x, g, (.agg #[.int .i64 t.id, .int .i64 t.si, .int .i64 t.sr, .int .i64 t.cl, .int .i64 t.pt.kd, .int .i64 t.pt.wh, .int .i64 t.pt.sr, .int .i64 t.pt.tr, .int .i64 t.pt.pi, .int .i64 t.pt.le, .int .i64 t.pt.zo, .int .i64 t.gd.kd, .int .i64 t.gd.nn, .int .i64 t.ac.kd, .int .i64 t.ac.nn, .int .i64 t.ac.pi, .int .i64 t.ac.si, .int .i64 t.ac.zo, .bool t.ac.be, .slice t.ac.la t.ac.ln t.ac.lcap, .int .i64 t.un, .int .i64 t.le])), rfl, t, H⟩
      · have ha64 : D1 w p a len cap s (y1_.alloc (.cells #[.int .i64 0, .int .i64 0, .int .i64 0, .int .i64 0, .int .i64 0, .int .i64 0, .int .i64 0, .int .i64 0, .int .i64 0, .int .i64 0, .int .i64 0, .int .i64 0, .int .i64 0, .int .i64 0, .int .i64 0, .int .i64 0, .int .i64 0, .int .i64 0, .bool false, .slice none 0 0, .int .i64 0, .int .i64 0] 32)) := hdy1_.alloc (.cells #[.int .i64 0, .int .i64 0, .int .i64 0, .int .i64 0, .int .i64 0, .int .i64 0, .int .i64 0, .int .i64 0, .int .i64 0, .int .i64 0, .int .i64 0, .int .i64 0, .int .i64 0, .int .i64 0, .int .i64 0, .int .i64 0, .int .i64 0, .int .i64 0, .bool false, .slice none 0 0, .int .i64 0, .int .i64 0] 32)
        have bg : BoxR (y1_.alloc (.cells #[.int .i64 0, .int .i64 0, .int .i64 0, .int .i64 0, .int .i64 0, .int .i64 0, .int .i64 0, .int .i64 0, .int .i64 0, .int .i64 0, .int .i64 0, .int .i64 0, .int .i64 0, .int .i64 0, .int .i64 0, .int .i64 0, .int .i64 0, .int .i64 0, .bool false, .slice none 0 0, .int .i64 0, .int .i64 0] 32)) y1_.heap.size 32 #[.int .i64 0, .int .i64 0, .int .i64 0, .int .i64 0, .int .i64 0, .int .i64 0, .int .i64 0, .int .i64 0, .int .i64 0, .int .i64 0, .int .i64 0, .int .i64 0, .int .i64 0, .int .i64 0, .int .i64 0, .int .i64 0, .int .i64 0, .int .i64 0, .bool false, .slice none 0 0, .int .i64 0, .int .i64 0] := boxR_new y1_ 32 #[.int .i64 0, .int .i64 0, .int .i64 0, .int .i64 0, .int .i64 0, .int .i64 0, .int .i64 0, .int .i64 0, .int .i64 0, .int .i64 0, .int .i64 0, .int .i64 0, .int .i64 0, .int .i64 0, .int .i64 0, .int .i64 0, .int .i64 0, .int .i64 0, .bool false, .slice none 0 0, .int .i64 0, .int .i64 0]
        have hgz : w.heap.size + 1 < y1_.heap.size := hdy1_.br.lt
        go_simp
        refine hK.out _ _ (SK.out _ ha64.bx) (fun hHeld => ?_)
        clear hK
        try simp only [Act.put, List.setIfInBounds_toArray, List.set_cons_zero, List.set_cons_succ]
        generalize hGy4_ : (y1_.alloc (.cells #[.int .i64 0, .int .i64 0, .int .i64 0, .int .i64 0, .int .i64 0, .int .i64 0, .int .i64 0, .int .i64 0, .int .i64 0, .int .i64 0, .int .i64 0, .int .i64 0, .int .i64 0, .int .i64 0, .int .i64 0, .int .i64 0, .int .i64 0, .int .i64 0, .bool false, .slice none 0 0, .int .i64 0, .int .i64 0] 32)) = y4_ at ha64 bg hHeld ⊢
        clear hGy4_
        obtain ⟨g, hg⟩ : ∃ g, y1_.heap.size = g := ⟨_, rfl⟩
        rw [hg] at bg hgz ⊢
        clear hg
        have hpg : p < g := by omega
        refine wpAnyH_ready (rs := [5]) (by kernel_rfl) (by simp) ?_
        refine AllReadyH.cons rfl (fun K' hK => ?_) AllReadyH.nil
        go_simp
        go_at_call 93
        refine (l10Draw_any p a len cap s _ _ (hc.only ha64.only hB) hB ha64.cur hs hcl (hrw.only ha64.only hC) hC).mono ?_
        rintro e y5_ ⟨t, twf, rfl, ho, hk, hra⟩
        have hdy5_ := ha64.draw ho hk
        replace bg := bg.onlyR ho (by omega)
        have hz : w.heap.size ≤ y4_.heap.size := ha64.only.size
        clear ho hk
        refine hK.out _ _ (SK.out _ hdy5_.bx) (fun hHeld => ?_)
        clear hK
        try simp only [Act.put, List.setIfInBounds_toArray, List.set_cons_zero, List.set_cons_succ]
        refine wpAnyH_ready (rs := [7]) (by kernel_rfl) (by simp) ?_
        refine AllReadyH.cons rfl (fun K' hK => ?_) AllReadyH.nil
        have H := hdy5_.fill bg hgz hra hz twf
        rw [if_pos (by rfl)]
        refine wp_store_row 32 (.tmp 5) (.tmp 11) rfl g #[.int .i64 t.id, .int .i64 t.si, .int .i64 t.sr, .int .i64 t.cl, .int .i64 t.pt.kd, .int .i64 t.pt.wh, .int .i64 t.pt.sr, .int .i64 t.pt.tr, .int .i64 t.pt.pi, .int .i64 t.pt.le, .int .i64 t.pt.zo, .int .i64 t.gd.kd, .int .i64 t.gd.nn, .int .i64 t.ac.kd, .int .i64 t.ac.nn, .int .i64 t.ac.pi, .int .i64 t.ac.si, .int .i64 t.ac.zo, .bool t.ac.be, .slice t.ac.la t.ac.ln t.ac.lcap, .int .i64 t.un, .int .i64 t.le] (by first | rfl | simp [Act.eval]) rfl _ _ bg (by kernel_rfl) (by rfl) (by simp [Value.oneCell']) ?_
        refine hK.out _ _ (SK.out _ H.bx) (fun hHeld => ?_)
        clear hK
        try simp only [Act.put, List.setIfInBounds_toArray, List.set_cons_zero, List.set_cons_succ]
        refine wpAnyH_done (by kernel_rfl) ?_ _
        exact ⟨(x, g, (.agg #[.int .i64 t.id, .int .i64 t.si, .int .i64 t.sr, .int .i64 t.cl, .int .i64 t.pt.kd, .int .i64 t.pt.wh, .int .i64 t.pt.sr, .int .i64 t.pt.tr, .int .i64 t.pt.pi, .int .i64 t.pt.le, .int .i64 t.pt.zo, .int .i64 t.gd.kd, .int .i64 t.gd.nn, .int .i64 t.ac.kd, .int .i64 t.ac.nn, .int .i64 t.ac.pi, .int .i64 t.ac.si, .int .i64 t.ac.zo, .bool t.ac.be, .slice t.ac.la t.ac.ln t.ac.lcap, .int .i64 t.un, .int .i64 t.le])), rfl, t, H⟩
    · have ha100 : D1 w p a len cap s (W.alloc (.cells #[.int .i64 0, .int .i64 0, .int .i64 0, .int .i64 0, .int .i64 0, .int .i64 0, .int .i64 0, .int .i64 0, .int .i64 0, .int .i64 0, .int .i64 0, .int .i64 0, .int .i64 0, .int .i64 0, .int .i64 0, .int .i64 0, .int .i64 0, .int .i64 0, .bool false, .slice none 0 0, .int .i64 0, .int .i64 0] 32)).drew := (h0.alloc (.cells #[.int .i64 0, .int .i64 0, .int .i64 0, .int .i64 0, .int .i64 0, .int .i64 0, .int .i64 0, .int .i64 0, .int .i64 0, .int .i64 0, .int .i64 0, .int .i64 0, .int .i64 0, .int .i64 0, .int .i64 0, .int .i64 0, .int .i64 0, .int .i64 0, .bool false, .slice none 0 0, .int .i64 0, .int .i64 0] 32)).drew
      have bg : BoxR (W.alloc (.cells #[.int .i64 0, .int .i64 0, .int .i64 0, .int .i64 0, .int .i64 0, .int .i64 0, .int .i64 0, .int .i64 0, .int .i64 0, .int .i64 0, .int .i64 0, .int .i64 0, .int .i64 0, .int .i64 0, .int .i64 0, .int .i64 0, .int .i64 0, .int .i64 0, .bool false, .slice none 0 0, .int .i64 0, .int .i64 0] 32)).drew W.heap.size 32 #[.int .i64 0, .int .i64 0, .int .i64 0, .int .i64 0, .int .i64 0, .int .i64 0, .int .i64 0, .int .i64 0, .int .i64 0, .int .i64 0, .int .i64 0, .int .i64 0, .int .i64 0, .int .i64 0, .int .i64 0, .int .i64 0, .int .i64 0, .int .i64 0, .bool false, .slice none 0 0, .int .i64 0, .int .i64 0] := boxR_new W 32 #[.int .i64 0, .int .i64 0, .int .i64 0, .int .i64 0, .int .i64 0, .int .i64 0, .int .i64 0, .int .i64 0, .int .i64 0, .int .i64 0, .int .i64 0, .int .i64 0, .int .i64 0, .int .i64 0, .int .i64 0, .int .i64 0, .int .i64 0, .int .i64 0, .bool false, .slice none 0 0, .int .i64 0, .int .i64 0]
      have hgz : w.heap.size + 1 < W.heap.size := hlw
      go_simp
      refine hK.out _ _ (SK.out _ ha100.bx) (fun hHeld => ?_)
      clear hK
      try simp only [Act.put, List.setIfInBounds_toArray, List.set_cons_zero, List.set_cons_succ]
      generalize hGy6_ : (W.alloc (.cells #[.int .i64 0, .int .i64 0, .int .i64 0, .int .i64 0, .int .i64 0, .int .i64 0, .int .i64 0, .int .i64 0, .int .i64 0, .int .i64 0, .int .i64 0, .int .i64 0, .int .i64 0, .int .i64 0, .int .i64 0, .int .i64 0, .int .i64 0, .int .i64 0, .bool false, .slice none 0 0, .int .i64 0, .int .i64 0] 32)).drew = y6_ at ha100 bg hHeld ⊢
      clear hGy6_
      obtain ⟨g, hg⟩ : ∃ g, W.heap.size = g := ⟨_, rfl⟩
      rw [hg] at bg hgz ⊢
      clear hg
      have hpg : p < g := by omega
      refine wpAnyH_ready (rs := [3]) (by kernel_rfl) (by simp) ?_
      refine AllReadyH.cons rfl (fun K' hK => ?_) AllReadyH.nil
      go_simp
      go_at_call 52
      refine (l1Below_any p a len cap _ _ (hc.only ha100.only hB) hB ha100.cur).mono ?_
      rintro e y7_ ⟨x, n0_, n1_, rfl, ho, hk⟩
      have n2_ := n1_ (by omega)
      have i_x : inI64 (1 + x) := by unfold inI64; omega
      have hdy7_ := ha100.draw ho hk
      replace bg := bg.onlyR ho (by omega)
      clear ho hk n1_
      refine hK.out _ _ (SK.out _ hdy7_.bx) (fun hHeld => ?_)
      clear hK
      try simp only [Act.put, List.setIfInBounds_toArray, List.set_cons_zero, List.set_cons_succ]
      refine wpAnyH_take (i := 4) (oi := ⟨some 10, _, _, _, _, _⟩) (v := .int .i64 (1 + x)) rfl (by kernel_rfl) (by kernel_rfl) (by kernel_rfl) (fun _ _ _ h => h) (Or.inl ⟨by kernel_rfl, fun u hSu => by (try dsimp only at hSu); go_simp; first | done | go_num | (rw [IntKind.wrap_i64]; omega)⟩) hHeld ?_
      try simp only [Act.put, List.setIfInBounds_toArray, List.set_cons_zero, List.set_cons_succ]
      refine wpAnyH_ready (rs := [5]) (by kernel_rfl) (by simp) ?_
      refine AllReadyH.cons rfl (fun K' hK => ?_) AllReadyH.nil
      go_simp
      go_at_call 93
      refine (l10Draw_any p a len cap s _ _ (hc.only hdy7_.only hB) hB hdy7_.cur hs hcl (hrw.only hdy7_.only hC) hC).mono ?_
      rintro e y8_ ⟨t, twf, rfl, ho, hk, hra⟩
      have hdy8_ := hdy7_.draw ho hk
      replace bg := bg.onlyR ho (by omega)
      have hz : w.heap.size ≤ y7_.heap.size := hdy7_.only.size
      clear ho hk
      refine hK.out _ _ (SK.out _ hdy8_.bx) (fun hHeld => ?_)
      clear hK
      try simp only [Act.put, List.setIfInBounds_toArray, List.set_cons_zero, List.set_cons_succ]
      refine wpAnyH_ready (rs := [7]) (by kernel_rfl) (by simp) ?_
      refine AllReadyH.cons rfl (fun K' hK => ?_) AllReadyH.nil
      have H := hdy8_.fill bg hgz hra hz twf
      rw [if_pos (by rfl)]
      refine wp_store_row 32 (.tmp 5) (.tmp 11) rfl g #[.int .i64 t.id, .int .i64 t.si, .int .i64 t.sr, .int .i64 t.cl, .int .i64 t.pt.kd, .int .i64 t.pt.wh, .int .i64 t.pt.sr, .int .i64 t.pt.tr, .int .i64 t.pt.pi, .int .i64 t.pt.le, .int .i64 t.pt.zo, .int .i64 t.gd.kd, .int .i64 t.gd.nn, .int .i64 t.ac.kd, .int .i64 t.ac.nn, .int .i64 t.ac.pi, .int .i64 t.ac.si, .int .i64 t.ac.zo, .bool t.ac.be, .slice t.ac.la t.ac.ln t.ac.lcap, .int .i64 t.un, .int .i64 t.le] (by first | rfl | simp [Act.eval]) rfl _ _ bg (by kernel_rfl) (by rfl) (by simp [Value.oneCell']) ?_
      refine hK.out _ _ (SK.out _ H.bx) (fun hHeld => ?_)
      clear hK
      try simp only [Act.put, List.setIfInBounds_toArray, List.set_cons_zero, List.set_cons_succ]
      refine wpAnyH_done (by kernel_rfl) ?_ _
      exact ⟨(x, g, (.agg #[.int .i64 t.id, .int .i64 t.si, .int .i64 t.sr, .int .i64 t.cl, .int .i64 t.pt.kd, .int .i64 t.pt.wh, .int .i64 t.pt.sr, .int .i64 t.pt.tr, .int .i64 t.pt.pi, .int .i64 t.pt.le, .int .i64 t.pt.zo, .int .i64 t.gd.kd, .int .i64 t.gd.nn, .int .i64 t.ac.kd, .int .i64 t.ac.nn, .int .i64 t.ac.pi, .int .i64 t.ac.si, .int .i64 t.ac.zo, .bool t.ac.be, .slice t.ac.la t.ac.ln t.ac.lcap, .int .i64 t.un, .int .i64 t.le])), rfl, t, H⟩
  rintro ⟨x, g, v11⟩ V ⟨t, H⟩
  dsimp only at H ⊢
  simp only [puts, List.foldl, Act.put, List.setIfInBounds_toArray, List.set_cons_zero, List.set_cons_succ]
  clear h0 hlw SK
  as_aux_lemma =>
    go_wp2_with fail
    refine (l1Below_any p a len cap _ _ (hc.only H.only hB) hB H.cur).mono ?_
    rintro e y9_ ⟨k, n0_, n1_, rfl, ho, hk⟩
    replace H := H.draw ho hk
    clear ho hk
    clear n0_ n1_
    go_upto_block 0 with fail
    go_cut [] (fun wc => ∃ t : Ef, DE w p a len cap s g t wc)
    case first =>
      go_upto_if 14 with fail
      cases t0 : (k == 0)
      case true =>
        go_wp2_with (refine wpL_build3 _ _ _ ?_)
        refine (l1Int_new p a len cap [0, 99, 100] 3 _ (hc.only H.only hB) hB H.cur (by decide) (by decide)).mono ?_
        rintro e y10_ ⟨z, m_, rfl, ho, hk⟩
        replace H := H.draw ho hk
        clear ho hk
        clear m_
        have kj := H.bg.cell 0
        simp at kj
        have fj := H.bg.froz 0
        have H' := H.putId (x := z)
        clear H
        go_wp2_with fail
        go_meet
        case rel => exact ⟨_, H'⟩
      case false =>
        go_upto_if 20 with fail
        cases t1 : (k == 1)
        case true =>
          go_wp2_with (refine wpL_build3 _ _ _ ?_)
          refine (l1Int_new p a len cap [-1, 2, 3] 3 _ (hc.only H.only hB) hB H.cur (by decide) (by decide)).mono ?_
          rintro e y11_ ⟨z, m_, rfl, ho, hk⟩
          replace H := H.draw ho hk
          clear ho hk
          clear m_
          have kj := H.bg.cell 1
          simp at kj
          have fj := H.bg.froz 1
          have H' := H.putSi (x := z)
          clear H
          go_wp2_with fail
          go_meet
          case rel => exact ⟨_, H'⟩
        case false =>
          go_upto_if 26 with fail
          cases t2 : (k == 2)
          case true =>
            go_wp2_with (refine wpL_build4 _ _ _ _ ?_)
            refine (l1Int_new p a len cap [-1, 0, 99, 100] 3 _ (hc.only H.only hB) hB H.cur (by decide) (by decide)).mono ?_
            rintro e y12_ ⟨z, m_, rfl, ho, hk⟩
            replace H := H.draw ho hk
            clear ho hk
            clear m_
            have kj := H.bg.cell 2
            simp at kj
            have fj := H.bg.froz 2
            have H' := H.putSr (x := z)
            clear H
            go_wp2_with fail
            go_meet
            case rel => exact ⟨_, H'⟩
          case false =>
            go_upto_if 32 with fail
            cases t3 : (k == 3)
            case true =>
              go_wp2_with (refine wpL_build3 _ _ _ ?_)
              refine (l1Int_new p a len cap [-1, 0, 5] 3 _ (hc.only H.only hB) hB H.cur (by decide) (by decide)).mono ?_
              rintro e y13_ ⟨z, m_, rfl, ho, hk⟩
              replace H := H.draw ho hk
              clear ho hk
              clear m_
              have kj := H.bg.cell 3
              simp at kj
              have fj := H.bg.froz 3
              have H' := H.putCl (x := z)
              clear H
              go_wp2_with fail
              go_meet
              case rel => exact ⟨_, H'⟩
            case false =>
              go_upto_if 38 with fail
              cases t4 : (k == 4)
              case true =>
                have X0 := H.bx.cell 0
                have X1 := H.bx.cell 1
                have X2 := H.bx.cell 2
                have X3 := H.bx.cell 3
                simp at X0 X1 X2 X3
                go_wp2_with fail
                refine (l7Any_any p a len cap s _ (hc.only H.only hB) hB H.cur hs (hrw.only H.only hC) hC).mono ?_
                rintro e y14_ ⟨q, qwf, rfl, ho, hk⟩
                replace H := H.draw ho hk
                clear ho hk
                clear X0 X1 X2 X3
                have ht : y14_.there g 4 7 := H.bg.thereL (by simp)
                have H' := H.putP q
                clear H
                generalize hU : y14_.setCells g 4 (#[.int .i64 q.kd, .int .i64 q.wh, .int .i64 q.sr, .int .i64 q.tr, .int .i64 q.pi, .int .i64 q.le, .int .i64 q.zo] : Array Value).toList = y15_ at H'
                go_wp2_with (refine wpList_store_mid rfl 25 (.tmp 43) (.tmp 42) rfl g 4 #[.int .i64 q.kd, .int .i64 q.wh, .int .i64 q.sr, .int .i64 q.tr, .int .i64 q.pi, .int .i64 q.le, .int .i64 q.zo] (by first | rfl | simp [Act.eval]) rfl ht (by kernel_rfl) (by simp [Value.oneCell']) ?_; rw [hU])
                clear ht hU
                go_meet
                case rel => exact ⟨_, H'⟩
              case false =>
                go_upto_if 44 with fail
                cases t5 : (k == 5)
                case true =>
                  go_wp2_with fail
                  refine (l8Any_any p a len cap _ (hc.only H.only hB) hB H.cur).mono ?_
                  rintro e y16_ ⟨q, rfl, ho, hk⟩
                  replace H := H.draw ho hk
                  clear ho hk
                  have ht : y16_.there g 11 2 := H.bg.thereL (by simp)
                  have H' := H.putG q
                  clear H
                  generalize hU : y16_.setCells g 11 (#[.int .i64 q.kd, .int .i64 q.nn] : Array Value).toList = y17_ at H'
                  go_wp2_with (refine wpList_store_mid rfl 27 (.tmp 48) (.tmp 47) rfl g 11 #[.int .i64 q.kd, .int .i64 q.nn] (by first | rfl | simp [Act.eval]) rfl ht (by kernel_rfl) (by simp [Value.oneCell']) ?_; rw [hU])
                  clear ht hU
                  go_meet
                  case rel => exact ⟨_, H'⟩
                case false =>
                  go_upto_if 49 with fail
                  cases t6 : (k == 6)
                  case true =>
                    have X0 := H.bx.cell 0
                    have X1 := H.bx.cell 1
                    have X2 := H.bx.cell 2
                    have X3 := H.bx.cell 3
                    simp at X0 X1 X2 X3
                    go_wp2_with fail
                    refine (l9Any_any p a len cap s _ (hc.only H.only hB) hB H.cur hs (hrw.only H.only hC) hC).mono ?_
                    rintro e y18_ ⟨q, twf, tl, rfl, ho, hk, hra⟩
                    have hBs : w.heap.size ≤ y9_.heap.size := H.only.size
                    replace H := H.draw ho hk
                    clear ho hk
                    clear X0 X1 X2 X3
                    have ht : y18_.there g 13 7 := H.bg.thereL (by simp)
                    have H' := H.putA hra hBs twf tl
                    clear H
                    generalize hU : y18_.setCells g 13 (#[.int .i64 q.kd, .int .i64 q.nn, .int .i64 q.pi, .int .i64 q.si, .int .i64 q.zo, .bool q.be, .slice q.la q.ln q.lcap] : Array Value).toList = y19_ at H'
                    go_wp2_with (refine wpList_store_mid rfl 30 (.tmp 54) (.tmp 53) rfl g 13 #[.int .i64 q.kd, .int .i64 q.nn, .int .i64 q.pi, .int .i64 q.si, .int .i64 q.zo, .bool q.be, .slice q.la q.ln q.lcap] (by first | rfl | simp [Act.eval]) rfl ht (by kernel_rfl) (by simp [Value.oneCell']) ?_; rw [hU])
                    clear ht hU
                    go_meet
                    case rel => exact ⟨_, H'⟩
                  case false =>
                    go_upto_if 55 with fail
                    cases t7 : (k == 7)
                    case true =>
                      go_wp2_with (refine wpL_build4 _ _ _ _ ?_)
                      refine (l1Int_new p a len cap [-2, 0, 9999, 10000] 3 _ (hc.only H.only hB) hB H.cur (by decide) (by decide)).mono ?_
                      rintro e y20_ ⟨z, m_, rfl, ho, hk⟩
                      replace H := H.draw ho hk
                      clear ho hk
                      clear m_
                      have kj := H.bg.cell 20
                      simp at kj
                      have fj := H.bg.froz 20
                      have H' := H.putUn (x := z)
                      clear H
                      go_wp2_with fail
                      go_meet
                      case rel => exact ⟨_, H'⟩
                    case false =>
                      go_upto_if 61 with fail
                      cases t8 : (k == 8)
                      case true =>
                        go_wp2_with (refine wpL_build5 _ _ _ _ _ ?_)
                        refine (l1Int_new p a len cap [-2, -1, 0, 1, 2147483648] 3 _ (hc.only H.only hB) hB H.cur (by decide) (by decide)).mono ?_
                        rintro e y21_ ⟨z, m_, rfl, ho, hk⟩
                        have i_z : inI64 z := list_in _ (by decide) z m_
                        replace H := H.draw ho hk
                        clear ho hk
                        clear m_
                        have kj := H.bg.cell 21
                        simp at kj
                        have fj := H.bg.froz 21
                        have H' := H.putLe i_z
                        clear H
                        go_wp2_with fail
                        go_meet
                        case rel => exact ⟨_, H'⟩
                      case false =>
                        go_wp2_with fail
                        go_meet
                        case rel => exact ⟨_, H⟩
    case rest =>
      clear H
      obtain ⟨t, H⟩ := hcut
      as_aux_lemma =>
        go_wp2_with first | (refine wpList_load_row rfl 32 _ rfl g (by rfl) _ _ _ _ H.bg Tryz.underlying32 rfl (by kernel_rfl) ?_) | (refine wpList_store_row rfl 32 (.tmp 4) _ rfl (w.heap.size + 1) _ (by rfl) (by rfl) _ _ H.br (by kernel_rfl) (by rfl) (by simp [Value.oneCell']) ?_)
        (try simp only [Exit.inBlock, Exit.then]); refine bodyPost_ret (results_cell_row rfl _ _ (w.heap.size + 1) _ _ _ _ rfl (setRow_heap _ _ _ _ _ _ H.br) Tryz.underlying32 rfl (by kernel_rfl)) rfl ?_
        exact ⟨t, H.wf, rfl, H.only.setRow (by omega) _, H.cur.setRow (by omega) _, row_setRow' H.rw (own_ne H.rw H.br (by decide)) _⟩
end Go.Proofs.YtodfdfncdoliiadGreat
