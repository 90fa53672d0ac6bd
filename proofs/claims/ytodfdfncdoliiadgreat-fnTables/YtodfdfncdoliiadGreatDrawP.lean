/-
  Chapter 4: contracts of the draws l4Draw, l4Any. Written by tools/drawp.gen.py. Own work.
-/
import Derived.Test.YtodfdfncdoliiadGreatGBytes36
import Derived.Test.YtodfdfncdoliiadGreatGCur5
namespace Go.Proofs.YtodfdfncdoliiadGreat
open Go.ChangeShapes Go.WideShapes Go.ChangeAt Go.RowKit
set_option maxRecDepth 100000

theorem BoxP.only {w w' : World} {b t p : Nat} {q : Pc} (h : BoxP w b t q) (ho : Only p w w') (hp : b ≠ p) : BoxP w' b t q := (ho.block b h.lt hp).trans h
theorem BoxP.froz {w : World} {b t : Nat} {q : Pc} (h : BoxP w b t q) (j : Nat) : w.frozen? ⟨b, j, none⟩ = false := frozen_of_row w b j _ t h
theorem BoxP.put {w : World} {b t : Nat} {q q' : Pc} (h : BoxP w b t q) (j : Nat) (v : Value) (e : (#[.int .i64 q.id, .int .i64 q.ow, .int .i64 q.si, .int .i64 q.zo, .int .i64 q.st, .int .i64 q.po, .int .i64 q.to, .int .i64 q.tr, .int .i64 q.pl, .int .i64 q.mi, .int .i64 q.ma, .bool q.de, .bool q.be] : Array Value).setIfInBounds j v = #[.int .i64 q'.id, .int .i64 q'.ow, .int .i64 q'.si, .int .i64 q'.zo, .int .i64 q'.st, .int .i64 q'.po, .int .i64 q'.to, .int .i64 q'.tr, .int .i64 q'.pl, .int .i64 q'.mi, .int .i64 q'.ma, .bool q'.de, .bool q'.be]) : BoxP (w.setCell ⟨b, j, none⟩ v) b t q' := by
  unfold BoxP
  rw [Go.heap_setCell_same w b j _ t v h, e]
theorem heap_setRow_other (w : World) (g k : Nat) (cs : Array Value) (h : k < g) : (w.setRow g cs).heap[k]? = w.heap[k]? := (below_setRow (Below.refl g w) (Nat.le_refl g) cs).block k h
theorem Only.setRow {p g : Nat} {a w : World} (h : Only p a w) (hg : a.heap.size ≤ g) (cs : Array Value) : Only p a (w.setRow g cs) := by
  have hb := below_setRow (Below.refl g w) (Nat.le_refl g) cs
  exact ⟨hb.os.trans h.os, hb.tape.trans h.tape, hb.output.trans h.output, Nat.le_trans h.size hb.size, fun k hk hp => (hb.block k (by omega)).trans (h.block k hk hp)⟩
theorem Cur.setRow {w : World} {p g : Nat} {a : Option Addr} {len cap : Nat} (h : Cur w p a len cap) (hg : p < g) (cs : Array Value) : Cur (w.setRow g cs) p a len cap :=
  h.same (heap_setRow_other w g p cs hg) (below_setRow (Below.refl g w) (Nat.le_refl g) cs).size
/-- while a piece is drawn: the cursor p, the answer's cell r, the piece under way at g -/
structure DS (w : World) (p : Nat) (a : Option Addr) (len cap r g : Nat) (q : Pc) (u : World) : Prop where
  only : Only p w u
  cur : Cur u p a len cap
  pr : p < w.heap.size
  hr : w.heap.size ≤ r
  rg : r < g
  br : BoxP u r 139 ⟨0, 0, 0, 0, 0, 0, 0, 0, 0, 0, 0, false, false⟩
  bg : BoxP u g 139 q
theorem DS.draw {w : World} {p : Nat} {a : Option Addr} {len cap r g : Nat} {q : Pc} {u u' : World} (h : DS w p a len cap r g q u) (ho : Only p u u') (hk : Cur u' p a len cap) : DS w p a len cap r g q u' :=
  ⟨h.only.trans ho, hk, h.pr, h.hr, h.rg, h.br.only ho (by have := h.pr; have := h.hr; omega), h.bg.only ho (by have := h.pr; have := h.hr; have := h.rg; omega)⟩
theorem DS.alloc {w : World} {p : Nat} {a : Option Addr} {len cap r g : Nat} {q : Pc} {u : World} (h : DS w p a len cap r g q u) (o : Obj) : DS w p a len cap r g q (u.alloc o) :=
  ⟨h.only.alloc o, h.cur.only ((Only.refl u.heap.size u).alloc o) (Nat.ne_of_lt h.cur.1), h.pr, h.hr, h.rg, h.br.alloc o, h.bg.alloc o⟩
theorem DS.put {w : World} {p : Nat} {a : Option Addr} {len cap r g : Nat} {q q' : Pc} {u : World} (h : DS w p a len cap r g q u) (j : Nat) (v : Value) (e : (#[.int .i64 q.id, .int .i64 q.ow, .int .i64 q.si, .int .i64 q.zo, .int .i64 q.st, .int .i64 q.po, .int .i64 q.to, .int .i64 q.tr, .int .i64 q.pl, .int .i64 q.mi, .int .i64 q.ma, .bool q.de, .bool q.be] : Array Value).setIfInBounds j v = #[.int .i64 q'.id, .int .i64 q'.ow, .int .i64 q'.si, .int .i64 q'.zo, .int .i64 q'.st, .int .i64 q'.po, .int .i64 q'.to, .int .i64 q'.tr, .int .i64 q'.pl, .int .i64 q'.mi, .int .i64 q'.ma, .bool q'.de, .bool q'.be]) : DS w p a len cap r g q' (u.setCell ⟨g, j, none⟩ v) :=
  ⟨h.only.setCell (.inr (by have := h.hr; have := h.rg; show w.heap.size ≤ g; omega)) v, h.cur.only ((Only.refl g u).setCell (.inl rfl) v) (by have := h.pr; have := h.hr; have := h.rg; omega), h.pr, h.hr, h.rg, (Below.heap_setCell _ _ _ _ (by have := h.rg; show r ≠ g; omega)).trans h.br, h.bg.put j v e⟩
/-- what is drawn -/
structure drP (id : Int) (p : Pc) : Prop where
  id : p.id = id
  ow : 0 ≤ p.ow ∧ p.ow ≤ 1
  si : 0 ≤ p.si ∧ p.si ≤ 1
  zo : p.zo = 1 ∨ p.zo = 2 ∨ p.zo = 3
  st : 0 ≤ p.st ∧ p.st ≤ 2
  po : 0 ≤ p.po ∧ p.po ≤ 4
  «to» : 1 ≤ p.to ∧ p.to ≤ 5
  tr : 0 ≤ p.tr ∧ p.tr ≤ 63
  pl : 0 ≤ p.pl ∧ p.pl ≤ 2
  mi : 0 ≤ p.mi ∧ p.mi ≤ 1
  ma : 0 ≤ p.ma ∧ p.ma ≤ 1
  de : p.de = false
  off : p.zo ≠ 2 → p.si = p.ow ∧ p.pl = 0 ∧ p.mi = 0 ∧ p.ma = 0 ∧ p.be = false
def tl (k : Nat) : Int := [1, 2, 4, 8, 16, 32].getD k 0
theorem tl_two (k : Nat) (hk : k < 6) : tl k = 2 ^ k := by
  have : k = 0 ∨ k = 1 ∨ k = 2 ∨ k = 3 ∨ k = 4 ∨ k = 5 := by omega
  rcases this with rfl | rfl | rfl | rfl | rfl | rfl <;> rfl
def tlL : List Int := [1, 2, 4, 8, 16, 32]
/-- how far the traits are drawn -/
def trB (k : Nat) (x : Int) : Prop := 0 ≤ x ∧ x < 2 ^ k
theorem trB_same {k : Nat} {x : Int} (h : trB k x) : trB (k + 1) x := by
  obtain ⟨h1, h2⟩ := h
  have e : (2 : Int) ^ (k + 1) = 2 ^ k * 2 := Int.pow_succ _ _
  exact ⟨h1, by omega⟩
theorem trB_more {k : Nat} {x : Int} (h : trB k x) (hk : k < 6) : trB (k + 1) (x + tl k) := by
  obtain ⟨h1, h2⟩ := h
  have e : (2 : Int) ^ (k + 1) = 2 ^ k * 2 := Int.pow_succ _ _
  have e2 := tl_two k hk
  exact ⟨by omega, by omega⟩
theorem trB_bd {k : Nat} {x : Int} (h : trB k x) (hk : k < 6) : 0 ≤ x ∧ x ≤ 63 ∧ 0 ≤ tl k ∧ tl k ≤ 63 := by
  obtain ⟨h1, h2⟩ := h
  have e2 := tl_two k hk
  have : k = 0 ∨ k = 1 ∨ k = 2 ∨ k = 3 ∨ k = 4 ∨ k = 5 := by omega
  rcases this with rfl | rfl | rfl | rfl | rfl | rfl <;> simp at h2 e2 <;> omega

set_option maxHeartbeats 8000000 in
theorem l4Draw_any (p : Nat) (a : Option Addr) (len cap : Nat) (id : Int) (w : World) {B : Nat} (hc : Code w a len B) (hB : B ≤ p) (hcur : Cur w p a len cap) :
    Calls Tryz.prog 99 #[.pointer (some ⟨p, 0, none⟩), .int .i64 id] w fun e w' => ∃ q : Pc, drP id q ∧ e = .returned (.agg #[.int .i64 q.id, .int .i64 q.ow, .int .i64 q.si, .int .i64 q.zo, .int .i64 q.st, .int .i64 q.po, .int .i64 q.to, .int .i64 q.tr, .int .i64 q.pl, .int .i64 q.mi, .int .i64 q.ma, .bool q.de, .bool q.be]) ∧ Only p w w' ∧ Cur w' p a len cap := by
  have hp : p < w.heap.size := hcur.1
  have ho0 : Only p w (w.alloc (.cells #[.int .i64 0, .int .i64 0, .int .i64 0, .int .i64 0, .int .i64 0, .int .i64 0, .int .i64 0, .int .i64 0, .int .i64 0, .int .i64 0, .int .i64 0, .bool false, .bool false] 139)) := (Only.refl p w).alloc _
  have hk0 : Cur (w.alloc (.cells #[.int .i64 0, .int .i64 0, .int .i64 0, .int .i64 0, .int .i64 0, .int .i64 0, .int .i64 0, .int .i64 0, .int .i64 0, .int .i64 0, .int .i64 0, .bool false, .bool false] 139)) p a len cap := hcur.only ((Only.refl w.heap.size w).alloc _) (Nat.ne_of_lt hp)
  have br0 : BoxP (w.alloc (.cells #[.int .i64 0, .int .i64 0, .int .i64 0, .int .i64 0, .int .i64 0, .int .i64 0, .int .i64 0, .int .i64 0, .int .i64 0, .int .i64 0, .int .i64 0, .bool false, .bool false] 139)) w.heap.size 139 ⟨0, 0, 0, 0, 0, 0, 0, 0, 0, 0, 0, false, false⟩ := heap_alloc_new w _
  generalize hW : w.alloc (.cells #[.int .i64 0, .int .i64 0, .int .i64 0, .int .i64 0, .int .i64 0, .int .i64 0, .int .i64 0, .int .i64 0, .int .i64 0, .int .i64 0, .int .i64 0, .bool false, .bool false] 139) = W at ho0 hk0 br0
  go_enter Tryz.func99, Tryz.ntmps99
  go_wp2_with fail
  clear hW hcur
  refine (l1Below_any p a len cap _ _ (hc.only ho0 hB) hB hk0).mono ?_
  rintro e u1 ⟨ow, hw0, hw1, rfl, ho, hk⟩
  replace br0 := br0.only ho (Nat.ne_of_gt hp)
  replace ho0 := ho0.trans ho
  clear hk0 ho
  have hk0 := hk
  clear hk
  have hw2 := hw1 (by omega)
  clear hw1
  go_wp2_with fail
  refine (l1Int_new p a len cap [2, 2, 2, 1, 3] 3 _ (hc.only ho0 hB) hB hk0 (by decide) (by decide)).mono ?_
  rintro e u2 ⟨zo, hzo, rfl, ho, hk⟩
  replace br0 := br0.only ho (Nat.ne_of_gt hp)
  replace ho0 := ho0.trans ho
  clear hk0 ho
  have hk0 := hk
  clear hk
  have HZ : Hid (zo = 1 ∨ zo = 2 ∨ zo = 3) := by show zo = 1 ∨ zo = 2 ∨ zo = 3; simp at hzo; omega
  clear hzo
  go_wp2_with fail
  refine (l1Below_any p a len cap _ _ (hc.only ho0 hB) hB hk0).mono ?_
  rintro e u3 ⟨st, hs0, hs1, rfl, ho, hk⟩
  replace br0 := br0.only ho (Nat.ne_of_gt hp)
  replace ho0 := ho0.trans ho
  clear hk0 ho
  have hk0 := hk
  clear hk
  have hs2 := hs1 (by omega)
  clear hs1
  go_wp2_with fail
  refine (l1Below_any p a len cap _ _ (hc.only ho0 hB) hB hk0).mono ?_
  rintro e u4 ⟨po, hp0, hp1, rfl, ho, hk⟩
  replace br0 := br0.only ho (Nat.ne_of_gt hp)
  replace ho0 := ho0.trans ho
  clear hk0 ho
  have hk0 := hk
  clear hk
  have hp2 := hp1 (by omega)
  clear hp1
  go_wp2_with fail
  refine (l1Below_any p a len cap _ _ (hc.only ho0 hB) hB hk0).mono ?_
  rintro e u5 ⟨tov, ht0, ht1, rfl, ho, hk⟩
  replace br0 := br0.only ho (Nat.ne_of_gt hp)
  replace ho0 := ho0.trans ho
  clear hk0 ho
  have ht2 := ht1 (by omega)
  clear ht1
  have hwz := ho0.size
  have hrz := br0.lt
  have hnew : (u5.alloc (.cells #[.int .i64 0, .int .i64 0, .int .i64 0, .int .i64 0, .int .i64 0, .int .i64 0, .int .i64 0, .int .i64 0, .int .i64 0, .int .i64 0, .int .i64 0, .bool false, .bool false] 139)).heap[u5.heap.size]? = some (.cells #[.int .i64 0, .int .i64 0, .int .i64 0, .int .i64 0, .int .i64 0, .int .i64 0, .int .i64 0, .int .i64 0, .int .i64 0, .int .i64 0, .int .i64 0, .bool false, .bool false] 139 (0, 0)) := heap_alloc_new u5 _
  have hS : DS w p a len cap w.heap.size u5.heap.size ⟨id, ow, 0, zo, st, po, 1 + tov, 0, 0, 0, 0, false, false⟩ ((u5.alloc (.cells #[.int .i64 0, .int .i64 0, .int .i64 0, .int .i64 0, .int .i64 0, .int .i64 0, .int .i64 0, .int .i64 0, .int .i64 0, .int .i64 0, .int .i64 0, .bool false, .bool false] 139)).setRow u5.heap.size #[.int .i64 id, .int .i64 ow, .int .i64 0, .int .i64 zo, .int .i64 st, .int .i64 po, .int .i64 (1 + tov), .int .i64 0, .int .i64 0, .int .i64 0, .int .i64 0, .bool false, .bool false]) :=
    ⟨(ho0.alloc _).setRow hwz _, (hk.only ((Only.refl u5.heap.size u5).alloc _) (Nat.ne_of_lt hk.1)).setRow hk.1 _, hp, Nat.le_refl _, hrz, (heap_setRow_other _ _ _ _ hrz).trans (br0.alloc _), setRow_heap _ _ _ _ _ _ hnew⟩
  clear ho0 hk br0
  go_wp2_with (refine wpList_store_row rfl 139 (.tmp 5) _ rfl u5.heap.size #[.int .i64 id, .int .i64 ow, .int .i64 0, .int .i64 zo, .int .i64 st, .int .i64 po, .int .i64 (1 + tov), .int .i64 0, .int .i64 0, .int .i64 0, .int .i64 0, .bool false, .bool false] (by rfl) (by rfl) _ _ hnew (by kernel_rfl) (by rfl) (by simp [Value.oneCell']) ?_; generalize (u5.alloc (.cells #[.int .i64 0, .int .i64 0, .int .i64 0, .int .i64 0, .int .i64 0, .int .i64 0, .int .i64 0, .int .i64 0, .int .i64 0, .int .i64 0, .int .i64 0, .bool false, .bool false] 139)).setRow u5.heap.size #[.int .i64 id, .int .i64 ow, .int .i64 0, .int .i64 zo, .int .i64 st, .int .i64 po, .int .i64 (1 + tov), .int .i64 0, .int .i64 0, .int .i64 0, .int .i64 0, .bool false, .bool false] = V at hS ⊢; clear hnew; obtain ⟨k0, k1, k2, k3, k4, k5, k6, k7, k8, k9, k10, k11, k12⟩ : Cells13 _ _ _ := hS.bg.cells; have f2 := hS.bg.froz 2)
  have hS2 := (hS.put (q' := ⟨id, ow, ow, zo, st, po, 1 + tov, 0, 0, 0, 0, false, false⟩) 2 (.int .i64 ow) rfl).alloc (.cells (vals .i64 6 tl).toArray 3)
  have hR2 : Rd .i64 ((V.setCell ⟨u5.heap.size, 2, none⟩ (.int .i64 ow)).alloc (.cells (vals .i64 6 tl).toArray 3)) V.heap.size (some ⟨V.heap.size, 0, none⟩) 6 tl := by
    have := rd_row (heap_alloc_new (V.setCell ⟨u5.heap.size, 2, none⟩ (.int .i64 ow)) (.cells (vals .i64 6 tl).toArray 3))
    simpa [World.setCell] using this
  have hlz : V.heap.size < ((V.setCell ⟨u5.heap.size, 2, none⟩ (.int .i64 ow)).alloc (.cells (vals .i64 6 tl).toArray 3)).heap.size := by simp [World.setCell]
  have hpz : p < V.heap.size := hS.cur.1
  have hgz : u5.heap.size < V.heap.size := hS.bg.lt
  have HC : Hid (∀ j, j < 6 → ((V.setCell ⟨u5.heap.size, 2, none⟩ (.int .i64 ow)).alloc (.cells (vals .i64 6 tl).toArray 3)).cell? ⟨V.heap.size, j, none⟩ = some (.int .i64 (tl j))) := fun j hj => by
    rcases hR2 with h | ⟨off, e, h⟩
    · omega
    · simp only [Option.some.injEq, Addr.mk.injEq, and_true, true_and] at e
      subst e
      have := h j hj
      rwa [Nat.zero_add] at this
  clear hS k0 k1 k2 k3 k4 k5 k6 k7 k8 k9 k10 k11 k12 f2 hR2
  go_loopw [27] (fun i wr => ∃ k : Nat, ∃ tr : Int, k ≤ 6 ∧ i = .int .i64 k ∧ trB k tr ∧ DS w p a len cap w.heap.size u5.heap.size ⟨id, ow, ow, zo, st, po, 1 + tov, tr, 0, 0, 0, false, false⟩ wr ∧ V.heap.size < wr.heap.size ∧ Hid (∀ j, j < 6 → wr.cell? ⟨V.heap.size, j, none⟩ = some (.int .i64 (tl j)))) (fun i _ => 6 - (intOf i).toNat)
  case atStart => exact ⟨0, 0, Nat.zero_le _, rfl, ⟨Int.le_refl _, by decide⟩, hS2, hlz, HC⟩
  case round =>
    clear hS2 hlz HC
    obtain ⟨k, tr, hk, rfl, htr, hS, hlz, HC⟩ := hrel
    by_cases hlt : k < 6
    · have e1 := HC.out k hlt
      have hbd := trB_bd htr hlt
      have HT0 : Hid (trB (k + 1) tr) := trB_same htr
      have HT1 : Hid (trB (k + 1) (tr + tl k)) := trB_more htr hlt
      generalize tl k = t at e1 hbd HT1
      obtain ⟨hb1, hb2, hb3, hb4⟩ := hbd
      go_wp2_with fail
      refine (l1Once_any p a len cap _ _ (hc.only hS.only hB) hB hS.cur).mono ?_
      rintro e u ⟨b, rfl, ho, hk'⟩
      have hS' := hS.draw ho hk'
      have hlz' := Nat.lt_of_lt_of_le hlz ho.size
      have HC' : Hid (∀ j, j < 6 → u.cell? ⟨V.heap.size, j, none⟩ = some (.int .i64 (tl j))) := fun j hj => (ho.cell (q := ⟨V.heap.size, j, none⟩) hlz (by show V.heap.size ≠ p; omega)).trans (HC.out j hj)
      clear hS HC e1 ho hk' hlz
      cases b with
      | false =>
        clear HT1
        go_wp2
        go_roundw
        case rel => first | exact ⟨k + 1, tr, by omega, by go_num, HT0.out, hS', hlz', HC'⟩ | ((repeat apply Exists.intro); exact ⟨⟨k + 1, tr, by omega, by go_num, HT0.out, hS', hlz', HC'⟩, rfl⟩)
        case measure => simp [intOf]; omega
      | true =>
        have k7 : u.cell? ⟨u5.heap.size, 7, none⟩ = some (.int .i64 tr) := hS'.bg.cells.2.2.2.2.2.2.2.1
        have f7 := hS'.bg.froz 7
        have hS3 := hS'.put (q' := ⟨id, ow, ow, zo, st, po, 1 + tov, tr + t, 0, 0, 0, false, false⟩) 7 (.int .i64 (tr + t)) rfl
        have HC3 : Hid (∀ j, j < 6 → (u.setCell ⟨u5.heap.size, 7, none⟩ (.int .i64 (tr + t))).cell? ⟨V.heap.size, j, none⟩ = some (.int .i64 (tl j))) := fun j hj => (World.cell?_setCell_other _ _ _ _ (by intro e; have := congrArg Addr.block e; simp at this; omega)).trans (HC'.out j hj)
        have hlz3 : V.heap.size < (u.setCell ⟨u5.heap.size, 7, none⟩ (.int .i64 (tr + t))).heap.size := by simpa [World.setCell] using hlz'
        clear hS' HC' hlz' HT0
        go_wp2
        go_roundw
        case rel => first | exact ⟨k + 1, tr + t, by omega, by go_num, HT1.out, hS3, hlz3, HC3⟩ | ((repeat apply Exists.intro); exact ⟨⟨k + 1, tr + t, by omega, by go_num, HT1.out, hS3, hlz3, HC3⟩, rfl⟩)
        case measure => simp [intOf]; omega
    · obtain rfl : k = 6 := by omega
      have htr' : 0 ≤ tr ∧ tr ≤ 63 := by obtain ⟨h1, h2⟩ := htr; simp at h2; omega
      clear HC htr
      have k3 : wr.cell? ⟨u5.heap.size, 3, none⟩ = some (.int .i64 zo) := hS.bg.cells.2.2.2.1
      by_cases hz : zo = 2
      · subst hz
        clear HZ
        go_wp2_with fail
        refine (l1Once_any p a len cap _ _ (hc.only hS.only hB) hB hS.cur).mono ?_
        rintro e v0 ⟨bs, rfl, ho, hk'⟩
        have hS0 := hS.draw ho hk'
        clear hS ho hk' k3
        have hsi : ∀ s : Int, 0 ≤ s ∧ s ≤ 1 → s = s := fun _ _ => rfl
        clear hsi
        cases bs with
        | false =>
          have hT0 := hS0
          clear hS0
          go_wp2_with fail
          refine (l1Int_new p a len cap [0, 0, 1, 2] 3 _ (hc.only hT0.only hB) hB hT0.cur (by decide) (by decide)).mono ?_
          rintro e v1 ⟨xp, hx0, rfl, ho, hk'⟩
          have hy0 : 0 ≤ xp ∧ xp ≤ 2 := by simp at hx0; omega
          clear hx0
          have hU := hT0.draw ho hk'
          clear hT0 ho hk'
          have kj : v1.cell? ⟨u5.heap.size, 8, none⟩ = some (.int .i64 0) := hU.bg.cells.2.2.2.2.2.2.2.2.1
          have fj := hU.bg.froz 8
          have hT1 := hU.put (q' := ⟨id, ow, ow, 2, st, po, 1 + tov, tr, xp, 0, 0, false, false⟩) 8 (.int .i64 xp) rfl
          generalize hX1 : v1.setCell ⟨u5.heap.size, 8, none⟩ (.int .i64 xp) = y1 at hT1
          clear hU
          go_wp2_with fail
          clear kj fj
          refine (l1Int_new p a len cap [0, 0, 0, 1] 3 _ (hc.only hT1.only hB) hB hT1.cur (by decide) (by decide)).mono ?_
          rintro e v2 ⟨xm, hx1, rfl, ho, hk'⟩
          have hy1 : 0 ≤ xm ∧ xm ≤ 1 := by simp at hx1; omega
          clear hx1
          have hU := hT1.draw ho hk'
          clear hT1 ho hk'
          have kj : v2.cell? ⟨u5.heap.size, 9, none⟩ = some (.int .i64 0) := hU.bg.cells.2.2.2.2.2.2.2.2.2.1
          have fj := hU.bg.froz 9
          have hT2 := hU.put (q' := ⟨id, ow, ow, 2, st, po, 1 + tov, tr, xp, xm, 0, false, false⟩) 9 (.int .i64 xm) rfl
          generalize hX2 : v2.setCell ⟨u5.heap.size, 9, none⟩ (.int .i64 xm) = y2 at hT2
          clear hU
          go_wp2_with fail
          clear kj fj
          refine (l1Int_new p a len cap [0, 0, 1] 3 _ (hc.only hT2.only hB) hB hT2.cur (by decide) (by decide)).mono ?_
          rintro e v3 ⟨xk, hx2, rfl, ho, hk'⟩
          have hy2 : 0 ≤ xk ∧ xk ≤ 1 := by simp at hx2; omega
          clear hx2
          have hU := hT2.draw ho hk'
          clear hT2 ho hk'
          have kj : v3.cell? ⟨u5.heap.size, 10, none⟩ = some (.int .i64 0) := hU.bg.cells.2.2.2.2.2.2.2.2.2.2.1
          have fj := hU.bg.froz 10
          have hT3 := hU.put (q' := ⟨id, ow, ow, 2, st, po, 1 + tov, tr, xp, xm, xk, false, false⟩) 10 (.int .i64 xk) rfl
          generalize hX3 : v3.setCell ⟨u5.heap.size, 10, none⟩ (.int .i64 xk) = y3 at hT3
          clear hU
          go_wp2_with fail
          clear kj fj
          refine (l1Once_any p a len cap _ _ (hc.only hT3.only hB) hB hT3.cur).mono ?_
          rintro e v4 ⟨xb, rfl, ho, hk'⟩
          have hU := hT3.draw ho hk'
          clear hT3 ho hk'
          have kj : v4.cell? ⟨u5.heap.size, 12, none⟩ = some (.bool false) := hU.bg.cells.2.2.2.2.2.2.2.2.2.2.2.2
          have fj := hU.bg.froz 12
          have hT4 := hU.put (q' := ⟨id, ow, ow, 2, st, po, 1 + tov, tr, xp, xm, xk, false, xb⟩) 12 (.bool xb) rfl
          clear hU
          have HZ' : Hid (drP id ⟨id, ow, ow, 2, st, po, 1 + tov, tr, xp, xm, xk, false, xb⟩) := ⟨rfl, (by dsimp only; omega), (by dsimp only; omega), .inr (.inl rfl), (by dsimp only; omega), (by dsimp only; omega), (by dsimp only; omega), htr', hy0, hy1, hy2, rfl, fun h => absurd rfl h⟩
          have KK : Cells13 _ _ _ := hT4.bg.cells
          generalize hV5 : v4.setCell ⟨u5.heap.size, 12, none⟩ (.bool xb) = v5 at hT4 KK
          obtain ⟨k0, k1, k2, k3, k4, k5, k6, k7, k8, k9, k10, k11, k12⟩ := KK
          go_wp2_with (refine wpList_store_row rfl 139 (.tmp 4) _ rfl w.heap.size _ (by rfl) (by rfl) _ _ hT4.br (by kernel_rfl) (by rfl) (by simp [Value.oneCell']) ?_)
          (try simp only [Exit.inBlock, Exit.then]); refine bodyPost_ret (results_cell_row rfl _ _ w.heap.size _ _ _ _ rfl (setRow_heap _ _ _ _ _ _ hT4.br) Tryz.underlying139 rfl (by kernel_rfl)) rfl ?_
          exact ⟨_, HZ'.out, rfl, hT4.only.setRow (Nat.le_refl _) _, hT4.cur.setRow hp _⟩
        | true =>
          have k1 : v0.cell? ⟨u5.heap.size, 1, none⟩ = some (.int .i64 ow) := hS0.bg.cells.2.1
          have k2 : v0.cell? ⟨u5.heap.size, 2, none⟩ = some (.int .i64 ow) := hS0.bg.cells.2.2.1
          have f2 := hS0.bg.froz 2
          have hS1 := hS0.put (q' := ⟨id, ow, 1 - ow, 2, st, po, 1 + tov, tr, 0, 0, 0, false, false⟩) 2 (.int .i64 (1 - ow)) rfl
          generalize hX0 : v0.setCell ⟨u5.heap.size, 2, none⟩ (.int .i64 (1 - ow)) = y0 at hS1
          clear hS0
          have hT0 := hS1
          clear hS1
          go_wp2_with fail
          clear k1 k2 f2
          refine (l1Int_new p a len cap [0, 0, 1, 2] 3 _ (hc.only hT0.only hB) hB hT0.cur (by decide) (by decide)).mono ?_
          rintro e v1 ⟨xp, hx0, rfl, ho, hk'⟩
          have hy0 : 0 ≤ xp ∧ xp ≤ 2 := by simp at hx0; omega
          clear hx0
          have hU := hT0.draw ho hk'
          clear hT0 ho hk'
          have kj : v1.cell? ⟨u5.heap.size, 8, none⟩ = some (.int .i64 0) := hU.bg.cells.2.2.2.2.2.2.2.2.1
          have fj := hU.bg.froz 8
          have hT1 := hU.put (q' := ⟨id, ow, (1 - ow), 2, st, po, 1 + tov, tr, xp, 0, 0, false, false⟩) 8 (.int .i64 xp) rfl
          generalize hX1 : v1.setCell ⟨u5.heap.size, 8, none⟩ (.int .i64 xp) = y1 at hT1
          clear hU
          go_wp2_with fail
          clear kj fj
          refine (l1Int_new p a len cap [0, 0, 0, 1] 3 _ (hc.only hT1.only hB) hB hT1.cur (by decide) (by decide)).mono ?_
          rintro e v2 ⟨xm, hx1, rfl, ho, hk'⟩
          have hy1 : 0 ≤ xm ∧ xm ≤ 1 := by simp at hx1; omega
          clear hx1
          have hU := hT1.draw ho hk'
          clear hT1 ho hk'
          have kj : v2.cell? ⟨u5.heap.size, 9, none⟩ = some (.int .i64 0) := hU.bg.cells.2.2.2.2.2.2.2.2.2.1
          have fj := hU.bg.froz 9
          have hT2 := hU.put (q' := ⟨id, ow, (1 - ow), 2, st, po, 1 + tov, tr, xp, xm, 0, false, false⟩) 9 (.int .i64 xm) rfl
          generalize hX2 : v2.setCell ⟨u5.heap.size, 9, none⟩ (.int .i64 xm) = y2 at hT2
          clear hU
          go_wp2_with fail
          clear kj fj
          refine (l1Int_new p a len cap [0, 0, 1] 3 _ (hc.only hT2.only hB) hB hT2.cur (by decide) (by decide)).mono ?_
          rintro e v3 ⟨xk, hx2, rfl, ho, hk'⟩
          have hy2 : 0 ≤ xk ∧ xk ≤ 1 := by simp at hx2; omega
          clear hx2
          have hU := hT2.draw ho hk'
          clear hT2 ho hk'
          have kj : v3.cell? ⟨u5.heap.size, 10, none⟩ = some (.int .i64 0) := hU.bg.cells.2.2.2.2.2.2.2.2.2.2.1
          have fj := hU.bg.froz 10
          have hT3 := hU.put (q' := ⟨id, ow, (1 - ow), 2, st, po, 1 + tov, tr, xp, xm, xk, false, false⟩) 10 (.int .i64 xk) rfl
          generalize hX3 : v3.setCell ⟨u5.heap.size, 10, none⟩ (.int .i64 xk) = y3 at hT3
          clear hU
          go_wp2_with fail
          clear kj fj
          refine (l1Once_any p a len cap _ _ (hc.only hT3.only hB) hB hT3.cur).mono ?_
          rintro e v4 ⟨xb, rfl, ho, hk'⟩
          have hU := hT3.draw ho hk'
          clear hT3 ho hk'
          have kj : v4.cell? ⟨u5.heap.size, 12, none⟩ = some (.bool false) := hU.bg.cells.2.2.2.2.2.2.2.2.2.2.2.2
          have fj := hU.bg.froz 12
          have hT4 := hU.put (q' := ⟨id, ow, (1 - ow), 2, st, po, 1 + tov, tr, xp, xm, xk, false, xb⟩) 12 (.bool xb) rfl
          clear hU
          have HZ' : Hid (drP id ⟨id, ow, (1 - ow), 2, st, po, 1 + tov, tr, xp, xm, xk, false, xb⟩) := ⟨rfl, (by dsimp only; omega), (by dsimp only; omega), .inr (.inl rfl), (by dsimp only; omega), (by dsimp only; omega), (by dsimp only; omega), htr', hy0, hy1, hy2, rfl, fun h => absurd rfl h⟩
          have KK : Cells13 _ _ _ := hT4.bg.cells
          generalize hV5 : v4.setCell ⟨u5.heap.size, 12, none⟩ (.bool xb) = v5 at hT4 KK
          obtain ⟨k0, k1, k2, k3, k4, k5, k6, k7, k8, k9, k10, k11, k12⟩ := KK
          go_wp2_with (refine wpList_store_row rfl 139 (.tmp 4) _ rfl w.heap.size _ (by rfl) (by rfl) _ _ hT4.br (by kernel_rfl) (by rfl) (by simp [Value.oneCell']) ?_)
          (try simp only [Exit.inBlock, Exit.then]); refine bodyPost_ret (results_cell_row rfl _ _ w.heap.size _ _ _ _ rfl (setRow_heap _ _ _ _ _ _ hT4.br) Tryz.underlying139 rfl (by kernel_rfl)) rfl ?_
          exact ⟨_, HZ'.out, rfl, hT4.only.setRow (Nat.le_refl _) _, hT4.cur.setRow hp _⟩
      · have HZ' : Hid (drP id ⟨id, ow, ow, zo, st, po, 1 + tov, tr, 0, 0, 0, false, false⟩) := ⟨rfl, (by dsimp only; omega), (by dsimp only; omega), HZ.out, (by dsimp only; omega), (by dsimp only; omega), (by dsimp only; omega), htr', (by dsimp only; omega), (by dsimp only; omega), (by dsimp only; omega), rfl, fun _ => ⟨rfl, rfl, rfl, rfl, rfl⟩⟩
        clear HZ
        obtain ⟨k0, k1, k2, k3, k4, k5, k6, k7, k8, k9, k10, k11, k12⟩ : Cells13 _ _ _ := hS.bg.cells
        clear k3
        go_wp2_with (refine wpList_store_row rfl 139 (.tmp 4) _ rfl w.heap.size _ (by rfl) (by rfl) _ _ hS.br (by kernel_rfl) (by rfl) (by simp [Value.oneCell']) ?_)
        (try simp only [Exit.inBlock, Exit.then]); refine bodyPost_ret (results_cell_row rfl _ _ w.heap.size _ _ _ _ rfl (setRow_heap _ _ _ _ _ _ hS.br) Tryz.underlying139 rfl (by kernel_rfl)) rfl ?_
        exact ⟨_, HZ'.out, rfl, hS.only.setRow (Nat.le_refl _) _, hS.cur.setRow hp _⟩

theorem wf_i64 {x : Int} (h : inI64 x) : (Lit.int .i64 x).wf = true := by
  have e1 : IntKind.min .i64 = -9223372036854775808 := by decide
  have e2 : IntKind.max .i64 = 9223372036854775807 := by decide
  obtain ⟨h1, h2⟩ := h
  simp only [Lit.wf, e1, e2, Bool.and_eq_true, decide_eq_true_eq]
  omega
theorem drP.wf {id : Int} {q : Pc} (h : drP id q) (hid : inI64 id) : q.wf := by
  intro x hx
  refine wf_i64 ?_
  obtain ⟨i1, i2⟩ := hid
  have h0 := h.id
  have h1 := h.ow
  have h2 := h.si
  have h3 := h.zo
  have h4 := h.st
  have h5 := h.po
  have h6 := h.to
  have h7 := h.tr
  have h8 := h.pl
  have h9 := h.mi
  have h10 := h.ma
  simp only [List.mem_cons, List.not_mem_nil, or_false] at hx
  rcases hx with rfl | rfl | rfl | rfl | rfl | rfl | rfl | rfl | rfl | rfl | rfl <;> constructor <;> omega
set_option maxHeartbeats 8000000 in
theorem l4Any_wf (p : Nat) (a : Option Addr) (len cap : Nat) (w : World) {B : Nat} (hc : Code w a len B) (hB : B ≤ p) (hcur : Cur w p a len cap) :
    Calls Tryz.prog 101 #[.pointer (some ⟨p, 0, none⟩)] w fun e w' => ∃ q : Pc, q.wf ∧ e = .returned (.agg #[.int .i64 q.id, .int .i64 q.ow, .int .i64 q.si, .int .i64 q.zo, .int .i64 q.st, .int .i64 q.po, .int .i64 q.to, .int .i64 q.tr, .int .i64 q.pl, .int .i64 q.mi, .int .i64 q.ma, .bool q.de, .bool q.be]) ∧ Only p w w' ∧ Cur w' p a len cap := by
  have hp : p < w.heap.size := hcur.1
  have ho0 : Only p w (w.alloc (.cells #[.int .i64 0, .int .i64 0, .int .i64 0, .int .i64 0, .int .i64 0, .int .i64 0, .int .i64 0, .int .i64 0, .int .i64 0, .int .i64 0, .int .i64 0, .bool false, .bool false] 139)) := (Only.refl p w).alloc _
  have hk0 : Cur (w.alloc (.cells #[.int .i64 0, .int .i64 0, .int .i64 0, .int .i64 0, .int .i64 0, .int .i64 0, .int .i64 0, .int .i64 0, .int .i64 0, .int .i64 0, .int .i64 0, .bool false, .bool false] 139)) p a len cap := hcur.only ((Only.refl w.heap.size w).alloc _) (Nat.ne_of_lt hp)
  have br0 : BoxP (w.alloc (.cells #[.int .i64 0, .int .i64 0, .int .i64 0, .int .i64 0, .int .i64 0, .int .i64 0, .int .i64 0, .int .i64 0, .int .i64 0, .int .i64 0, .int .i64 0, .bool false, .bool false] 139)) w.heap.size 139 ⟨0, 0, 0, 0, 0, 0, 0, 0, 0, 0, 0, false, false⟩ := heap_alloc_new w _
  generalize hW : w.alloc (.cells #[.int .i64 0, .int .i64 0, .int .i64 0, .int .i64 0, .int .i64 0, .int .i64 0, .int .i64 0, .int .i64 0, .int .i64 0, .int .i64 0, .int .i64 0, .bool false, .bool false] 139) = W at ho0 hk0 br0
  go_enter Tryz.func101, Tryz.ntmps101
  go_wp2_with fail
  clear hW hcur
  refine (l1Below_any p a len cap _ _ (hc.only ho0 hB) hB hk0).mono ?_
  rintro e u1 ⟨x, hx0, hx1, rfl, ho, hk⟩
  have hx2 := hx1 (by omega)
  replace br0 := br0.only ho (Nat.ne_of_gt hp)
  replace ho0 := ho0.trans ho
  clear hk0 ho hx1
  go_wp2_with fail
  refine (l4Draw_any p a len cap _ _ (hc.only ho0 hB) hB hk).mono ?_
  rintro e U ⟨q, hq, rfl, ho, hk'⟩
  replace br0 := br0.only ho (Nat.ne_of_gt hp)
  replace ho0 := ho0.trans ho
  have hqw : Hid q.wf := hq.wf ⟨by omega, by omega⟩
  clear ho hk hq
  have hwz := ho0.size
  have hrz := br0.lt
  have hnew : (U.alloc (.cells #[.int .i64 0, .int .i64 0, .int .i64 0, .int .i64 0, .int .i64 0, .int .i64 0, .int .i64 0, .int .i64 0, .int .i64 0, .int .i64 0, .int .i64 0, .bool false, .bool false] 139)).heap[U.heap.size]? = some (.cells #[.int .i64 0, .int .i64 0, .int .i64 0, .int .i64 0, .int .i64 0, .int .i64 0, .int .i64 0, .int .i64 0, .int .i64 0, .int .i64 0, .int .i64 0, .bool false, .bool false] 139 (0, 0)) := heap_alloc_new U _
  have hS : DS w p a len cap w.heap.size U.heap.size q ((U.alloc (.cells #[.int .i64 0, .int .i64 0, .int .i64 0, .int .i64 0, .int .i64 0, .int .i64 0, .int .i64 0, .int .i64 0, .int .i64 0, .int .i64 0, .int .i64 0, .bool false, .bool false] 139)).setRow U.heap.size #[.int .i64 q.id, .int .i64 q.ow, .int .i64 q.si, .int .i64 q.zo, .int .i64 q.st, .int .i64 q.po, .int .i64 q.to, .int .i64 q.tr, .int .i64 q.pl, .int .i64 q.mi, .int .i64 q.ma, .bool q.de, .bool q.be]) :=
    ⟨(ho0.alloc _).setRow hwz _, (hk'.only ((Only.refl U.heap.size U).alloc _) (Nat.ne_of_lt hk'.1)).setRow hk'.1 _, hp, Nat.le_refl _, hrz, (heap_setRow_other _ _ _ _ hrz).trans (br0.alloc _), setRow_heap _ _ _ _ _ _ hnew⟩
  clear ho0 hk' br0
  go_wp2_with (refine wpList_store_row rfl 139 (.tmp 3) _ rfl U.heap.size #[.int .i64 q.id, .int .i64 q.ow, .int .i64 q.si, .int .i64 q.zo, .int .i64 q.st, .int .i64 q.po, .int .i64 q.to, .int .i64 q.tr, .int .i64 q.pl, .int .i64 q.mi, .int .i64 q.ma, .bool q.de, .bool q.be] (by rfl) (by rfl) _ _ hnew (by kernel_rfl) (by rfl) (by simp [Value.oneCell']) ?_; generalize (U.alloc (.cells #[.int .i64 0, .int .i64 0, .int .i64 0, .int .i64 0, .int .i64 0, .int .i64 0, .int .i64 0, .int .i64 0, .int .i64 0, .int .i64 0, .int .i64 0, .bool false, .bool false] 139)).setRow U.heap.size #[.int .i64 q.id, .int .i64 q.ow, .int .i64 q.si, .int .i64 q.zo, .int .i64 q.st, .int .i64 q.po, .int .i64 q.to, .int .i64 q.tr, .int .i64 q.pl, .int .i64 q.mi, .int .i64 q.ma, .bool q.de, .bool q.be] = V at hS ⊢; clear hnew)
  refine (l1Below_any p a len cap _ _ (hc.only hS.only hB) hB hS.cur).mono ?_
  rintro e v0 ⟨y, hy0, hy1, rfl, ho, hk⟩
  have hS0 := hS.draw ho hk
  clear hS ho hk hy1
  by_cases hj0 : y = 0
  · subst hj0
    go_wp2_with fail
    refine (l1Int_new p a len cap [0, 99, 100] 3 _ (hc.only hS0.only hB) hB hS0.cur (by decide) (by decide)).mono ?_
    rintro e v1 ⟨z, hz, rfl, ho, hk⟩
    have hzw : Hid ((Lit.int .i64 z).wf = true) := wf_i64 (list_in _ (by decide) z hz)
    have hU := hS0.draw ho hk
    clear hS0 ho hk hz
    have kj : v1.cell? ⟨U.heap.size, 0, none⟩ = some (.int .i64 q.id) := hU.bg.cells.1
    have fj := hU.bg.froz 0
    have hT := hU.put (q' := ⟨z, q.ow, q.si, q.zo, q.st, q.po, q.to, q.tr, q.pl, q.mi, q.ma, q.de, q.be⟩) 0 (.int .i64 z) rfl
    generalize hX : v1.setCell ⟨U.heap.size, 0, none⟩ (.int .i64 z) = Y at hT
    clear hU
    have KK : Cells13 _ _ _ := hT.bg.cells
    obtain ⟨k0, k1, k2, k3, k4, k5, k6, k7, k8, k9, k10, k11, k12⟩ := KK
    go_wp2_with (refine wpList_store_row rfl 139 (.tmp 2) _ rfl w.heap.size _ (by rfl) (by rfl) _ _ hT.br (by kernel_rfl) (by rfl) (by simp [Value.oneCell']) ?_)
    (try simp only [Exit.inBlock, Exit.then]); refine bodyPost_ret (results_cell_row rfl _ _ w.heap.size _ _ _ _ rfl (setRow_heap _ _ _ _ _ _ hT.br) Tryz.underlying139 rfl (by kernel_rfl)) rfl ?_
    exact ⟨⟨z, q.ow, q.si, q.zo, q.st, q.po, q.to, q.tr, q.pl, q.mi, q.ma, q.de, q.be⟩, (by intro x hx; simp only [List.mem_cons, List.not_mem_nil, or_false] at hx; rcases hx with rfl | rfl | rfl | rfl | rfl | rfl | rfl | rfl | rfl | rfl | rfl <;> first | exact hzw.out | exact hqw.out _ (by simp)), rfl, hT.only.setRow (Nat.le_refl _) _, hT.cur.setRow hp _⟩
  by_cases hj1 : y = 1
  · subst hj1
    go_wp2_with fail
    refine (l1Int_new p a len cap [-1, 2, 3] 3 _ (hc.only hS0.only hB) hB hS0.cur (by decide) (by decide)).mono ?_
    rintro e v1 ⟨z, hz, rfl, ho, hk⟩
    have hzw : Hid ((Lit.int .i64 z).wf = true) := wf_i64 (list_in _ (by decide) z hz)
    have hU := hS0.draw ho hk
    clear hS0 ho hk hz
    have kj : v1.cell? ⟨U.heap.size, 1, none⟩ = some (.int .i64 q.ow) := hU.bg.cells.2.1
    have fj := hU.bg.froz 1
    have hT := hU.put (q' := ⟨q.id, z, q.si, q.zo, q.st, q.po, q.to, q.tr, q.pl, q.mi, q.ma, q.de, q.be⟩) 1 (.int .i64 z) rfl
    generalize hX : v1.setCell ⟨U.heap.size, 1, none⟩ (.int .i64 z) = Y at hT
    clear hU
    have KK : Cells13 _ _ _ := hT.bg.cells
    obtain ⟨k0, k1, k2, k3, k4, k5, k6, k7, k8, k9, k10, k11, k12⟩ := KK
    go_wp2_with (refine wpList_store_row rfl 139 (.tmp 2) _ rfl w.heap.size _ (by rfl) (by rfl) _ _ hT.br (by kernel_rfl) (by rfl) (by simp [Value.oneCell']) ?_)
    (try simp only [Exit.inBlock, Exit.then]); refine bodyPost_ret (results_cell_row rfl _ _ w.heap.size _ _ _ _ rfl (setRow_heap _ _ _ _ _ _ hT.br) Tryz.underlying139 rfl (by kernel_rfl)) rfl ?_
    exact ⟨⟨q.id, z, q.si, q.zo, q.st, q.po, q.to, q.tr, q.pl, q.mi, q.ma, q.de, q.be⟩, (by intro x hx; simp only [List.mem_cons, List.not_mem_nil, or_false] at hx; rcases hx with rfl | rfl | rfl | rfl | rfl | rfl | rfl | rfl | rfl | rfl | rfl <;> first | exact hzw.out | exact hqw.out _ (by simp)), rfl, hT.only.setRow (Nat.le_refl _) _, hT.cur.setRow hp _⟩
  by_cases hj2 : y = 2
  · subst hj2
    go_wp2_with fail
    refine (l1Int_new p a len cap [-1, 2, 3] 3 _ (hc.only hS0.only hB) hB hS0.cur (by decide) (by decide)).mono ?_
    rintro e v1 ⟨z, hz, rfl, ho, hk⟩
    have hzw : Hid ((Lit.int .i64 z).wf = true) := wf_i64 (list_in _ (by decide) z hz)
    have hU := hS0.draw ho hk
    clear hS0 ho hk hz
    have kj : v1.cell? ⟨U.heap.size, 2, none⟩ = some (.int .i64 q.si) := hU.bg.cells.2.2.1
    have fj := hU.bg.froz 2
    have hT := hU.put (q' := ⟨q.id, q.ow, z, q.zo, q.st, q.po, q.to, q.tr, q.pl, q.mi, q.ma, q.de, q.be⟩) 2 (.int .i64 z) rfl
    generalize hX : v1.setCell ⟨U.heap.size, 2, none⟩ (.int .i64 z) = Y at hT
    clear hU
    have KK : Cells13 _ _ _ := hT.bg.cells
    obtain ⟨k0, k1, k2, k3, k4, k5, k6, k7, k8, k9, k10, k11, k12⟩ := KK
    go_wp2_with (refine wpList_store_row rfl 139 (.tmp 2) _ rfl w.heap.size _ (by rfl) (by rfl) _ _ hT.br (by kernel_rfl) (by rfl) (by simp [Value.oneCell']) ?_)
    (try simp only [Exit.inBlock, Exit.then]); refine bodyPost_ret (results_cell_row rfl _ _ w.heap.size _ _ _ _ rfl (setRow_heap _ _ _ _ _ _ hT.br) Tryz.underlying139 rfl (by kernel_rfl)) rfl ?_
    exact ⟨⟨q.id, q.ow, z, q.zo, q.st, q.po, q.to, q.tr, q.pl, q.mi, q.ma, q.de, q.be⟩, (by intro x hx; simp only [List.mem_cons, List.not_mem_nil, or_false] at hx; rcases hx with rfl | rfl | rfl | rfl | rfl | rfl | rfl | rfl | rfl | rfl | rfl <;> first | exact hzw.out | exact hqw.out _ (by simp)), rfl, hT.only.setRow (Nat.le_refl _) _, hT.cur.setRow hp _⟩
  by_cases hj3 : y = 3
  · subst hj3
    go_wp2_with fail
    refine (l1Int_new p a len cap [0, 1, 4, 5] 3 _ (hc.only hS0.only hB) hB hS0.cur (by decide) (by decide)).mono ?_
    rintro e v1 ⟨z, hz, rfl, ho, hk⟩
    have hzw : Hid ((Lit.int .i64 z).wf = true) := wf_i64 (list_in _ (by decide) z hz)
    have hU := hS0.draw ho hk
    clear hS0 ho hk hz
    have kj : v1.cell? ⟨U.heap.size, 3, none⟩ = some (.int .i64 q.zo) := hU.bg.cells.2.2.2.1
    have fj := hU.bg.froz 3
    have hT := hU.put (q' := ⟨q.id, q.ow, q.si, z, q.st, q.po, q.to, q.tr, q.pl, q.mi, q.ma, q.de, q.be⟩) 3 (.int .i64 z) rfl
    generalize hX : v1.setCell ⟨U.heap.size, 3, none⟩ (.int .i64 z) = Y at hT
    clear hU
    have KK : Cells13 _ _ _ := hT.bg.cells
    obtain ⟨k0, k1, k2, k3, k4, k5, k6, k7, k8, k9, k10, k11, k12⟩ := KK
    go_wp2_with (refine wpList_store_row rfl 139 (.tmp 2) _ rfl w.heap.size _ (by rfl) (by rfl) _ _ hT.br (by kernel_rfl) (by rfl) (by simp [Value.oneCell']) ?_)
    (try simp only [Exit.inBlock, Exit.then]); refine bodyPost_ret (results_cell_row rfl _ _ w.heap.size _ _ _ _ rfl (setRow_heap _ _ _ _ _ _ hT.br) Tryz.underlying139 rfl (by kernel_rfl)) rfl ?_
    exact ⟨⟨q.id, q.ow, q.si, z, q.st, q.po, q.to, q.tr, q.pl, q.mi, q.ma, q.de, q.be⟩, (by intro x hx; simp only [List.mem_cons, List.not_mem_nil, or_false] at hx; rcases hx with rfl | rfl | rfl | rfl | rfl | rfl | rfl | rfl | rfl | rfl | rfl <;> first | exact hzw.out | exact hqw.out _ (by simp)), rfl, hT.only.setRow (Nat.le_refl _) _, hT.cur.setRow hp _⟩
  by_cases hj4 : y = 4
  · subst hj4
    go_wp2_with fail
    refine (l1Int_new p a len cap [-1, 9999, 10000] 3 _ (hc.only hS0.only hB) hB hS0.cur (by decide) (by decide)).mono ?_
    rintro e v1 ⟨z, hz, rfl, ho, hk⟩
    have hzw : Hid ((Lit.int .i64 z).wf = true) := wf_i64 (list_in _ (by decide) z hz)
    have hU := hS0.draw ho hk
    clear hS0 ho hk hz
    have kj : v1.cell? ⟨U.heap.size, 4, none⟩ = some (.int .i64 q.st) := hU.bg.cells.2.2.2.2.1
    have fj := hU.bg.froz 4
    have hT := hU.put (q' := ⟨q.id, q.ow, q.si, q.zo, z, q.po, q.to, q.tr, q.pl, q.mi, q.ma, q.de, q.be⟩) 4 (.int .i64 z) rfl
    generalize hX : v1.setCell ⟨U.heap.size, 4, none⟩ (.int .i64 z) = Y at hT
    clear hU
    have KK : Cells13 _ _ _ := hT.bg.cells
    obtain ⟨k0, k1, k2, k3, k4, k5, k6, k7, k8, k9, k10, k11, k12⟩ := KK
    go_wp2_with (refine wpList_store_row rfl 139 (.tmp 2) _ rfl w.heap.size _ (by rfl) (by rfl) _ _ hT.br (by kernel_rfl) (by rfl) (by simp [Value.oneCell']) ?_)
    (try simp only [Exit.inBlock, Exit.then]); refine bodyPost_ret (results_cell_row rfl _ _ w.heap.size _ _ _ _ rfl (setRow_heap _ _ _ _ _ _ hT.br) Tryz.underlying139 rfl (by kernel_rfl)) rfl ?_
    exact ⟨⟨q.id, q.ow, q.si, q.zo, z, q.po, q.to, q.tr, q.pl, q.mi, q.ma, q.de, q.be⟩, (by intro x hx; simp only [List.mem_cons, List.not_mem_nil, or_false] at hx; rcases hx with rfl | rfl | rfl | rfl | rfl | rfl | rfl | rfl | rfl | rfl | rfl <;> first | exact hzw.out | exact hqw.out _ (by simp)), rfl, hT.only.setRow (Nat.le_refl _) _, hT.cur.setRow hp _⟩
  by_cases hj5 : y = 5
  · subst hj5
    go_wp2_with fail
    refine (l1Int_new p a len cap [-1, 999, 1000] 3 _ (hc.only hS0.only hB) hB hS0.cur (by decide) (by decide)).mono ?_
    rintro e v1 ⟨z, hz, rfl, ho, hk⟩
    have hzw : Hid ((Lit.int .i64 z).wf = true) := wf_i64 (list_in _ (by decide) z hz)
    have hU := hS0.draw ho hk
    clear hS0 ho hk hz
    have kj : v1.cell? ⟨U.heap.size, 5, none⟩ = some (.int .i64 q.po) := hU.bg.cells.2.2.2.2.2.1
    have fj := hU.bg.froz 5
    have hT := hU.put (q' := ⟨q.id, q.ow, q.si, q.zo, q.st, z, q.to, q.tr, q.pl, q.mi, q.ma, q.de, q.be⟩) 5 (.int .i64 z) rfl
    generalize hX : v1.setCell ⟨U.heap.size, 5, none⟩ (.int .i64 z) = Y at hT
    clear hU
    have KK : Cells13 _ _ _ := hT.bg.cells
    obtain ⟨k0, k1, k2, k3, k4, k5, k6, k7, k8, k9, k10, k11, k12⟩ := KK
    go_wp2_with (refine wpList_store_row rfl 139 (.tmp 2) _ rfl w.heap.size _ (by rfl) (by rfl) _ _ hT.br (by kernel_rfl) (by rfl) (by simp [Value.oneCell']) ?_)
    (try simp only [Exit.inBlock, Exit.then]); refine bodyPost_ret (results_cell_row rfl _ _ w.heap.size _ _ _ _ rfl (setRow_heap _ _ _ _ _ _ hT.br) Tryz.underlying139 rfl (by kernel_rfl)) rfl ?_
    exact ⟨⟨q.id, q.ow, q.si, q.zo, q.st, z, q.to, q.tr, q.pl, q.mi, q.ma, q.de, q.be⟩, (by intro x hx; simp only [List.mem_cons, List.not_mem_nil, or_false] at hx; rcases hx with rfl | rfl | rfl | rfl | rfl | rfl | rfl | rfl | rfl | rfl | rfl <;> first | exact hzw.out | exact hqw.out _ (by simp)), rfl, hT.only.setRow (Nat.le_refl _) _, hT.cur.setRow hp _⟩
  by_cases hj6 : y = 6
  · subst hj6
    go_wp2_with fail
    refine (l1Int_new p a len cap [-1, 999, 1000] 3 _ (hc.only hS0.only hB) hB hS0.cur (by decide) (by decide)).mono ?_
    rintro e v1 ⟨z, hz, rfl, ho, hk⟩
    have hzw : Hid ((Lit.int .i64 z).wf = true) := wf_i64 (list_in _ (by decide) z hz)
    have hU := hS0.draw ho hk
    clear hS0 ho hk hz
    have kj : v1.cell? ⟨U.heap.size, 6, none⟩ = some (.int .i64 q.to) := hU.bg.cells.2.2.2.2.2.2.1
    have fj := hU.bg.froz 6
    have hT := hU.put (q' := ⟨q.id, q.ow, q.si, q.zo, q.st, q.po, z, q.tr, q.pl, q.mi, q.ma, q.de, q.be⟩) 6 (.int .i64 z) rfl
    generalize hX : v1.setCell ⟨U.heap.size, 6, none⟩ (.int .i64 z) = Y at hT
    clear hU
    have KK : Cells13 _ _ _ := hT.bg.cells
    obtain ⟨k0, k1, k2, k3, k4, k5, k6, k7, k8, k9, k10, k11, k12⟩ := KK
    go_wp2_with (refine wpList_store_row rfl 139 (.tmp 2) _ rfl w.heap.size _ (by rfl) (by rfl) _ _ hT.br (by kernel_rfl) (by rfl) (by simp [Value.oneCell']) ?_)
    (try simp only [Exit.inBlock, Exit.then]); refine bodyPost_ret (results_cell_row rfl _ _ w.heap.size _ _ _ _ rfl (setRow_heap _ _ _ _ _ _ hT.br) Tryz.underlying139 rfl (by kernel_rfl)) rfl ?_
    exact ⟨⟨q.id, q.ow, q.si, q.zo, q.st, q.po, z, q.tr, q.pl, q.mi, q.ma, q.de, q.be⟩, (by intro x hx; simp only [List.mem_cons, List.not_mem_nil, or_false] at hx; rcases hx with rfl | rfl | rfl | rfl | rfl | rfl | rfl | rfl | rfl | rfl | rfl <;> first | exact hzw.out | exact hqw.out _ (by simp)), rfl, hT.only.setRow (Nat.le_refl _) _, hT.cur.setRow hp _⟩
  by_cases hj7 : y = 7
  · subst hj7
    go_wp2_with fail
    refine (l1Int_new p a len cap [-1, 63, 64] 3 _ (hc.only hS0.only hB) hB hS0.cur (by decide) (by decide)).mono ?_
    rintro e v1 ⟨z, hz, rfl, ho, hk⟩
    have hzw : Hid ((Lit.int .i64 z).wf = true) := wf_i64 (list_in _ (by decide) z hz)
    have hU := hS0.draw ho hk
    clear hS0 ho hk hz
    have kj : v1.cell? ⟨U.heap.size, 7, none⟩ = some (.int .i64 q.tr) := hU.bg.cells.2.2.2.2.2.2.2.1
    have fj := hU.bg.froz 7
    have hT := hU.put (q' := ⟨q.id, q.ow, q.si, q.zo, q.st, q.po, q.to, z, q.pl, q.mi, q.ma, q.de, q.be⟩) 7 (.int .i64 z) rfl
    generalize hX : v1.setCell ⟨U.heap.size, 7, none⟩ (.int .i64 z) = Y at hT
    clear hU
    have KK : Cells13 _ _ _ := hT.bg.cells
    obtain ⟨k0, k1, k2, k3, k4, k5, k6, k7, k8, k9, k10, k11, k12⟩ := KK
    go_wp2_with (refine wpList_store_row rfl 139 (.tmp 2) _ rfl w.heap.size _ (by rfl) (by rfl) _ _ hT.br (by kernel_rfl) (by rfl) (by simp [Value.oneCell']) ?_)
    (try simp only [Exit.inBlock, Exit.then]); refine bodyPost_ret (results_cell_row rfl _ _ w.heap.size _ _ _ _ rfl (setRow_heap _ _ _ _ _ _ hT.br) Tryz.underlying139 rfl (by kernel_rfl)) rfl ?_
    exact ⟨⟨q.id, q.ow, q.si, q.zo, q.st, q.po, q.to, z, q.pl, q.mi, q.ma, q.de, q.be⟩, (by intro x hx; simp only [List.mem_cons, List.not_mem_nil, or_false] at hx; rcases hx with rfl | rfl | rfl | rfl | rfl | rfl | rfl | rfl | rfl | rfl | rfl <;> first | exact hzw.out | exact hqw.out _ (by simp)), rfl, hT.only.setRow (Nat.le_refl _) _, hT.cur.setRow hp _⟩
  by_cases hj8 : y = 8
  · subst hj8
    go_wp2_with fail
    refine (l1Raw_any p a len cap _ (hc.only hS0.only hB) hB hS0.cur).mono ?_
    rintro e v1 ⟨z, hz, rfl, ho, hk⟩
    have hzw : Hid ((Lit.int .i64 z).wf = true) := wf_i64 (hz)
    have hU := hS0.draw ho hk
    clear hS0 ho hk hz
    have kj : v1.cell? ⟨U.heap.size, 8, none⟩ = some (.int .i64 q.pl) := hU.bg.cells.2.2.2.2.2.2.2.2.1
    have fj := hU.bg.froz 8
    have hT := hU.put (q' := ⟨q.id, q.ow, q.si, q.zo, q.st, q.po, q.to, q.tr, z, q.mi, q.ma, q.de, q.be⟩) 8 (.int .i64 z) rfl
    generalize hX : v1.setCell ⟨U.heap.size, 8, none⟩ (.int .i64 z) = Y at hT
    clear hU
    have KK : Cells13 _ _ _ := hT.bg.cells
    obtain ⟨k0, k1, k2, k3, k4, k5, k6, k7, k8, k9, k10, k11, k12⟩ := KK
    go_wp2_with (refine wpList_store_row rfl 139 (.tmp 2) _ rfl w.heap.size _ (by rfl) (by rfl) _ _ hT.br (by kernel_rfl) (by rfl) (by simp [Value.oneCell']) ?_)
    (try simp only [Exit.inBlock, Exit.then]); refine bodyPost_ret (results_cell_row rfl _ _ w.heap.size _ _ _ _ rfl (setRow_heap _ _ _ _ _ _ hT.br) Tryz.underlying139 rfl (by kernel_rfl)) rfl ?_
    exact ⟨⟨q.id, q.ow, q.si, q.zo, q.st, q.po, q.to, q.tr, z, q.mi, q.ma, q.de, q.be⟩, (by intro x hx; simp only [List.mem_cons, List.not_mem_nil, or_false] at hx; rcases hx with rfl | rfl | rfl | rfl | rfl | rfl | rfl | rfl | rfl | rfl | rfl <;> first | exact hzw.out | exact hqw.out _ (by simp)), rfl, hT.only.setRow (Nat.le_refl _) _, hT.cur.setRow hp _⟩
  by_cases hj9 : y = 9
  · subst hj9
    go_wp2_with fail
    refine (l1Raw_any p a len cap _ (hc.only hS0.only hB) hB hS0.cur).mono ?_
    rintro e v1 ⟨z, hz, rfl, ho, hk⟩
    have hzw : Hid ((Lit.int .i64 z).wf = true) := wf_i64 (hz)
    have hU := hS0.draw ho hk
    clear hS0 ho hk hz
    have kj : v1.cell? ⟨U.heap.size, 9, none⟩ = some (.int .i64 q.mi) := hU.bg.cells.2.2.2.2.2.2.2.2.2.1
    have fj := hU.bg.froz 9
    have hT := hU.put (q' := ⟨q.id, q.ow, q.si, q.zo, q.st, q.po, q.to, q.tr, q.pl, z, q.ma, q.de, q.be⟩) 9 (.int .i64 z) rfl
    generalize hX : v1.setCell ⟨U.heap.size, 9, none⟩ (.int .i64 z) = Y at hT
    clear hU
    have KK : Cells13 _ _ _ := hT.bg.cells
    obtain ⟨k0, k1, k2, k3, k4, k5, k6, k7, k8, k9, k10, k11, k12⟩ := KK
    go_wp2_with (refine wpList_store_row rfl 139 (.tmp 2) _ rfl w.heap.size _ (by rfl) (by rfl) _ _ hT.br (by kernel_rfl) (by rfl) (by simp [Value.oneCell']) ?_)
    (try simp only [Exit.inBlock, Exit.then]); refine bodyPost_ret (results_cell_row rfl _ _ w.heap.size _ _ _ _ rfl (setRow_heap _ _ _ _ _ _ hT.br) Tryz.underlying139 rfl (by kernel_rfl)) rfl ?_
    exact ⟨⟨q.id, q.ow, q.si, q.zo, q.st, q.po, q.to, q.tr, q.pl, z, q.ma, q.de, q.be⟩, (by intro x hx; simp only [List.mem_cons, List.not_mem_nil, or_false] at hx; rcases hx with rfl | rfl | rfl | rfl | rfl | rfl | rfl | rfl | rfl | rfl | rfl <;> first | exact hzw.out | exact hqw.out _ (by simp)), rfl, hT.only.setRow (Nat.le_refl _) _, hT.cur.setRow hp _⟩
  by_cases hj10 : y = 10
  · subst hj10
    go_wp2_with fail
    refine (l1Raw_any p a len cap _ (hc.only hS0.only hB) hB hS0.cur).mono ?_
    rintro e v1 ⟨z, hz, rfl, ho, hk⟩
    have hzw : Hid ((Lit.int .i64 z).wf = true) := wf_i64 (hz)
    have hU := hS0.draw ho hk
    clear hS0 ho hk hz
    have kj : v1.cell? ⟨U.heap.size, 10, none⟩ = some (.int .i64 q.ma) := hU.bg.cells.2.2.2.2.2.2.2.2.2.2.1
    have fj := hU.bg.froz 10
    have hT := hU.put (q' := ⟨q.id, q.ow, q.si, q.zo, q.st, q.po, q.to, q.tr, q.pl, q.mi, z, q.de, q.be⟩) 10 (.int .i64 z) rfl
    generalize hX : v1.setCell ⟨U.heap.size, 10, none⟩ (.int .i64 z) = Y at hT
    clear hU
    have KK : Cells13 _ _ _ := hT.bg.cells
    obtain ⟨k0, k1, k2, k3, k4, k5, k6, k7, k8, k9, k10, k11, k12⟩ := KK
    go_wp2_with (refine wpList_store_row rfl 139 (.tmp 2) _ rfl w.heap.size _ (by rfl) (by rfl) _ _ hT.br (by kernel_rfl) (by rfl) (by simp [Value.oneCell']) ?_)
    (try simp only [Exit.inBlock, Exit.then]); refine bodyPost_ret (results_cell_row rfl _ _ w.heap.size _ _ _ _ rfl (setRow_heap _ _ _ _ _ _ hT.br) Tryz.underlying139 rfl (by kernel_rfl)) rfl ?_
    exact ⟨⟨q.id, q.ow, q.si, q.zo, q.st, q.po, q.to, q.tr, q.pl, q.mi, z, q.de, q.be⟩, (by intro x hx; simp only [List.mem_cons, List.not_mem_nil, or_false] at hx; rcases hx with rfl | rfl | rfl | rfl | rfl | rfl | rfl | rfl | rfl | rfl | rfl <;> first | exact hzw.out | exact hqw.out _ (by simp)), rfl, hT.only.setRow (Nat.le_refl _) _, hT.cur.setRow hp _⟩
  by_cases hj11 : y = 11
  · subst hj11
    have hU := hS0
    clear hS0
    have kj : v0.cell? ⟨U.heap.size, 11, none⟩ = some (.bool q.de) := hU.bg.cells.2.2.2.2.2.2.2.2.2.2.2.1
    have fj := hU.bg.froz 11
    have hT := hU.put (q' := ⟨q.id, q.ow, q.si, q.zo, q.st, q.po, q.to, q.tr, q.pl, q.mi, q.ma, true, q.be⟩) 11 (.bool true) rfl
    generalize hX : v0.setCell ⟨U.heap.size, 11, none⟩ (.bool true) = Y at hT
    clear hU
    have KK : Cells13 _ _ _ := hT.bg.cells
    obtain ⟨k0, k1, k2, k3, k4, k5, k6, k7, k8, k9, k10, k11, k12⟩ := KK
    go_wp2_with (refine wpList_store_row rfl 139 (.tmp 2) _ rfl w.heap.size _ (by rfl) (by rfl) _ _ hT.br (by kernel_rfl) (by rfl) (by simp [Value.oneCell']) ?_)
    (try simp only [Exit.inBlock, Exit.then]); refine bodyPost_ret (results_cell_row rfl _ _ w.heap.size _ _ _ _ rfl (setRow_heap _ _ _ _ _ _ hT.br) Tryz.underlying139 rfl (by kernel_rfl)) rfl ?_
    exact ⟨⟨q.id, q.ow, q.si, q.zo, q.st, q.po, q.to, q.tr, q.pl, q.mi, q.ma, true, q.be⟩, (fun x hx => hqw.out x hx), rfl, hT.only.setRow (Nat.le_refl _) _, hT.cur.setRow hp _⟩
  · have hT := hS0
    clear hS0
    have KK : Cells13 _ _ _ := hT.bg.cells
    obtain ⟨k0, k1, k2, k3, k4, k5, k6, k7, k8, k9, k10, k11, k12⟩ := KK
    go_wp2_with (refine wpList_store_row rfl 139 (.tmp 2) _ rfl w.heap.size _ (by rfl) (by rfl) _ _ hT.br (by kernel_rfl) (by rfl) (by simp [Value.oneCell']) ?_)
    (try simp only [Exit.inBlock, Exit.then]); refine bodyPost_ret (results_cell_row rfl _ _ w.heap.size _ _ _ _ rfl (setRow_heap _ _ _ _ _ _ hT.br) Tryz.underlying139 rfl (by kernel_rfl)) rfl ?_
    exact ⟨q, hqw.out, rfl, hT.only.setRow (Nat.le_refl _) _, hT.cur.setRow hp _⟩
theorem l4Any_any (p : Nat) (a : Option Addr) (len cap : Nat) (w : World) {B : Nat} (hc : Code w a len B) (hB : B ≤ p) (hcur : Cur w p a len cap) :
    Calls Tryz.prog 101 #[.pointer (some ⟨p, 0, none⟩)] w fun e w' => ∃ q : Pc, e = .returned (.agg #[.int .i64 q.id, .int .i64 q.ow, .int .i64 q.si, .int .i64 q.zo, .int .i64 q.st, .int .i64 q.po, .int .i64 q.to, .int .i64 q.tr, .int .i64 q.pl, .int .i64 q.mi, .int .i64 q.ma, .bool q.de, .bool q.be]) ∧ Only p w w' ∧ Cur w' p a len cap :=
  (l4Any_wf p a len cap w hc hB hcur).mono fun _ _ ⟨q, _, h⟩ => ⟨q, h⟩
end Go.Proofs.YtodfdfncdoliiadGreat
