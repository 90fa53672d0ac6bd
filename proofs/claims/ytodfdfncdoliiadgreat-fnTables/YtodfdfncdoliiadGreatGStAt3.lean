/-
  Chapter 5, the program's PieceAt, and where a new piece goes: the library's IndexFunc at pieces. Chapter 9: the specification's Parts (paN, paF: how many, which). Written by tools/ac.gen.py. Chapter 10: the specification's SameEffect (smEf). Written by tools/ef.gen.py. Own work.
-/
import Derived.Test.YtodfdfncdoliiadGreatGPaB5
import Derived.Test.YtodfdfncdoliiadGreatGTaB7
import Derived.Test.YtodfdfncdoliiadGreatGEfC3
import Derived.Deep.DeepCutAuto
import Derived.Deep.CutBlock
namespace Go.Proofs.YtodfdfncdoliiadGreat
open Go.ChangeShapes Go.WideShapes Go.ChangeAt Go.RowKit
set_option maxRecDepth 100000
set_option linter.unusedVariables false
/-- the place of the first piece that P is true of -/
def ixI (n : Nat) (f : Nat → Pc) (P : Pc → Bool) : Int := match (List.range n).find? (fun i => P (f i)) with | some i => (i : Int) | none => -1
theorem ixI_at {n k : Nat} {f : Nat → Pc} {P : Pc → Bool} (hk : k < n) (h : P (f k) = true) (h0 : ∀ j, j < k → P (f j) = false) : ixI n f P = (k : Int) := by
  have : (List.range n).find? (fun i => P (f i)) = some k := by
    rw [List.find?_range_eq_some]
    exact ⟨h, List.mem_range.2 hk, fun j hj => by rw [h0 j hj]; rfl⟩
  unfold ixI
  rw [this]
theorem ixI_none {n : Nat} {f : Nat → Pc} {P : Pc → Bool} (h0 : ∀ j, j < n → P (f j) = false) : ixI n f P = -1 := by
  have : (List.range n).find? (fun i => P (f i)) = none := by
    rw [List.find?_eq_none]
    exact fun j hj => by rw [h0 j (List.mem_range.1 hj)]; simp
  unfold ixI
  rw [this]
theorem below_new2' (w : World) (o : Obj) : Below w.heap.size w (w.alloc o) := (Below.refl _ _).alloc (Nat.le_refl _) _
/-- a piece laid into a new block -/
theorem bV_of (wr : World) (p : Pc) : BoxP ((wr.alloc (.cells #[.int .i64 0, .int .i64 0, .int .i64 0, .int .i64 0, .int .i64 0, .int .i64 0, .int .i64 0, .int .i64 0, .int .i64 0, .int .i64 0, .int .i64 0, .bool false, .bool false] 139)).setRow wr.heap.size #[.int .i64 p.id, .int .i64 p.ow, .int .i64 p.si, .int .i64 p.zo, .int .i64 p.st, .int .i64 p.po, .int .i64 p.to, .int .i64 p.tr, .int .i64 p.pl, .int .i64 p.mi, .int .i64 p.ma, .bool p.de, .bool p.be]) wr.heap.size 139 p := setRow_heap _ _ _ _ _ _ (heap_alloc_new wr _)
theorem hbV_of (wr : World) (p : Pc) : Below wr.heap.size wr ((wr.alloc (.cells #[.int .i64 0, .int .i64 0, .int .i64 0, .int .i64 0, .int .i64 0, .int .i64 0, .int .i64 0, .int .i64 0, .int .i64 0, .int .i64 0, .int .i64 0, .bool false, .bool false] 139)).setRow wr.heap.size #[.int .i64 p.id, .int .i64 p.ow, .int .i64 p.si, .int .i64 p.zo, .int .i64 p.st, .int .i64 p.po, .int .i64 p.to, .int .i64 p.tr, .int .i64 p.pl, .int .i64 p.mi, .int .i64 p.ma, .bool p.de, .bool p.be]) := below_setRow ((Below.refl _ _).alloc (Nat.le_refl _) _) (Nat.le_refl _) _
theorem bS_of (wr : World) (s : Sd) : BoxR ((wr.alloc (.cells #[.int .i64 0, .int .i64 0, .bool false] 137)).setRow wr.heap.size #[.int .i64 s.li, .int .i64 s.po, .bool s.lo]) wr.heap.size 137 #[.int .i64 s.li, .int .i64 s.po, .bool s.lo] := setRow_heap _ _ _ _ _ _ (heap_alloc_new wr _)
theorem hbS_of (wr : World) (s : Sd) : Below wr.heap.size wr ((wr.alloc (.cells #[.int .i64 0, .int .i64 0, .bool false] 137)).setRow wr.heap.size #[.int .i64 s.li, .int .i64 s.po, .bool s.lo]) := below_setRow ((Below.refl _ _).alloc (Nat.le_refl _) _) (Nat.le_refl _) _
set_option maxHeartbeats 1000000 in
theorem isId_any (p : Pc) (q : Nat) (id : Int) (w : World) (hq : w.cell? ⟨q, 0, none⟩ = some (.int .i64 id)) :
    Calls Tryz.prog 168 #[(.agg #[.int .i64 p.id, .int .i64 p.ow, .int .i64 p.si, .int .i64 p.zo, .int .i64 p.st, .int .i64 p.po, .int .i64 p.to, .int .i64 p.tr, .int .i64 p.pl, .int .i64 p.mi, .int .i64 p.ma, .bool p.de, .bool p.be]), .pointer (some ⟨q, 0, none⟩)] w fun e w' => e = .returned (.bool (decide (p.id = id))) ∧ Below w.heap.size w w' := by
  have hlt : q < w.heap.size := World.block_lt_of_cell? w _ hq
  have hq' : (w.alloc (.cells #[.int .i64 p.id, .int .i64 p.ow, .int .i64 p.si, .int .i64 p.zo, .int .i64 p.st, .int .i64 p.po, .int .i64 p.to, .int .i64 p.tr, .int .i64 p.pl, .int .i64 p.mi, .int .i64 p.ma, .bool p.de, .bool p.be] 139)).cell? ⟨q, 0, none⟩ = some (.int .i64 id) := ((below_new2' w _).cell (p := ⟨q, 0, none⟩) hlt).trans hq
  go_enter Tryz.func168, Tryz.ntmps168
  go_wp2
  go_ret
  exact ⟨ret_bool' (by first | rfl | simp), (Below.refl _ w).alloc (Nat.le_refl _) _⟩
set_option maxHeartbeats 2000000 in
theorem ixEq_any (q : Nat) (id : Int) (a : Option Addr) (b n c : Nat) (f : Nat → Pc) (w : World) (hn : n ≤ 9223372036854775807) (hq : w.cell? ⟨q, 0, none⟩ = some (.int .i64 id)) (h : RdE pcC 13 w b a n f) :
    Calls Tryz.prog 167 #[.slice a n c, .func (.func 168) #[] #[.pointer (some ⟨q, 0, none⟩)]] w fun e w' => e = .returned (.int .i64 (ixI n f (fun p => decide (p.id = id)))) ∧ Below w.heap.size w w' := by
  go_enter Tryz.func167, Tryz.ntmps167
  go_wp2
  go_loopw [5, 8] (fun _ i wr => ∃ k : Nat, k ≤ n ∧ i = .int .i64 k ∧ Below w.heap.size w wr ∧ Hid (∀ j, j < k → (fun p : Pc => decide (p.id = id)) (f j) = false)) (fun _ i _ => n - (intOf i).toNat)
  case atStart => exact ⟨0, Nat.zero_le _, rfl, Below.refl _ _, fun j hj => by omega⟩
  case round =>
    obtain ⟨k, hk, rfl, hb, hall⟩ := hrel
    by_cases hlt : k < n
    · rcases h.grew pcC_ne hb with g1 | ⟨o1, rfl, g1⟩
      · omega
      obtain ⟨k0, k1, k2, k3, k4, k5, k6, k7, k8, k9, k10, k11, k12⟩ : At13 wr b (o1 + k * 13) (f k) := At13_of (g1 k hlt)
      have hq' : wr.cell? ⟨q, 0, none⟩ = some (.int .i64 id) := (hb.cell (p := ⟨q, 0, none⟩) (World.block_lt_of_cell? w _ hq)).trans hq
      have y1 : (0 : Int) ≤ (k : Int) := by omega
      have y2 : (k : Int) < (n : Int) := by omega
      clear g1
      cases he : (fun p : Pc => decide (p.id = id)) (f k) with
      | true =>
        have HN : Hid (ixI n f (fun p => decide (p.id = id)) = (k : Int)) := ixI_at hlt he hall.out
        have HC : Hid (∀ u, u.cell? ⟨q, 0, none⟩ = some (.int .i64 id) → Calls Tryz.prog 168 #[(.agg #[.int .i64 (f k).id, .int .i64 (f k).ow, .int .i64 (f k).si, .int .i64 (f k).zo, .int .i64 (f k).st, .int .i64 (f k).po, .int .i64 (f k).to, .int .i64 (f k).tr, .int .i64 (f k).pl, .int .i64 (f k).mi, .int .i64 (f k).ma, .bool (f k).de, .bool (f k).be]), .pointer (some ⟨q, 0, none⟩)] u fun e w' => e = .returned (.bool true) ∧ Below u.heap.size u w') := fun u hu => by have := isId_any (f k) q id u hu; rwa [show (decide ((f k).id = id)) = true from he] at this
        clear he hall h
        go_wp2_with (go_at_call 168; refine (HC.out _ hq').mono ?_; rintro e w2 ⟨rfl, hb2⟩)
        go_ret
        exact ⟨ret_int HN.out.symm, below_app hb hb2 hb.size⟩
      | false =>
        have HA : Hid (∀ j, j < k + 1 → (fun p : Pc => decide (p.id = id)) (f j) = false) := fun j hj => by
          by_cases e : j = k
          · subst e; exact he
          · exact hall.out j (by omega)
        have HC : Hid (∀ u, u.cell? ⟨q, 0, none⟩ = some (.int .i64 id) → Calls Tryz.prog 168 #[(.agg #[.int .i64 (f k).id, .int .i64 (f k).ow, .int .i64 (f k).si, .int .i64 (f k).zo, .int .i64 (f k).st, .int .i64 (f k).po, .int .i64 (f k).to, .int .i64 (f k).tr, .int .i64 (f k).pl, .int .i64 (f k).mi, .int .i64 (f k).ma, .bool (f k).de, .bool (f k).be]), .pointer (some ⟨q, 0, none⟩)] u fun e w' => e = .returned (.bool false) ∧ Below u.heap.size u w') := fun u hu => by have := isId_any (f k) q id u hu; rwa [show (decide ((f k).id = id)) = false from he] at this
        clear he hall h
        go_wp2_with (go_at_call 168; refine (HC.out _ hq').mono ?_; rintro e w2 ⟨rfl, hb2⟩)
        have hB := below_app hb hb2 hb.size
        clear hb hb2 hq' k0 k1 k2 k3 k4 k5 k6 k7 k8 k9 k10 k11 k12
        go_roundw
        case rel => first | exact ⟨k + 1, by omega, by go_num, hB, HA⟩ | ((repeat apply Exists.intro); exact ⟨⟨k + 1, by omega, by go_num, hB, HA⟩, rfl⟩)
        case measure => simp [intOf]; omega
    · obtain rfl : k = n := by omega
      have HN : Hid (ixI k f (fun p => decide (p.id = id)) = -1) := ixI_none hall.out
      clear hall
      go_wp2
      go_ret
      exact ⟨ret_int HN.out.symm, hb⟩
set_option maxHeartbeats 1000000 in
theorem implPieceAt_any (s : Stt) (id : Int) (w : World) (hok : s.ok w) (hn : s.pn ≤ 1048577) : Calls Tryz.prog 164 #[(.agg #[.slice s.pa s.pn s.pcap, .slice s.sa s.sn s.scap, .int .i64 s.ac, .int .i64 s.cl]), .int .i64 id] w fun e w' => e = .returned (.int .i64 (paI s.pn s.ps id)) ∧ Below w.heap.size w w' := by
  obtain ⟨_, _, r1, _⟩ := hok
  have hb0 := ((Below.refl _ w).alloc (Nat.le_refl _) (.cells #[.slice s.pa s.pn s.pcap, .slice s.sa s.sn s.scap, .int .i64 s.ac, .int .i64 s.cl] 37)).alloc (by simp) (.cells #[.int .i64 id] 3)
  have x1 := (boxR_new w 37 #[.slice s.pa s.pn s.pcap, .slice s.sa s.sn s.scap, .int .i64 s.ac, .int .i64 s.cl]).alloc (.cells #[.int .i64 id] 3)
  have x2 : BoxR ((w.alloc (.cells #[.slice s.pa s.pn s.pcap, .slice s.sa s.sn s.scap, .int .i64 s.ac, .int .i64 s.cl] 37)).alloc (.cells #[.int .i64 id] 3)) (w.heap.size + 1) 3 #[.int .i64 id] := heap_alloc2_new _ _ _
  generalize hW : (w.alloc (.cells #[.slice s.pa s.pn s.pcap, .slice s.sa s.sn s.scap, .int .i64 s.ac, .int .i64 s.cl] 37)).alloc (.cells #[.int .i64 id] 3) = W at hb0 x1 x2
  have c0 := x1.cell 0
  have d0 := x2.cell 0
  simp at c0 d0
  go_enter Tryz.func164, Tryz.ntmps164
  go_wp2_with fail
  refine (ixEq_any (w.heap.size + 1) id s.pa s.pb s.pn s.pcap s.ps W (by omega) d0 (r1.grew pcC_ne hb0)).mono ?_
  rintro e w1 ⟨rfl, hb1⟩
  go_wp2
  go_ret
  exact ⟨rfl, below_app hb0 hb1 hb0.size⟩
/-- the place of the first piece of a greater number, or behind all -/
def pnN (n : Nat) (f : Nat → Pc) (id : Int) : Nat := match (List.range n).find? (fun i => decide (id < (f i).id)) with | some i => i | none => n
theorem pnN_le (n : Nat) (f : Nat → Pc) (id : Int) : pnN n f id ≤ n := by
  unfold pnN
  cases h : (List.range n).find? (fun i => decide (id < (f i).id)) with
  | none => exact Nat.le_refl _
  | some i => exact Nat.le_of_lt (List.mem_range.1 (List.mem_of_find?_eq_some h))
theorem pnN_ix (n : Nat) (f : Nat → Pc) (id : Int) : (ixI n f (fun p => decide (id < p.id)) = -1 ∧ pnN n f id = n) ∨ (∃ k : Nat, ixI n f (fun p => decide (id < p.id)) = (k : Int) ∧ pnN n f id = k ∧ k < n) := by
  unfold ixI pnN
  cases h : (List.range n).find? (fun i => decide (id < (f i).id)) with
  | none => exact .inl ⟨rfl, rfl⟩
  | some i => exact .inr ⟨i, rfl, rfl, List.mem_range.1 (List.mem_of_find?_eq_some h)⟩
end Go.Proofs.YtodfdfncdoliiadGreat
namespace Go.Proofs.YtodfdfncdoliiadGreat
open Go.ChangeShapes Go.WideShapes Go.ChangeAt Go.RowKit
set_option maxRecDepth 100000
set_option linter.unusedVariables false
set_option linter.unusedSimpArgs false

theorem owns_kept9 {w w' : World} {B : Nat} {e : TypeId} {m : Nat} {v : Value} {n : Nat} {xs : List Value} (h : w.ownsRow B e m v n xs) (hb : Below w.heap.size w w') : w'.ownsRow B e m v n xs := h.kept (row := none) ⟨hb.os, hb.tape, hb.output, hb.size, fun k hk _ => hb.block k hk⟩ (by cases v.ownBlock <;> simp)
/-- the parts of an act for a thing: how many, which -/
def paN (a : Ac) : Nat := if a.kd = 9 then a.ln else 0
def paF (a : Ac) (e : Ev) : Nat → Ev := fun i => if (a.es i).nn = -1 then { a.es i with nn := up e.nn 2147483647 } else a.es i
theorem paF_yes {a : Ac} {e : Ev} {k : Nat} (h : ((a.es k).nn == -1) = true) : paF a e k = { a.es k with nn := up e.nn 2147483647 } := by unfold paF; simp_all
theorem paF_no {a : Ac} {e : Ev} {k : Nat} (h : ((a.es k).nn == -1) = false) : paF a e k = a.es k := by unfold paF; simp_all
end Go.Proofs.YtodfdfncdoliiadGreat
namespace Go.Proofs.YtodfdfncdoliiadGreat
open Go.ChangeShapes Go.WideShapes Go.ChangeAt Go.RowKit
set_option maxRecDepth 100000
set_option linter.unusedVariables false
set_option linter.unusedSimpArgs false

/-- whether all of the first n things are the same -/
def smL (n : Nat) (f g : Nat → Ev) : Bool := (List.range n).all (fun i => smE (f i) (g i))
theorem smL_no {n k : Nat} {f g : Nat → Ev} (hk : k < n) (h : smE (f k) (g k) = false) : smL n f g = false := by unfold smL; rw [List.all_eq_false]; exact ⟨k, List.mem_range.2 hk, by simp [h]⟩
theorem smL_yes {n : Nat} {f g : Nat → Ev} (h : ∀ k, k < n → smE (f k) (g k) = true) : smL n f g = true := by unfold smL; rw [List.all_eq_true]; exact fun k hk => h k (List.mem_range.1 hk)
def smH (a b : Ef) : Bool := decide (a.id = b.id) && decide (a.si = b.si) && decide (a.sr = b.sr) && decide (a.cl = b.cl) && smPt a.pt b.pt && smGd a.gd b.gd && decide (a.un = b.un) && decide (a.le = b.le)
def smK (x y : Ac) : Bool := decide (x.kd = y.kd) && decide (x.nn = y.nn) && decide (x.pi = y.pi) && decide (x.si = y.si) && decide (x.zo = y.zo) && decide (x.be = y.be) && decide (x.ln = y.ln)
/-- whether they are the same -/
def smEf (a b : Ef) : Bool := smH a b && smK a.ac b.ac && smL a.ac.ln a.ac.es b.ac.es
set_option maxHeartbeats 4000000 in
theorem sef_h (a b : Ef) (w : World) (h : smH a b = false) : Calls Tryz.prog 17 #[(.agg #[.int .i64 a.id, .int .i64 a.si, .int .i64 a.sr, .int .i64 a.cl, .int .i64 a.pt.kd, .int .i64 a.pt.wh, .int .i64 a.pt.sr, .int .i64 a.pt.tr, .int .i64 a.pt.pi, .int .i64 a.pt.le, .int .i64 a.pt.zo, .int .i64 a.gd.kd, .int .i64 a.gd.nn, .int .i64 a.ac.kd, .int .i64 a.ac.nn, .int .i64 a.ac.pi, .int .i64 a.ac.si, .int .i64 a.ac.zo, .bool a.ac.be, .slice a.ac.la a.ac.ln a.ac.lcap, .int .i64 a.un, .int .i64 a.le]), (.agg #[.int .i64 b.id, .int .i64 b.si, .int .i64 b.sr, .int .i64 b.cl, .int .i64 b.pt.kd, .int .i64 b.pt.wh, .int .i64 b.pt.sr, .int .i64 b.pt.tr, .int .i64 b.pt.pi, .int .i64 b.pt.le, .int .i64 b.pt.zo, .int .i64 b.gd.kd, .int .i64 b.gd.nn, .int .i64 b.ac.kd, .int .i64 b.ac.nn, .int .i64 b.ac.pi, .int .i64 b.ac.si, .int .i64 b.ac.zo, .bool b.ac.be, .slice b.ac.la b.ac.ln b.ac.lcap, .int .i64 b.un, .int .i64 b.le])] w fun e w' => e = .returned (.bool (smEf a b)) ∧ Below w.heap.size w w' := by
  have HA : Hid (smEf a b = false) := by show smEf a b = false; unfold smEf; rw [h]; rfl
  have HH : Hid (smH a b = false) := h
  clear h
  have HB := ((Below.refl _ w).alloc (Nat.le_refl _) (.cells #[.int .i64 a.id, .int .i64 a.si, .int .i64 a.sr, .int .i64 a.cl, .int .i64 a.pt.kd, .int .i64 a.pt.wh, .int .i64 a.pt.sr, .int .i64 a.pt.tr, .int .i64 a.pt.pi, .int .i64 a.pt.le, .int .i64 a.pt.zo, .int .i64 a.gd.kd, .int .i64 a.gd.nn, .int .i64 a.ac.kd, .int .i64 a.ac.nn, .int .i64 a.ac.pi, .int .i64 a.ac.si, .int .i64 a.ac.zo, .bool a.ac.be, .slice a.ac.la a.ac.ln a.ac.lcap, .int .i64 a.un, .int .i64 a.le] 32)).alloc (by simp) (.cells #[.int .i64 b.id, .int .i64 b.si, .int .i64 b.sr, .int .i64 b.cl, .int .i64 b.pt.kd, .int .i64 b.pt.wh, .int .i64 b.pt.sr, .int .i64 b.pt.tr, .int .i64 b.pt.pi, .int .i64 b.pt.le, .int .i64 b.pt.zo, .int .i64 b.gd.kd, .int .i64 b.gd.nn, .int .i64 b.ac.kd, .int .i64 b.ac.nn, .int .i64 b.ac.pi, .int .i64 b.ac.si, .int .i64 b.ac.zo, .bool b.ac.be, .slice b.ac.la b.ac.ln b.ac.lcap, .int .i64 b.un, .int .i64 b.le] 32)
  have b1 := (boxR_new w 32 #[.int .i64 a.id, .int .i64 a.si, .int .i64 a.sr, .int .i64 a.cl, .int .i64 a.pt.kd, .int .i64 a.pt.wh, .int .i64 a.pt.sr, .int .i64 a.pt.tr, .int .i64 a.pt.pi, .int .i64 a.pt.le, .int .i64 a.pt.zo, .int .i64 a.gd.kd, .int .i64 a.gd.nn, .int .i64 a.ac.kd, .int .i64 a.ac.nn, .int .i64 a.ac.pi, .int .i64 a.ac.si, .int .i64 a.ac.zo, .bool a.ac.be, .slice a.ac.la a.ac.ln a.ac.lcap, .int .i64 a.un, .int .i64 a.le]).alloc (.cells #[.int .i64 b.id, .int .i64 b.si, .int .i64 b.sr, .int .i64 b.cl, .int .i64 b.pt.kd, .int .i64 b.pt.wh, .int .i64 b.pt.sr, .int .i64 b.pt.tr, .int .i64 b.pt.pi, .int .i64 b.pt.le, .int .i64 b.pt.zo, .int .i64 b.gd.kd, .int .i64 b.gd.nn, .int .i64 b.ac.kd, .int .i64 b.ac.nn, .int .i64 b.ac.pi, .int .i64 b.ac.si, .int .i64 b.ac.zo, .bool b.ac.be, .slice b.ac.la b.ac.ln b.ac.lcap, .int .i64 b.un, .int .i64 b.le] 32)
  have b2 : BoxR ((w.alloc (.cells #[.int .i64 a.id, .int .i64 a.si, .int .i64 a.sr, .int .i64 a.cl, .int .i64 a.pt.kd, .int .i64 a.pt.wh, .int .i64 a.pt.sr, .int .i64 a.pt.tr, .int .i64 a.pt.pi, .int .i64 a.pt.le, .int .i64 a.pt.zo, .int .i64 a.gd.kd, .int .i64 a.gd.nn, .int .i64 a.ac.kd, .int .i64 a.ac.nn, .int .i64 a.ac.pi, .int .i64 a.ac.si, .int .i64 a.ac.zo, .bool a.ac.be, .slice a.ac.la a.ac.ln a.ac.lcap, .int .i64 a.un, .int .i64 a.le] 32)).alloc (.cells #[.int .i64 b.id, .int .i64 b.si, .int .i64 b.sr, .int .i64 b.cl, .int .i64 b.pt.kd, .int .i64 b.pt.wh, .int .i64 b.pt.sr, .int .i64 b.pt.tr, .int .i64 b.pt.pi, .int .i64 b.pt.le, .int .i64 b.pt.zo, .int .i64 b.gd.kd, .int .i64 b.gd.nn, .int .i64 b.ac.kd, .int .i64 b.ac.nn, .int .i64 b.ac.pi, .int .i64 b.ac.si, .int .i64 b.ac.zo, .bool b.ac.be, .slice b.ac.la b.ac.ln b.ac.lcap, .int .i64 b.un, .int .i64 b.le] 32)) (w.heap.size + 1) 32 #[.int .i64 b.id, .int .i64 b.si, .int .i64 b.sr, .int .i64 b.cl, .int .i64 b.pt.kd, .int .i64 b.pt.wh, .int .i64 b.pt.sr, .int .i64 b.pt.tr, .int .i64 b.pt.pi, .int .i64 b.pt.le, .int .i64 b.pt.zo, .int .i64 b.gd.kd, .int .i64 b.gd.nn, .int .i64 b.ac.kd, .int .i64 b.ac.nn, .int .i64 b.ac.pi, .int .i64 b.ac.si, .int .i64 b.ac.zo, .bool b.ac.be, .slice b.ac.la b.ac.ln b.ac.lcap, .int .i64 b.un, .int .i64 b.le] := heap_alloc2_new _ _ _
  generalize hW : (w.alloc (.cells #[.int .i64 a.id, .int .i64 a.si, .int .i64 a.sr, .int .i64 a.cl, .int .i64 a.pt.kd, .int .i64 a.pt.wh, .int .i64 a.pt.sr, .int .i64 a.pt.tr, .int .i64 a.pt.pi, .int .i64 a.pt.le, .int .i64 a.pt.zo, .int .i64 a.gd.kd, .int .i64 a.gd.nn, .int .i64 a.ac.kd, .int .i64 a.ac.nn, .int .i64 a.ac.pi, .int .i64 a.ac.si, .int .i64 a.ac.zo, .bool a.ac.be, .slice a.ac.la a.ac.ln a.ac.lcap, .int .i64 a.un, .int .i64 a.le] 32)).alloc (.cells #[.int .i64 b.id, .int .i64 b.si, .int .i64 b.sr, .int .i64 b.cl, .int .i64 b.pt.kd, .int .i64 b.pt.wh, .int .i64 b.pt.sr, .int .i64 b.pt.tr, .int .i64 b.pt.pi, .int .i64 b.pt.le, .int .i64 b.pt.zo, .int .i64 b.gd.kd, .int .i64 b.gd.nn, .int .i64 b.ac.kd, .int .i64 b.ac.nn, .int .i64 b.ac.pi, .int .i64 b.ac.si, .int .i64 b.ac.zo, .bool b.ac.be, .slice b.ac.la b.ac.ln b.ac.lcap, .int .i64 b.un, .int .i64 b.le] 32) = W at HB b1 b2
  obtain ⟨c0, c1, c2, c3, c4, c5, c6, c7, c8, c9, c10, c11, c12, c13, c14, c15, c16, c17, c18, c19, c20, c21⟩ := b1.cells22
  obtain ⟨d0, d1, d2, d3, d4, d5, d6, d7, d8, d9, d10, d11, d12, d13, d14, d15, d16, d17, d18, d19, d20, d21⟩ := b2.cells22
  have EP : ∀ v : World, (Op.equalIn 10000 25 (.agg #[.int .i64 a.pt.kd, .int .i64 a.pt.wh, .int .i64 a.pt.sr, .int .i64 a.pt.tr, .int .i64 a.pt.pi, .int .i64 a.pt.le, .int .i64 a.pt.zo]) (.agg #[.int .i64 b.pt.kd, .int .i64 b.pt.wh, .int .i64 b.pt.sr, .int .i64 b.pt.tr, .int .i64 b.pt.pi, .int .i64 b.pt.le, .int .i64 b.pt.zo])).run Tryz.prog v = .ok (smPt a.pt b.pt) v := fun v => run_eq_pat a.pt b.pt v
  have EG : ∀ v : World, (Op.equalIn 10000 27 (.agg #[.int .i64 a.gd.kd, .int .i64 a.gd.nn]) (.agg #[.int .i64 b.gd.kd, .int .i64 b.gd.nn])).run Tryz.prog v = .ok (smGd a.gd b.gd) v := fun v => run_eq_guard a.gd b.gd v
  go_enter Tryz.func17, Tryz.ntmps17
  go_upto_region 3 with fail
  all_goals first | (go_ret; exact ⟨ret_bool' HA.out.symm, HB⟩) | (exfalso; have hh := HH.out; unfold smH at hh; clear c0 c1 c2 c3 c4 c5 c6 c7 c8 c9 c10 c11 c12 c13 c14 c15 c16 c17 c18 c19 c20 c21 d0 d1 d2 d3 d4 d5 d6 d7 d8 d9 d10 d11 d12 d13 d14 d15 d16 d17 d18 d19 d20 d21 EP EG b1 b2; simp_all; done)
set_option maxHeartbeats 4000000 in
theorem sef_k (a b : Ef) (w : World) (h : smH a b = true) (hk : smK a.ac b.ac = false) : Calls Tryz.prog 17 #[(.agg #[.int .i64 a.id, .int .i64 a.si, .int .i64 a.sr, .int .i64 a.cl, .int .i64 a.pt.kd, .int .i64 a.pt.wh, .int .i64 a.pt.sr, .int .i64 a.pt.tr, .int .i64 a.pt.pi, .int .i64 a.pt.le, .int .i64 a.pt.zo, .int .i64 a.gd.kd, .int .i64 a.gd.nn, .int .i64 a.ac.kd, .int .i64 a.ac.nn, .int .i64 a.ac.pi, .int .i64 a.ac.si, .int .i64 a.ac.zo, .bool a.ac.be, .slice a.ac.la a.ac.ln a.ac.lcap, .int .i64 a.un, .int .i64 a.le]), (.agg #[.int .i64 b.id, .int .i64 b.si, .int .i64 b.sr, .int .i64 b.cl, .int .i64 b.pt.kd, .int .i64 b.pt.wh, .int .i64 b.pt.sr, .int .i64 b.pt.tr, .int .i64 b.pt.pi, .int .i64 b.pt.le, .int .i64 b.pt.zo, .int .i64 b.gd.kd, .int .i64 b.gd.nn, .int .i64 b.ac.kd, .int .i64 b.ac.nn, .int .i64 b.ac.pi, .int .i64 b.ac.si, .int .i64 b.ac.zo, .bool b.ac.be, .slice b.ac.la b.ac.ln b.ac.lcap, .int .i64 b.un, .int .i64 b.le])] w fun e w' => e = .returned (.bool (smEf a b)) ∧ Below w.heap.size w w' := by
  have HA : Hid (smEf a b = false) := by show smEf a b = false; unfold smEf; rw [hk]; simp
  have HK : Hid (smK a.ac b.ac = false) := hk
  clear hk
  have HF : Hid ((a.id != b.id) = false ∧ (a.si != b.si) = false ∧ (a.sr != b.sr) = false ∧ (a.cl != b.cl) = false ∧ smPt a.pt b.pt = true ∧ smGd a.gd b.gd = true ∧ (a.un != b.un) = false ∧ (a.le != b.le) = false) := by
    unfold smH at h
    simp only [Bool.and_eq_true, decide_eq_true_eq] at h
    obtain ⟨⟨⟨⟨⟨⟨⟨h1, h2⟩, h3⟩, h4⟩, h5⟩, h6⟩, h7⟩, h8⟩ := h
    exact ⟨by rw [h1]; simp, by rw [h2]; simp, by rw [h3]; simp, by rw [h4]; simp, h5, h6, by rw [h7]; simp, by rw [h8]; simp⟩
  clear h
  have HB := ((Below.refl _ w).alloc (Nat.le_refl _) (.cells #[.int .i64 a.id, .int .i64 a.si, .int .i64 a.sr, .int .i64 a.cl, .int .i64 a.pt.kd, .int .i64 a.pt.wh, .int .i64 a.pt.sr, .int .i64 a.pt.tr, .int .i64 a.pt.pi, .int .i64 a.pt.le, .int .i64 a.pt.zo, .int .i64 a.gd.kd, .int .i64 a.gd.nn, .int .i64 a.ac.kd, .int .i64 a.ac.nn, .int .i64 a.ac.pi, .int .i64 a.ac.si, .int .i64 a.ac.zo, .bool a.ac.be, .slice a.ac.la a.ac.ln a.ac.lcap, .int .i64 a.un, .int .i64 a.le] 32)).alloc (by simp) (.cells #[.int .i64 b.id, .int .i64 b.si, .int .i64 b.sr, .int .i64 b.cl, .int .i64 b.pt.kd, .int .i64 b.pt.wh, .int .i64 b.pt.sr, .int .i64 b.pt.tr, .int .i64 b.pt.pi, .int .i64 b.pt.le, .int .i64 b.pt.zo, .int .i64 b.gd.kd, .int .i64 b.gd.nn, .int .i64 b.ac.kd, .int .i64 b.ac.nn, .int .i64 b.ac.pi, .int .i64 b.ac.si, .int .i64 b.ac.zo, .bool b.ac.be, .slice b.ac.la b.ac.ln b.ac.lcap, .int .i64 b.un, .int .i64 b.le] 32)
  have b1 := (boxR_new w 32 #[.int .i64 a.id, .int .i64 a.si, .int .i64 a.sr, .int .i64 a.cl, .int .i64 a.pt.kd, .int .i64 a.pt.wh, .int .i64 a.pt.sr, .int .i64 a.pt.tr, .int .i64 a.pt.pi, .int .i64 a.pt.le, .int .i64 a.pt.zo, .int .i64 a.gd.kd, .int .i64 a.gd.nn, .int .i64 a.ac.kd, .int .i64 a.ac.nn, .int .i64 a.ac.pi, .int .i64 a.ac.si, .int .i64 a.ac.zo, .bool a.ac.be, .slice a.ac.la a.ac.ln a.ac.lcap, .int .i64 a.un, .int .i64 a.le]).alloc (.cells #[.int .i64 b.id, .int .i64 b.si, .int .i64 b.sr, .int .i64 b.cl, .int .i64 b.pt.kd, .int .i64 b.pt.wh, .int .i64 b.pt.sr, .int .i64 b.pt.tr, .int .i64 b.pt.pi, .int .i64 b.pt.le, .int .i64 b.pt.zo, .int .i64 b.gd.kd, .int .i64 b.gd.nn, .int .i64 b.ac.kd, .int .i64 b.ac.nn, .int .i64 b.ac.pi, .int .i64 b.ac.si, .int .i64 b.ac.zo, .bool b.ac.be, .slice b.ac.la b.ac.ln b.ac.lcap, .int .i64 b.un, .int .i64 b.le] 32)
  have b2 : BoxR ((w.alloc (.cells #[.int .i64 a.id, .int .i64 a.si, .int .i64 a.sr, .int .i64 a.cl, .int .i64 a.pt.kd, .int .i64 a.pt.wh, .int .i64 a.pt.sr, .int .i64 a.pt.tr, .int .i64 a.pt.pi, .int .i64 a.pt.le, .int .i64 a.pt.zo, .int .i64 a.gd.kd, .int .i64 a.gd.nn, .int .i64 a.ac.kd, .int .i64 a.ac.nn, .int .i64 a.ac.pi, .int .i64 a.ac.si, .int .i64 a.ac.zo, .bool a.ac.be, .slice a.ac.la a.ac.ln a.ac.lcap, .int .i64 a.un, .int .i64 a.le] 32)).alloc (.cells #[.int .i64 b.id, .int .i64 b.si, .int .i64 b.sr, .int .i64 b.cl, .int .i64 b.pt.kd, .int .i64 b.pt.wh, .int .i64 b.pt.sr, .int .i64 b.pt.tr, .int .i64 b.pt.pi, .int .i64 b.pt.le, .int .i64 b.pt.zo, .int .i64 b.gd.kd, .int .i64 b.gd.nn, .int .i64 b.ac.kd, .int .i64 b.ac.nn, .int .i64 b.ac.pi, .int .i64 b.ac.si, .int .i64 b.ac.zo, .bool b.ac.be, .slice b.ac.la b.ac.ln b.ac.lcap, .int .i64 b.un, .int .i64 b.le] 32)) (w.heap.size + 1) 32 #[.int .i64 b.id, .int .i64 b.si, .int .i64 b.sr, .int .i64 b.cl, .int .i64 b.pt.kd, .int .i64 b.pt.wh, .int .i64 b.pt.sr, .int .i64 b.pt.tr, .int .i64 b.pt.pi, .int .i64 b.pt.le, .int .i64 b.pt.zo, .int .i64 b.gd.kd, .int .i64 b.gd.nn, .int .i64 b.ac.kd, .int .i64 b.ac.nn, .int .i64 b.ac.pi, .int .i64 b.ac.si, .int .i64 b.ac.zo, .bool b.ac.be, .slice b.ac.la b.ac.ln b.ac.lcap, .int .i64 b.un, .int .i64 b.le] := heap_alloc2_new _ _ _
  generalize hW : (w.alloc (.cells #[.int .i64 a.id, .int .i64 a.si, .int .i64 a.sr, .int .i64 a.cl, .int .i64 a.pt.kd, .int .i64 a.pt.wh, .int .i64 a.pt.sr, .int .i64 a.pt.tr, .int .i64 a.pt.pi, .int .i64 a.pt.le, .int .i64 a.pt.zo, .int .i64 a.gd.kd, .int .i64 a.gd.nn, .int .i64 a.ac.kd, .int .i64 a.ac.nn, .int .i64 a.ac.pi, .int .i64 a.ac.si, .int .i64 a.ac.zo, .bool a.ac.be, .slice a.ac.la a.ac.ln a.ac.lcap, .int .i64 a.un, .int .i64 a.le] 32)).alloc (.cells #[.int .i64 b.id, .int .i64 b.si, .int .i64 b.sr, .int .i64 b.cl, .int .i64 b.pt.kd, .int .i64 b.pt.wh, .int .i64 b.pt.sr, .int .i64 b.pt.tr, .int .i64 b.pt.pi, .int .i64 b.pt.le, .int .i64 b.pt.zo, .int .i64 b.gd.kd, .int .i64 b.gd.nn, .int .i64 b.ac.kd, .int .i64 b.ac.nn, .int .i64 b.ac.pi, .int .i64 b.ac.si, .int .i64 b.ac.zo, .bool b.ac.be, .slice b.ac.la b.ac.ln b.ac.lcap, .int .i64 b.un, .int .i64 b.le] 32) = W at HB b1 b2
  obtain ⟨c0, c1, c2, c3, c4, c5, c6, c7, c8, c9, c10, c11, c12, c13, c14, c15, c16, c17, c18, c19, c20, c21⟩ := b1.cells22
  obtain ⟨d0, d1, d2, d3, d4, d5, d6, d7, d8, d9, d10, d11, d12, d13, d14, d15, d16, d17, d18, d19, d20, d21⟩ := b2.cells22
  have EP : ∀ v : World, (Op.equalIn 10000 25 (.agg #[.int .i64 a.pt.kd, .int .i64 a.pt.wh, .int .i64 a.pt.sr, .int .i64 a.pt.tr, .int .i64 a.pt.pi, .int .i64 a.pt.le, .int .i64 a.pt.zo]) (.agg #[.int .i64 b.pt.kd, .int .i64 b.pt.wh, .int .i64 b.pt.sr, .int .i64 b.pt.tr, .int .i64 b.pt.pi, .int .i64 b.pt.le, .int .i64 b.pt.zo])).run Tryz.prog v = .ok (smPt a.pt b.pt) v := fun v => run_eq_pat a.pt b.pt v
  have EG : ∀ v : World, (Op.equalIn 10000 27 (.agg #[.int .i64 a.gd.kd, .int .i64 a.gd.nn]) (.agg #[.int .i64 b.gd.kd, .int .i64 b.gd.nn])).run Tryz.prog v = .ok (smGd a.gd b.gd) v := fun v => run_eq_guard a.gd b.gd v
  obtain ⟨n0, n1, n2, n3, n4, n5, n6, n7⟩ := HF.out
  rw [n4] at EP
  rw [n5] at EG
  clear HF n4 n5
  go_enter Tryz.func17, Tryz.ntmps17
  go_upto_region 3 with fail
  clear n0 n1 n2 n3 n6 n7 EP EG hW
  go_upto_region 4 with fail
  clear c0 c1 c2 c3 c4 c5 c6 c7 c8 c9 c10 c11 c12 c13 c14 c15 c16 c17 c18 c19 c20 c21 d0 d1 d2 d3 d4 d5 d6 d7 d8 d9 d10 d11 d12 d13 d14 d15 d16 d17 d18 d19 d20 d21 b1
  have y1 := boxR_new W 30 #[.int .i64 a.ac.kd, .int .i64 a.ac.nn, .int .i64 a.ac.pi, .int .i64 a.ac.si, .int .i64 a.ac.zo, .bool a.ac.be, .slice a.ac.la a.ac.ln a.ac.lcap]
  have b3 := b2.alloc (.cells #[.int .i64 a.ac.kd, .int .i64 a.ac.nn, .int .i64 a.ac.pi, .int .i64 a.ac.si, .int .i64 a.ac.zo, .bool a.ac.be, .slice a.ac.la a.ac.ln a.ac.lcap] 30)
  have HB1 := below_app HB ((Below.refl _ W).alloc (Nat.le_refl _) (.cells #[.int .i64 a.ac.kd, .int .i64 a.ac.nn, .int .i64 a.ac.pi, .int .i64 a.ac.si, .int .i64 a.ac.zo, .bool a.ac.be, .slice a.ac.la a.ac.ln a.ac.lcap] 30)) HB.size
  generalize hX : W.alloc (.cells #[.int .i64 a.ac.kd, .int .i64 a.ac.nn, .int .i64 a.ac.pi, .int .i64 a.ac.si, .int .i64 a.ac.zo, .bool a.ac.be, .slice a.ac.la a.ac.ln a.ac.lcap] 30) = X at y1 b3 HB1
  obtain ⟨e0, e1, e2, e3, e4, e5, e6⟩ := b3.acts
  go_upto_region 5 with fail
  clear e0 e1 e2 e3 e4 e5 e6 b2 b3 hX
  have y3 := y1.alloc (.cells #[.int .i64 b.ac.kd, .int .i64 b.ac.nn, .int .i64 b.ac.pi, .int .i64 b.ac.si, .int .i64 b.ac.zo, .bool b.ac.be, .slice b.ac.la b.ac.ln b.ac.lcap] 30)
  have y2 := boxR_new X 30 #[.int .i64 b.ac.kd, .int .i64 b.ac.nn, .int .i64 b.ac.pi, .int .i64 b.ac.si, .int .i64 b.ac.zo, .bool b.ac.be, .slice b.ac.la b.ac.ln b.ac.lcap]
  have HB2 := below_app HB1 ((Below.refl _ X).alloc (Nat.le_refl _) (.cells #[.int .i64 b.ac.kd, .int .i64 b.ac.nn, .int .i64 b.ac.pi, .int .i64 b.ac.si, .int .i64 b.ac.zo, .bool b.ac.be, .slice b.ac.la b.ac.ln b.ac.lcap] 30)) HB1.size
  clear y1 HB HB1
  generalize hV : X.alloc (.cells #[.int .i64 b.ac.kd, .int .i64 b.ac.nn, .int .i64 b.ac.pi, .int .i64 b.ac.si, .int .i64 b.ac.zo, .bool b.ac.be, .slice b.ac.la b.ac.ln b.ac.lcap] 30) = V at y3 y2 HB2
  have y1 := y3
  clear y3
  obtain ⟨g, hg⟩ : ∃ g, W.heap.size = g := ⟨_, rfl⟩
  obtain ⟨g2, hg2⟩ : ∃ g, X.heap.size = g := ⟨_, rfl⟩
  rw [hg] at y1 ⊢
  rw [hg2] at y2 ⊢
  clear hg hg2 hV
  as_aux_lemma =>
    have c0 := y1.cell 0
    have d0 := y2.cell 0
    have c1 := y1.cell 1
    have d1 := y2.cell 1
    have c2 := y1.cell 2
    have d2 := y2.cell 2
    have c3 := y1.cell 3
    have d3 := y2.cell 3
    have c4 := y1.cell 4
    have d4 := y2.cell 4
    have c5 := y1.cell 5
    have d5 := y2.cell 5
    have c6 := y1.cell 6
    have d6 := y2.cell 6
    simp at c0 d0 c1 d1 c2 d2 c3 d3 c4 d4 c5 d5 c6 d6
    go_upto_region 7 with fail
    all_goals first | (go_ret; exact ⟨ret_bool' HA.out.symm, HB2⟩) | (exfalso; have hh := HK.out; unfold smK at hh; clear c0 c1 c2 c3 c4 c5 c6 d0 d1 d2 d3 d4 d5 d6 y1 y2; first | (simp_all; done) | (simp_all; omega))
set_option maxHeartbeats 4000000 in
theorem sef_t (a b : Ef) (w : World) (ha : a.okW w) (hb : b.okW w) (hn : a.ac.ln ≤ 1048577) (h : smH a b = true) (hk : smK a.ac b.ac = true) : Calls Tryz.prog 17 #[(.agg #[.int .i64 a.id, .int .i64 a.si, .int .i64 a.sr, .int .i64 a.cl, .int .i64 a.pt.kd, .int .i64 a.pt.wh, .int .i64 a.pt.sr, .int .i64 a.pt.tr, .int .i64 a.pt.pi, .int .i64 a.pt.le, .int .i64 a.pt.zo, .int .i64 a.gd.kd, .int .i64 a.gd.nn, .int .i64 a.ac.kd, .int .i64 a.ac.nn, .int .i64 a.ac.pi, .int .i64 a.ac.si, .int .i64 a.ac.zo, .bool a.ac.be, .slice a.ac.la a.ac.ln a.ac.lcap, .int .i64 a.un, .int .i64 a.le]), (.agg #[.int .i64 b.id, .int .i64 b.si, .int .i64 b.sr, .int .i64 b.cl, .int .i64 b.pt.kd, .int .i64 b.pt.wh, .int .i64 b.pt.sr, .int .i64 b.pt.tr, .int .i64 b.pt.pi, .int .i64 b.pt.le, .int .i64 b.pt.zo, .int .i64 b.gd.kd, .int .i64 b.gd.nn, .int .i64 b.ac.kd, .int .i64 b.ac.nn, .int .i64 b.ac.pi, .int .i64 b.ac.si, .int .i64 b.ac.zo, .bool b.ac.be, .slice b.ac.la b.ac.ln b.ac.lcap, .int .i64 b.un, .int .i64 b.le])] w fun e w' => e = .returned (.bool (smEf a b)) ∧ Below w.heap.size w w' := by
  have HA : Hid (smEf a b = smL a.ac.ln a.ac.es b.ac.es) := by show smEf a b = _; unfold smEf; rw [h, hk]; simp
  have R1 : Hid (∀ u : World, Below w.heap.size w u → RdE evC 7 u a.ac.lb a.ac.la a.ac.ln a.ac.es) := fun u hu => ha.1.2.2.1.grew evC_ne hu
  have HLN : Hid (b.ac.ln = a.ac.ln) := by unfold smK at hk; simp at hk; exact hk.2.symm
  have R2 : Hid (∀ u : World, Below w.heap.size w u → RdE evC 7 u b.ac.lb b.ac.la a.ac.ln b.ac.es) := fun u hu => by have := hb.1.2.2.1.grew evC_ne hu; rw [HLN.out] at this; exact this
  have HK : Hid ((a.ac.kd != b.ac.kd) = false ∧ (a.ac.nn != b.ac.nn) = false ∧ (a.ac.pi != b.ac.pi) = false ∧ (a.ac.si != b.ac.si) = false ∧ (a.ac.zo != b.ac.zo) = false ∧ b.ac.be = a.ac.be) := by
    unfold smK at hk
    simp only [Bool.and_eq_true, decide_eq_true_eq] at hk
    obtain ⟨⟨⟨⟨⟨⟨h1, h2⟩, h3⟩, h4⟩, h5⟩, h6⟩, h7⟩ := hk
    exact ⟨by rw [h1]; simp, by rw [h2]; simp, by rw [h3]; simp, by rw [h4]; simp, by rw [h5]; simp, h6.symm⟩
  clear hk ha hb
  have HF : Hid ((a.id != b.id) = false ∧ (a.si != b.si) = false ∧ (a.sr != b.sr) = false ∧ (a.cl != b.cl) = false ∧ smPt a.pt b.pt = true ∧ smGd a.gd b.gd = true ∧ (a.un != b.un) = false ∧ (a.le != b.le) = false) := by
    unfold smH at h
    simp only [Bool.and_eq_true, decide_eq_true_eq] at h
    obtain ⟨⟨⟨⟨⟨⟨⟨h1, h2⟩, h3⟩, h4⟩, h5⟩, h6⟩, h7⟩, h8⟩ := h
    exact ⟨by rw [h1]; simp, by rw [h2]; simp, by rw [h3]; simp, by rw [h4]; simp, h5, h6, by rw [h7]; simp, by rw [h8]; simp⟩
  clear h
  have HB := ((Below.refl _ w).alloc (Nat.le_refl _) (.cells #[.int .i64 a.id, .int .i64 a.si, .int .i64 a.sr, .int .i64 a.cl, .int .i64 a.pt.kd, .int .i64 a.pt.wh, .int .i64 a.pt.sr, .int .i64 a.pt.tr, .int .i64 a.pt.pi, .int .i64 a.pt.le, .int .i64 a.pt.zo, .int .i64 a.gd.kd, .int .i64 a.gd.nn, .int .i64 a.ac.kd, .int .i64 a.ac.nn, .int .i64 a.ac.pi, .int .i64 a.ac.si, .int .i64 a.ac.zo, .bool a.ac.be, .slice a.ac.la a.ac.ln a.ac.lcap, .int .i64 a.un, .int .i64 a.le] 32)).alloc (by simp) (.cells #[.int .i64 b.id, .int .i64 b.si, .int .i64 b.sr, .int .i64 b.cl, .int .i64 b.pt.kd, .int .i64 b.pt.wh, .int .i64 b.pt.sr, .int .i64 b.pt.tr, .int .i64 b.pt.pi, .int .i64 b.pt.le, .int .i64 b.pt.zo, .int .i64 b.gd.kd, .int .i64 b.gd.nn, .int .i64 b.ac.kd, .int .i64 b.ac.nn, .int .i64 b.ac.pi, .int .i64 b.ac.si, .int .i64 b.ac.zo, .bool b.ac.be, .slice b.ac.la b.ac.ln b.ac.lcap, .int .i64 b.un, .int .i64 b.le] 32)
  have b1 := (boxR_new w 32 #[.int .i64 a.id, .int .i64 a.si, .int .i64 a.sr, .int .i64 a.cl, .int .i64 a.pt.kd, .int .i64 a.pt.wh, .int .i64 a.pt.sr, .int .i64 a.pt.tr, .int .i64 a.pt.pi, .int .i64 a.pt.le, .int .i64 a.pt.zo, .int .i64 a.gd.kd, .int .i64 a.gd.nn, .int .i64 a.ac.kd, .int .i64 a.ac.nn, .int .i64 a.ac.pi, .int .i64 a.ac.si, .int .i64 a.ac.zo, .bool a.ac.be, .slice a.ac.la a.ac.ln a.ac.lcap, .int .i64 a.un, .int .i64 a.le]).alloc (.cells #[.int .i64 b.id, .int .i64 b.si, .int .i64 b.sr, .int .i64 b.cl, .int .i64 b.pt.kd, .int .i64 b.pt.wh, .int .i64 b.pt.sr, .int .i64 b.pt.tr, .int .i64 b.pt.pi, .int .i64 b.pt.le, .int .i64 b.pt.zo, .int .i64 b.gd.kd, .int .i64 b.gd.nn, .int .i64 b.ac.kd, .int .i64 b.ac.nn, .int .i64 b.ac.pi, .int .i64 b.ac.si, .int .i64 b.ac.zo, .bool b.ac.be, .slice b.ac.la b.ac.ln b.ac.lcap, .int .i64 b.un, .int .i64 b.le] 32)
  have b2 : BoxR ((w.alloc (.cells #[.int .i64 a.id, .int .i64 a.si, .int .i64 a.sr, .int .i64 a.cl, .int .i64 a.pt.kd, .int .i64 a.pt.wh, .int .i64 a.pt.sr, .int .i64 a.pt.tr, .int .i64 a.pt.pi, .int .i64 a.pt.le, .int .i64 a.pt.zo, .int .i64 a.gd.kd, .int .i64 a.gd.nn, .int .i64 a.ac.kd, .int .i64 a.ac.nn, .int .i64 a.ac.pi, .int .i64 a.ac.si, .int .i64 a.ac.zo, .bool a.ac.be, .slice a.ac.la a.ac.ln a.ac.lcap, .int .i64 a.un, .int .i64 a.le] 32)).alloc (.cells #[.int .i64 b.id, .int .i64 b.si, .int .i64 b.sr, .int .i64 b.cl, .int .i64 b.pt.kd, .int .i64 b.pt.wh, .int .i64 b.pt.sr, .int .i64 b.pt.tr, .int .i64 b.pt.pi, .int .i64 b.pt.le, .int .i64 b.pt.zo, .int .i64 b.gd.kd, .int .i64 b.gd.nn, .int .i64 b.ac.kd, .int .i64 b.ac.nn, .int .i64 b.ac.pi, .int .i64 b.ac.si, .int .i64 b.ac.zo, .bool b.ac.be, .slice b.ac.la b.ac.ln b.ac.lcap, .int .i64 b.un, .int .i64 b.le] 32)) (w.heap.size + 1) 32 #[.int .i64 b.id, .int .i64 b.si, .int .i64 b.sr, .int .i64 b.cl, .int .i64 b.pt.kd, .int .i64 b.pt.wh, .int .i64 b.pt.sr, .int .i64 b.pt.tr, .int .i64 b.pt.pi, .int .i64 b.pt.le, .int .i64 b.pt.zo, .int .i64 b.gd.kd, .int .i64 b.gd.nn, .int .i64 b.ac.kd, .int .i64 b.ac.nn, .int .i64 b.ac.pi, .int .i64 b.ac.si, .int .i64 b.ac.zo, .bool b.ac.be, .slice b.ac.la b.ac.ln b.ac.lcap, .int .i64 b.un, .int .i64 b.le] := heap_alloc2_new _ _ _
  generalize hW : (w.alloc (.cells #[.int .i64 a.id, .int .i64 a.si, .int .i64 a.sr, .int .i64 a.cl, .int .i64 a.pt.kd, .int .i64 a.pt.wh, .int .i64 a.pt.sr, .int .i64 a.pt.tr, .int .i64 a.pt.pi, .int .i64 a.pt.le, .int .i64 a.pt.zo, .int .i64 a.gd.kd, .int .i64 a.gd.nn, .int .i64 a.ac.kd, .int .i64 a.ac.nn, .int .i64 a.ac.pi, .int .i64 a.ac.si, .int .i64 a.ac.zo, .bool a.ac.be, .slice a.ac.la a.ac.ln a.ac.lcap, .int .i64 a.un, .int .i64 a.le] 32)).alloc (.cells #[.int .i64 b.id, .int .i64 b.si, .int .i64 b.sr, .int .i64 b.cl, .int .i64 b.pt.kd, .int .i64 b.pt.wh, .int .i64 b.pt.sr, .int .i64 b.pt.tr, .int .i64 b.pt.pi, .int .i64 b.pt.le, .int .i64 b.pt.zo, .int .i64 b.gd.kd, .int .i64 b.gd.nn, .int .i64 b.ac.kd, .int .i64 b.ac.nn, .int .i64 b.ac.pi, .int .i64 b.ac.si, .int .i64 b.ac.zo, .bool b.ac.be, .slice b.ac.la b.ac.ln b.ac.lcap, .int .i64 b.un, .int .i64 b.le] 32) = W at HB b1 b2
  obtain ⟨c0, c1, c2, c3, c4, c5, c6, c7, c8, c9, c10, c11, c12, c13, c14, c15, c16, c17, c18, c19, c20, c21⟩ := b1.cells22
  obtain ⟨d0, d1, d2, d3, d4, d5, d6, d7, d8, d9, d10, d11, d12, d13, d14, d15, d16, d17, d18, d19, d20, d21⟩ := b2.cells22
  have EP : ∀ v : World, (Op.equalIn 10000 25 (.agg #[.int .i64 a.pt.kd, .int .i64 a.pt.wh, .int .i64 a.pt.sr, .int .i64 a.pt.tr, .int .i64 a.pt.pi, .int .i64 a.pt.le, .int .i64 a.pt.zo]) (.agg #[.int .i64 b.pt.kd, .int .i64 b.pt.wh, .int .i64 b.pt.sr, .int .i64 b.pt.tr, .int .i64 b.pt.pi, .int .i64 b.pt.le, .int .i64 b.pt.zo])).run Tryz.prog v = .ok (smPt a.pt b.pt) v := fun v => run_eq_pat a.pt b.pt v
  have EG : ∀ v : World, (Op.equalIn 10000 27 (.agg #[.int .i64 a.gd.kd, .int .i64 a.gd.nn]) (.agg #[.int .i64 b.gd.kd, .int .i64 b.gd.nn])).run Tryz.prog v = .ok (smGd a.gd b.gd) v := fun v => run_eq_guard a.gd b.gd v
  obtain ⟨n0, n1, n2, n3, n4, n5, n6, n7⟩ := HF.out
  rw [n4] at EP
  rw [n5] at EG
  clear HF n4 n5
  go_enter Tryz.func17, Tryz.ntmps17
  go_upto_region 3 with fail
  clear n0 n1 n2 n3 n6 n7 EP EG hW
  go_upto_region 4 with fail
  clear c0 c1 c2 c3 c4 c5 c6 c7 c8 c9 c10 c11 c12 c13 c14 c15 c16 c17 c18 c19 c20 c21 d0 d1 d2 d3 d4 d5 d6 d7 d8 d9 d10 d11 d12 d13 d14 d15 d16 d17 d18 d19 d20 d21 b1
  have y1 := boxR_new W 30 #[.int .i64 a.ac.kd, .int .i64 a.ac.nn, .int .i64 a.ac.pi, .int .i64 a.ac.si, .int .i64 a.ac.zo, .bool a.ac.be, .slice a.ac.la a.ac.ln a.ac.lcap]
  have b3 := b2.alloc (.cells #[.int .i64 a.ac.kd, .int .i64 a.ac.nn, .int .i64 a.ac.pi, .int .i64 a.ac.si, .int .i64 a.ac.zo, .bool a.ac.be, .slice a.ac.la a.ac.ln a.ac.lcap] 30)
  have HB1 := below_app HB ((Below.refl _ W).alloc (Nat.le_refl _) (.cells #[.int .i64 a.ac.kd, .int .i64 a.ac.nn, .int .i64 a.ac.pi, .int .i64 a.ac.si, .int .i64 a.ac.zo, .bool a.ac.be, .slice a.ac.la a.ac.ln a.ac.lcap] 30)) HB.size
  generalize hX : W.alloc (.cells #[.int .i64 a.ac.kd, .int .i64 a.ac.nn, .int .i64 a.ac.pi, .int .i64 a.ac.si, .int .i64 a.ac.zo, .bool a.ac.be, .slice a.ac.la a.ac.ln a.ac.lcap] 30) = X at y1 b3 HB1
  obtain ⟨e0, e1, e2, e3, e4, e5, e6⟩ := b3.acts
  go_upto_region 5 with fail
  clear e0 e1 e2 e3 e4 e5 e6 b2 b3 hX
  have y3 := y1.alloc (.cells #[.int .i64 b.ac.kd, .int .i64 b.ac.nn, .int .i64 b.ac.pi, .int .i64 b.ac.si, .int .i64 b.ac.zo, .bool b.ac.be, .slice b.ac.la b.ac.ln b.ac.lcap] 30)
  have y2 := boxR_new X 30 #[.int .i64 b.ac.kd, .int .i64 b.ac.nn, .int .i64 b.ac.pi, .int .i64 b.ac.si, .int .i64 b.ac.zo, .bool b.ac.be, .slice b.ac.la b.ac.ln b.ac.lcap]
  have HB2 := below_app HB1 ((Below.refl _ X).alloc (Nat.le_refl _) (.cells #[.int .i64 b.ac.kd, .int .i64 b.ac.nn, .int .i64 b.ac.pi, .int .i64 b.ac.si, .int .i64 b.ac.zo, .bool b.ac.be, .slice b.ac.la b.ac.ln b.ac.lcap] 30)) HB1.size
  clear y1 HB HB1
  generalize hV : X.alloc (.cells #[.int .i64 b.ac.kd, .int .i64 b.ac.nn, .int .i64 b.ac.pi, .int .i64 b.ac.si, .int .i64 b.ac.zo, .bool b.ac.be, .slice b.ac.la b.ac.ln b.ac.lcap] 30) = V at y3 y2 HB2
  have y1 := y3
  clear y3
  obtain ⟨g, hg⟩ : ∃ g, W.heap.size = g := ⟨_, rfl⟩
  obtain ⟨g2, hg2⟩ : ∃ g, X.heap.size = g := ⟨_, rfl⟩
  rw [hg] at y1 ⊢
  rw [hg2] at y2 ⊢
  clear hg hg2 hV
  as_aux_lemma =>
    have c0 := y1.cell 0
    have d0 := y2.cell 0
    have c1 := y1.cell 1
    have d1 := y2.cell 1
    have c2 := y1.cell 2
    have d2 := y2.cell 2
    have c3 := y1.cell 3
    have d3 := y2.cell 3
    have c4 := y1.cell 4
    have d4 := y2.cell 4
    have c5 := y1.cell 5
    have d5 := y2.cell 5
    have c6 := y1.cell 6
    have d6 := y2.cell 6
    simp at c0 d0 c1 d1 c2 d2 c3 d3 c4 d4 c5 d5 c6 d6
    rw [HLN.out] at d6
    obtain ⟨m0, m1, m2, m3, m4, m5⟩ := HK.out
    rw [m5] at d5
    go_wp2
    clear m0 m1 m2 m3 m4 m5 c0 c1 c2 c3 c4 c5 d0 d1 d2 d3 d4 d5 HK
    have HLM := HLN
    clear c6 d6
    have hsz := HB2.size
    go_loopw [7] (fun i wr => ∃ k : Nat, k ≤ a.ac.ln ∧ i = .int .i64 k ∧ Hid (∀ j, j < k → smE (a.ac.es j) (b.ac.es j) = true) ∧ Below V.heap.size V wr) (fun i _ => a.ac.ln - (intOf i).toNat)
    case atStart => exact ⟨0, Nat.zero_le _, rfl, fun j hj => by omega, Below.refl _ _⟩
    case round =>
      obtain ⟨k, hk, rfl, hall, hb⟩ := hrel
      have hB := below_app HB2 hb hsz
      have z1 := y1.grew hb
      have z2 := y2.grew hb
      have c6 := z1.cell 6
      have d6 := z2.cell 6
      simp at c6 d6
      rw [HLM.out] at d6
      by_cases hlt : k < a.ac.ln
      · rcases R1.out _ hB with g1 | ⟨o1, hp1, g1⟩
        · omega
        rcases R2.out _ hB with g2_ | ⟨o2, hp2, g2_⟩
        · omega
        rw [hp1] at c6
        rw [hp2] at d6
        obtain ⟨k0, k1, k2, k3, k4, k5, k6⟩ : AtEv wr a.ac.lb (o1 + k * 7) (a.ac.es k) := AtEv_of (g1 k hlt)
        obtain ⟨j0, j1, j2, j3, j4, j5, j6⟩ : AtEv wr b.ac.lb (o2 + k * 7) (b.ac.es k) := AtEv_of (g2_ k hlt)
        clear hp1 hp2 g1 g2_ z1 z2
        have e1 : (0 : Int) ≤ (k : Int) := by omega
        have e2 : (k : Int) < (a.ac.ln : Int) := by omega
        cases hs : smE (a.ac.es k) (b.ac.es k)
        case false =>
          have HR : Hid (smEf a b = false) := by show _ = _; rw [HA.out, smL_no hlt hs]
          have EQ : ∀ v : World, (Op.equalIn 10000 39 (.agg #[.int .i64 (a.ac.es k).kd, .int .i64 (a.ac.es k).sr, .int .i64 (a.ac.es k).pi, .int .i64 (a.ac.es k).si, .int .i64 (a.ac.es k).nn, .int .i64 (a.ac.es k).zo, .bool (a.ac.es k).be]) (.agg #[.int .i64 (b.ac.es k).kd, .int .i64 (b.ac.es k).sr, .int .i64 (b.ac.es k).pi, .int .i64 (b.ac.es k).si, .int .i64 (b.ac.es k).nn, .int .i64 (b.ac.es k).zo, .bool (b.ac.es k).be])).run Tryz.prog v = .ok false v := fun v => by have := run_eq_ev (a.ac.es k) (b.ac.es k) v; rw [hs] at this; exact this
          clear hs
          go_wp2
          go_quiet (fail)
          go_wp2
          go_ret
          exact ⟨ret_bool' HR.out.symm, below_app HB2 (below_drewN hb _) hsz⟩
        case true =>
          have HN : Hid (∀ j, j < k + 1 → smE (a.ac.es j) (b.ac.es j) = true) := fun j hj => by
            by_cases ej : j = k
            · rw [ej]; exact hs
            · exact hall.out j (by omega)
          have EQ : ∀ v : World, (Op.equalIn 10000 39 (.agg #[.int .i64 (a.ac.es k).kd, .int .i64 (a.ac.es k).sr, .int .i64 (a.ac.es k).pi, .int .i64 (a.ac.es k).si, .int .i64 (a.ac.es k).nn, .int .i64 (a.ac.es k).zo, .bool (a.ac.es k).be]) (.agg #[.int .i64 (b.ac.es k).kd, .int .i64 (b.ac.es k).sr, .int .i64 (b.ac.es k).pi, .int .i64 (b.ac.es k).si, .int .i64 (b.ac.es k).nn, .int .i64 (b.ac.es k).zo, .bool (b.ac.es k).be])).run Tryz.prog v = .ok true v := fun v => by have := run_eq_ev (a.ac.es k) (b.ac.es k) v; rw [hs] at this; exact this
          clear hs
          go_wp2
          go_quiet (fail)
          go_wp2
          go_roundw
          case rel => first | exact ⟨k + 1, by omega, by go_num, HN, below_drewN hb _⟩ | ((repeat apply Exists.intro); exact ⟨⟨k + 1, by omega, by go_num, HN, below_drewN hb _⟩, rfl⟩)
          case measure => simp [intOf]; omega
      · have HL : Hid (smEf a b = true) := by show _ = _; rw [HA.out]; exact smL_yes (fun j hj => hall.out j (by omega))
        obtain rfl : k = a.ac.ln := by omega
        clear hall hk hlt
        go_wp2
        go_ret
        exact ⟨ret_bool' HL.out.symm, hB⟩
theorem specSameEffect_any (a b : Ef) (w : World) (ha : a.okW w) (hb : b.okW w) (hn : a.ac.ln ≤ 1048577) : Calls Tryz.prog 17 #[(.agg #[.int .i64 a.id, .int .i64 a.si, .int .i64 a.sr, .int .i64 a.cl, .int .i64 a.pt.kd, .int .i64 a.pt.wh, .int .i64 a.pt.sr, .int .i64 a.pt.tr, .int .i64 a.pt.pi, .int .i64 a.pt.le, .int .i64 a.pt.zo, .int .i64 a.gd.kd, .int .i64 a.gd.nn, .int .i64 a.ac.kd, .int .i64 a.ac.nn, .int .i64 a.ac.pi, .int .i64 a.ac.si, .int .i64 a.ac.zo, .bool a.ac.be, .slice a.ac.la a.ac.ln a.ac.lcap, .int .i64 a.un, .int .i64 a.le]), (.agg #[.int .i64 b.id, .int .i64 b.si, .int .i64 b.sr, .int .i64 b.cl, .int .i64 b.pt.kd, .int .i64 b.pt.wh, .int .i64 b.pt.sr, .int .i64 b.pt.tr, .int .i64 b.pt.pi, .int .i64 b.pt.le, .int .i64 b.pt.zo, .int .i64 b.gd.kd, .int .i64 b.gd.nn, .int .i64 b.ac.kd, .int .i64 b.ac.nn, .int .i64 b.ac.pi, .int .i64 b.ac.si, .int .i64 b.ac.zo, .bool b.ac.be, .slice b.ac.la b.ac.ln b.ac.lcap, .int .i64 b.un, .int .i64 b.le])] w fun e w' => e = .returned (.bool (smEf a b)) ∧ Below w.heap.size w w' := by
  cases h : smH a b with
  | false => exact sef_h a b w h
  | true =>
    cases hk : smK a.ac b.ac with
    | false => exact sef_k a b w h hk
    | true => exact sef_t a b w ha hb hn h hk
end Go.Proofs.YtodfdfncdoliiadGreat
