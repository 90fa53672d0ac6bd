/-
  Chapter 5, the program's PieceAt, and where a new piece goes: the library's IndexFunc at pieces. Own work.
-/
import Derived.Test.YtgaodfjmehofgacState8
namespace Go.Proofs.Ytgaodfjmehofgac
open Go.ChangeShapes Go.WideShapes Go.ChangeAt Go.RowKit
set_option maxRecDepth 100000
set_option linter.unusedVariables false
/-- the place of the first piece that P is true of -/
def ixI (n : Nat) (f : Nat → Pc) (P : Pc → Bool) : Int := match (List.range n).find? (fun i => P (f i)) with | some i => (i : Int) | none => -1
theorem ixI_at {n k : Nat} {f : Nat → Pc} {P : Pc → Bool} (hk : k < n) (h : P (f k) = true) (h0 : ∀ j, j < k → P (f j) = false) : ixI n f P = (k : Int) := by
  have : (List.range n).find? (fun i => P (f i)) = some k := by
    rw [List.find?_range_eq_some]
    exact ⟨h, List.mem_range.2 hk, fun j hj => by rw [h0 j hj]; rfl⟩
  unfold ixI
  rw [this]
theorem ixI_none {n : Nat} {f : Nat → Pc} {P : Pc → Bool} (h0 : ∀ j, j < n → P (f j) = false) : ixI n f P = -1 := by
  have : (List.range n).find? (fun i => P (f i)) = none := by
    rw [List.find?_eq_none]
    exact fun j hj => by rw [h0 j (List.mem_range.1 hj)]; simp
  unfold ixI
  rw [this]
theorem below_new2' (w : World) (o : Obj) : Below w.heap.size w (w.alloc o) := (Below.refl _ _).alloc (Nat.le_refl _) _
/-- a piece laid into a new block -/
theorem bV_of (wr : World) (p : Pc) : BoxP ((wr.alloc (.cells #[.int .i64 0, .int .i64 0, .int .i64 0, .int .i64 0, .int .i64 0, .int .i64 0, .int .i64 0, .int .i64 0, .int .i64 0, .int .i64 0, .int .i64 0, .bool false, .bool false] 80)).setRow wr.heap.size #[.int .i64 p.id, .int .i64 p.ow, .int .i64 p.si, .int .i64 p.zo, .int .i64 p.st, .int .i64 p.po, .int .i64 p.to, .int .i64 p.tr, .int .i64 p.pl, .int .i64 p.mi, .int .i64 p.ma, .bool p.de, .bool p.be]) wr.heap.size 80 p := setRow_heap _ _ _ _ _ _ (heap_alloc_new wr _)
theorem hbV_of (wr : World) (p : Pc) : Below wr.heap.size wr ((wr.alloc (.cells #[.int .i64 0, .int .i64 0, .int .i64 0, .int .i64 0, .int .i64 0, .int .i64 0, .int .i64 0, .int .i64 0, .int .i64 0, .int .i64 0, .int .i64 0, .bool false, .bool false] 80)).setRow wr.heap.size #[.int .i64 p.id, .int .i64 p.ow, .int .i64 p.si, .int .i64 p.zo, .int .i64 p.st, .int .i64 p.po, .int .i64 p.to, .int .i64 p.tr, .int .i64 p.pl, .int .i64 p.mi, .int .i64 p.ma, .bool p.de, .bool p.be]) := below_setRow ((Below.refl _ _).alloc (Nat.le_refl _) _) (Nat.le_refl _) _
theorem bS_of (wr : World) (s : Sd) : BoxR ((wr.alloc (.cells #[.int .i64 0, .int .i64 0, .bool false] 90)).setRow wr.heap.size #[.int .i64 s.li, .int .i64 s.po, .bool s.lo]) wr.heap.size 90 #[.int .i64 s.li, .int .i64 s.po, .bool s.lo] := setRow_heap _ _ _ _ _ _ (heap_alloc_new wr _)
theorem hbS_of (wr : World) (s : Sd) : Below wr.heap.size wr ((wr.alloc (.cells #[.int .i64 0, .int .i64 0, .bool false] 90)).setRow wr.heap.size #[.int .i64 s.li, .int .i64 s.po, .bool s.lo]) := below_setRow ((Below.refl _ _).alloc (Nat.le_refl _) _) (Nat.le_refl _) _
set_option maxHeartbeats 1000000 in
theorem isId_any (p : Pc) (q : Nat) (id : Int) (w : World) (hq : w.cell? ⟨q, 0, none⟩ = some (.int .i64 id)) :
    Calls Try.prog 99 #[(.agg #[.int .i64 p.id, .int .i64 p.ow, .int .i64 p.si, .int .i64 p.zo, .int .i64 p.st, .int .i64 p.po, .int .i64 p.to, .int .i64 p.tr, .int .i64 p.pl, .int .i64 p.mi, .int .i64 p.ma, .bool p.de, .bool p.be]), .pointer (some ⟨q, 0, none⟩)] w fun e w' => e = .returned (.bool (decide (p.id = id))) ∧ Below w.heap.size w w' := by
  have hlt : q < w.heap.size := World.block_lt_of_cell? w _ hq
  have hq' : (w.alloc (.cells #[.int .i64 p.id, .int .i64 p.ow, .int .i64 p.si, .int .i64 p.zo, .int .i64 p.st, .int .i64 p.po, .int .i64 p.to, .int .i64 p.tr, .int .i64 p.pl, .int .i64 p.mi, .int .i64 p.ma, .bool p.de, .bool p.be] 80)).cell? ⟨q, 0, none⟩ = some (.int .i64 id) := ((below_new2' w _).cell (p := ⟨q, 0, none⟩) hlt).trans hq
  go_enter Try.func99, Try.ntmps99
  go_wp2
  go_ret
  exact ⟨ret_bool' (by first | rfl | simp), (Below.refl _ w).alloc (Nat.le_refl _) _⟩
set_option maxHeartbeats 2000000 in
theorem ixEq_any (q : Nat) (id : Int) (a : Option Addr) (b n c : Nat) (f : Nat → Pc) (w : World) (hn : n ≤ 9223372036854775807) (hq : w.cell? ⟨q, 0, none⟩ = some (.int .i64 id)) (h : RdE pcC 13 w b a n f) :
    Calls Try.prog 98 #[.slice a n c, .func (.func 99) #[] #[.pointer (some ⟨q, 0, none⟩)]] w fun e w' => e = .returned (.int .i64 (ixI n f (fun p => decide (p.id = id)))) ∧ Below w.heap.size w w' := by
  go_enter Try.func98, Try.ntmps98
  go_wp2
  go_loopw [5, 8] (fun _ i wr => ∃ k : Nat, k ≤ n ∧ i = .int .i64 k ∧ Below w.heap.size w wr ∧ Hid (∀ j, j < k → (fun p : Pc => decide (p.id = id)) (f j) = false)) (fun _ i _ => n - (intOf i).toNat)
  case atStart => exact ⟨0, Nat.zero_le _, rfl, Below.refl _ _, fun j hj => by omega⟩
  case round =>
    obtain ⟨k, hk, rfl, hb, hall⟩ := hrel
    by_cases hlt : k < n
    · rcases h.grew pcC_ne hb with g1 | ⟨o1, rfl, g1⟩
      · omega
      obtain ⟨k0, k1, k2, k3, k4, k5, k6, k7, k8, k9, k10, k11, k12⟩ : At13 wr b (o1 + k * 13) (f k) := At13_of (g1 k hlt)
      have hq' : wr.cell? ⟨q, 0, none⟩ = some (.int .i64 id) := (hb.cell (p := ⟨q, 0, none⟩) (World.block_lt_of_cell? w _ hq)).trans hq
      have y1 : (0 : Int) ≤ (k : Int) := by omega
      have y2 : (k : Int) < (n : Int) := by omega
      clear g1
      cases he : (fun p : Pc => decide (p.id = id)) (f k) with
      | true =>
        have HN : Hid (ixI n f (fun p => decide (p.id = id)) = (k : Int)) := ixI_at hlt he hall.out
        have HC : Hid (∀ u, u.cell? ⟨q, 0, none⟩ = some (.int .i64 id) → Calls Try.prog 99 #[(.agg #[.int .i64 (f k).id, .int .i64 (f k).ow, .int .i64 (f k).si, .int .i64 (f k).zo, .int .i64 (f k).st, .int .i64 (f k).po, .int .i64 (f k).to, .int .i64 (f k).tr, .int .i64 (f k).pl, .int .i64 (f k).mi, .int .i64 (f k).ma, .bool (f k).de, .bool (f k).be]), .pointer (some ⟨q, 0, none⟩)] u fun e w' => e = .returned (.bool true) ∧ Below u.heap.size u w') := fun u hu => by have := isId_any (f k) q id u hu; rwa [show (decide ((f k).id = id)) = true from he] at this
        clear he hall h
        go_wp2_with (go_at_call 99; refine (HC.out _ hq').mono ?_; rintro e w2 ⟨rfl, hb2⟩)
        go_ret
        exact ⟨ret_int HN.out.symm, below_app hb hb2 hb.size⟩
      | false =>
        have HA : Hid (∀ j, j < k + 1 → (fun p : Pc => decide (p.id = id)) (f j) = false) := fun j hj => by
          by_cases e : j = k
          · subst e; exact he
          · exact hall.out j (by omega)
        have HC : Hid (∀ u, u.cell? ⟨q, 0, none⟩ = some (.int .i64 id) → Calls Try.prog 99 #[(.agg #[.int .i64 (f k).id, .int .i64 (f k).ow, .int .i64 (f k).si, .int .i64 (f k).zo, .int .i64 (f k).st, .int .i64 (f k).po, .int .i64 (f k).to, .int .i64 (f k).tr, .int .i64 (f k).pl, .int .i64 (f k).mi, .int .i64 (f k).ma, .bool (f k).de, .bool (f k).be]), .pointer (some ⟨q, 0, none⟩)] u fun e w' => e = .returned (.bool false) ∧ Below u.heap.size u w') := fun u hu => by have := isId_any (f k) q id u hu; rwa [show (decide ((f k).id = id)) = false from he] at this
        clear he hall h
        go_wp2_with (go_at_call 99; refine (HC.out _ hq').mono ?_; rintro e w2 ⟨rfl, hb2⟩)
        have hB := below_app hb hb2 hb.size
        clear hb hb2 hq' k0 k1 k2 k3 k4 k5 k6 k7 k8 k9 k10 k11 k12
        go_roundw
        case rel => first | exact ⟨k + 1, by omega, by go_num, hB, HA⟩ | ((repeat apply Exists.intro); exact ⟨⟨k + 1, by omega, by go_num, hB, HA⟩, rfl⟩)
        case measure => simp [intOf]; omega
    · obtain rfl : k = n := by omega
      have HN : Hid (ixI k f (fun p => decide (p.id = id)) = -1) := ixI_none hall.out
      clear hall
      go_wp2
      go_ret
      exact ⟨ret_int HN.out.symm, hb⟩
set_option maxHeartbeats 1000000 in
theorem implPieceAt_any (s : Stt) (id : Int) (w : World) (hok : s.ok w) (hn : s.pn ≤ 1048577) : Calls Try.prog 61 #[(.agg #[.slice s.pa s.pn s.pcap, .slice s.sa s.sn s.scap, .int .i64 s.ac, .int .i64 s.cl]), .int .i64 id] w fun e w' => e = .returned (.int .i64 (paI s.pn s.ps id)) ∧ Below w.heap.size w w' := by
  obtain ⟨_, _, r1, _⟩ := hok
  have hb0 := ((Below.refl _ w).alloc (Nat.le_refl _) (.cells #[.slice s.pa s.pn s.pcap, .slice s.sa s.sn s.scap, .int .i64 s.ac, .int .i64 s.cl] 27)).alloc (by simp) (.cells #[.int .i64 id] 3)
  have x1 := (boxR_new w 27 #[.slice s.pa s.pn s.pcap, .slice s.sa s.sn s.scap, .int .i64 s.ac, .int .i64 s.cl]).alloc (.cells #[.int .i64 id] 3)
  have x2 : BoxR ((w.alloc (.cells #[.slice s.pa s.pn s.pcap, .slice s.sa s.sn s.scap, .int .i64 s.ac, .int .i64 s.cl] 27)).alloc (.cells #[.int .i64 id] 3)) (w.heap.size + 1) 3 #[.int .i64 id] := heap_alloc2_new _ _ _
  generalize hW : (w.alloc (.cells #[.slice s.pa s.pn s.pcap, .slice s.sa s.sn s.scap, .int .i64 s.ac, .int .i64 s.cl] 27)).alloc (.cells #[.int .i64 id] 3) = W at hb0 x1 x2
  have c0 := x1.cell 0
  have d0 := x2.cell 0
  simp at c0 d0
  go_enter Try.func61, Try.ntmps61
  go_wp2_with fail
  refine (ixEq_any (w.heap.size + 1) id s.pa s.pb s.pn s.pcap s.ps W (by omega) d0 (r1.grew pcC_ne hb0)).mono ?_
  rintro e w1 ⟨rfl, hb1⟩
  go_wp2
  go_ret
  exact ⟨rfl, below_app hb0 hb1 hb0.size⟩
/-- the place of the first piece of a greater number, or behind all -/
def pnN (n : Nat) (f : Nat → Pc) (id : Int) : Nat := match (List.range n).find? (fun i => decide (id < (f i).id)) with | some i => i | none => n
theorem pnN_le (n : Nat) (f : Nat → Pc) (id : Int) : pnN n f id ≤ n := by
  unfold pnN
  cases h : (List.range n).find? (fun i => decide (id < (f i).id)) with
  | none => exact Nat.le_refl _
  | some i => exact Nat.le_of_lt (List.mem_range.1 (List.mem_of_find?_eq_some h))
theorem pnN_ix (n : Nat) (f : Nat → Pc) (id : Int) : (ixI n f (fun p => decide (id < p.id)) = -1 ∧ pnN n f id = n) ∨ (∃ k : Nat, ixI n f (fun p => decide (id < p.id)) = (k : Int) ∧ pnN n f id = k ∧ k < n) := by
  unfold ixI pnN
  cases h : (List.range n).find? (fun i => decide (id < (f i).id)) with
  | none => exact .inl ⟨rfl, rfl⟩
  | some i => exact .inr ⟨i, rfl, rfl, List.mem_range.1 (List.mem_of_find?_eq_some h)⟩
end Go.Proofs.Ytgaodfjmehofgac
