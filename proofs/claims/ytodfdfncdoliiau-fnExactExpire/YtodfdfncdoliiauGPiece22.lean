/-
  Chapter 4: a law's piece taken over (toPiece), and the specification's PieceOk, SamePiece, HasTrait, PowerOf, ToughOf, Moved. Contracts of the exact laws' own helpers over slices of bytes and of ints: toByteS, eqByteS, markByteS, heldByteS and the like. Own work.
-/
import Derived.Test.YtodfdfncdoliiauGCur2
import Derived.Test.YtodfdfncdoliiauRow
namespace Go.Proofs.Ytodfdfncdoliiau
open Go.ChangeShapes Go.WideShapes Go.ChangeAt Go.RowKit
set_option maxRecDepth 100000

set_option maxHeartbeats 2000000 in
theorem toPiece_any (p : Pc) (w : World) :
    Calls Try.prog 78 #[(.agg #[.int .i64 p.id, .int .i64 p.ow, .int .i64 p.si, .int .i64 p.zo, .int .i64 p.st, .int .i64 p.po, .int .i64 p.to, .int .i64 p.tr, .int .i64 p.pl, .int .i64 p.mi, .int .i64 p.ma, .bool p.de, .bool p.be])] w fun e w' => e = .returned (.agg #[.int .i64 p.id, .int .i64 p.ow, .int .i64 p.si, .int .i64 p.zo, .int .i64 p.st, .int .i64 p.po, .int .i64 p.to, .int .i64 p.tr, .int .i64 p.pl, .int .i64 p.mi, .int .i64 p.ma, .bool p.de, .bool p.be]) ∧ Below w.heap.size w w' := by
  go_enter Try.func78, Try.ntmps78
  go_wp2
  (try simp only [Exit.inBlock, Exit.then]); refine bodyPost_ret (results_cell_row rfl _ _ (w.heap.size + 1) _ _ _ _ rfl ((Below.heap_alloc _ _ _ (by simp)).trans (heap_alloc2_new _ _ _)) Try.underlying130 rfl (by kernel_rfl)) rfl ?_
  exact ⟨rfl, (((Below.refl _ w).alloc (Nat.le_refl _) _).alloc (by simp) _).alloc (by simp; omega) _⟩
/-- block b holds a piece -/
def BoxP (w : World) (b t : Nat) (p : Pc) : Prop := w.heap[b]? = some (.cells #[.int .i64 p.id, .int .i64 p.ow, .int .i64 p.si, .int .i64 p.zo, .int .i64 p.st, .int .i64 p.po, .int .i64 p.to, .int .i64 p.tr, .int .i64 p.pl, .int .i64 p.mi, .int .i64 p.ma, .bool p.de, .bool p.be] t (0, 0))
theorem box_new (w : World) (t : Nat) (p : Pc) : BoxP (w.alloc (.cells #[.int .i64 p.id, .int .i64 p.ow, .int .i64 p.si, .int .i64 p.zo, .int .i64 p.st, .int .i64 p.po, .int .i64 p.to, .int .i64 p.tr, .int .i64 p.pl, .int .i64 p.mi, .int .i64 p.ma, .bool p.de, .bool p.be] t)) w.heap.size t p := heap_alloc_new w _
theorem BoxP.lt {w : World} {b t : Nat} {p : Pc} (h : BoxP w b t p) : b < w.heap.size := (Array.getElem?_eq_some_iff.1 h).1
theorem BoxP.grew {w w' : World} {b t : Nat} {p : Pc} (h : BoxP w b t p) (hb : Below w.heap.size w w') : BoxP w' b t p := (hb.block b h.lt).trans h
theorem BoxP.alloc {w : World} {b t : Nat} {p : Pc} (h : BoxP w b t p) (o : Obj) : BoxP (w.alloc o) b t p := (Below.heap_alloc w o b h.lt).trans h
/-- its cells, one by one -/
def Cells13 (w : World) (b : Nat) (p : Pc) : Prop :=
  w.cell? ⟨b, 0, none⟩ = some (.int .i64 p.id) ∧ w.cell? ⟨b, 1, none⟩ = some (.int .i64 p.ow) ∧ w.cell? ⟨b, 2, none⟩ = some (.int .i64 p.si) ∧ w.cell? ⟨b, 3, none⟩ = some (.int .i64 p.zo) ∧ w.cell? ⟨b, 4, none⟩ = some (.int .i64 p.st) ∧ w.cell? ⟨b, 5, none⟩ = some (.int .i64 p.po) ∧ w.cell? ⟨b, 6, none⟩ = some (.int .i64 p.to) ∧ w.cell? ⟨b, 7, none⟩ = some (.int .i64 p.tr) ∧ w.cell? ⟨b, 8, none⟩ = some (.int .i64 p.pl) ∧ w.cell? ⟨b, 9, none⟩ = some (.int .i64 p.mi) ∧ w.cell? ⟨b, 10, none⟩ = some (.int .i64 p.ma) ∧ w.cell? ⟨b, 11, none⟩ = some (.bool p.de) ∧ w.cell? ⟨b, 12, none⟩ = some (.bool p.be)
theorem BoxP.cells {w : World} {b t : Nat} {p : Pc} (h : BoxP w b t p) : Cells13 w b p :=
  ⟨cell_of_row w b 0 _ t (0, 0) h, cell_of_row w b 1 _ t (0, 0) h, cell_of_row w b 2 _ t (0, 0) h, cell_of_row w b 3 _ t (0, 0) h, cell_of_row w b 4 _ t (0, 0) h, cell_of_row w b 5 _ t (0, 0) h, cell_of_row w b 6 _ t (0, 0) h, cell_of_row w b 7 _ t (0, 0) h, cell_of_row w b 8 _ t (0, 0) h, cell_of_row w b 9 _ t (0, 0) h, cell_of_row w b 10 _ t (0, 0) h, cell_of_row w b 11 _ t (0, 0) h, cell_of_row w b 12 _ t (0, 0) h⟩
theorem BoxP.cells13 {w w' : World} {b t : Nat} {p : Pc} (h : BoxP w b t p) (hb : Below w.heap.size w w') : Cells13 w' b p := (h.grew hb).cells
/-- whether x lies from a to b -/
def ib (x a b : Int) : Bool := decide (a ≤ x) && decide (x ≤ b)
theorem ret_bool' {a b : Bool} (h : a = b) : Ending.returned (.bool a) = .returned (.bool b) := by rw [h]
theorem l1In_any (x a b : Int) (w : World) : Calls Try.prog 84 #[.int .i64 x, .int .i64 a, .int .i64 b] w fun e w' => e = .returned (.bool (ib x a b)) ∧ w' = w := by
  go_enter Try.func84, Try.ntmps84
  go_wp2
  all_goals go_ret
  all_goals refine ⟨ret_bool' ?_, rfl⟩
  all_goals (unfold ib; simp_all <;> omega)
def okA (p : Pc) : Bool := ib p.id 1 99 && ib p.ow 0 2 && ib p.si 0 2 && ib p.zo 1 4 && ib p.st 0 9999 && ib p.po 0 999 && ib p.to 0 999 && ib p.tr 0 63
def okB (p : Pc) : Bool := ib p.pl 0 2147483647 && ib p.mi 0 2147483647 && ib p.ma 0 2147483647
def okC (p : Pc) : Bool := decide (p.zo = 2) || (decide (p.si = p.ow) && decide (p.pl = 0) && decide (p.mi = 0) && decide (p.ma = 0) && !p.de && !p.be)
/-- whether a piece is as chapter 4 wants it -/
def okP (p : Pc) : Bool := okA p && okB p && okC p
end Go.Proofs.Ytodfdfncdoliiau
namespace Go.Proofs.Ytodfdfncdoliiau
open Go.ChangeShapes Go.WideShapes Go.ChangeAt Go.RowKit
set_option maxRecDepth 100000
theorem below_drewN {B : Nat} {a w : World} (h : Below B a w) (n : Nat) : Below B a (w.drewN n) := ⟨h.os, h.tape, h.output, h.size, h.block⟩

theorem below_only {B p : Nat} {w u u' : World} (hB : Below B w u) (hs : B ≤ p) (hu : B ≤ u.heap.size) (ho : Only p u u') : Below B w u' := hB.trans (ho.below hs hu)
theorem u8_wf {x : Int} (h : (Lit.int .u8 x).wf = true) : 0 ≤ x ∧ x ≤ 255 := bounds_u8 h
theorem i64_wf {x : Int} (h : (Lit.int .i64 x).wf = true) : -9223372036854775808 ≤ x ∧ x ≤ 9223372036854775807 := bounds_i64 h
/-- the row that came in, in the words of the frame's 'IsRow' -/
theorem rd_of_row {k : IntKind} {w : World} {a : Option Addr} {len cap : Nat} {zs : List Int}
    (h : (a = none ∧ len = 0 ∧ cap = 0 ∧ zs = []) ∨ ∃ x, a = some x ∧ len ≤ cap ∧ cap ≤ maxLen ∧ zs.length = cap ∧ (∀ i, i < zs.length → w.cell? (x.add i) = some (.int k (zs.getD i 0))) ∧ ∀ n ∈ zs, (Lit.int k n).wf = true) :
    len ≤ 9223372036854775807 ∧ ∃ b, ∃ f : Nat → Int, Rd k w b a len f ∧ ∀ i, i < len → (Lit.int k (f i)).wf = true := by
  rcases h with ⟨rfl, rfl, rfl, rfl⟩ | ⟨x, rfl, hl, hm, hz, hc, hw⟩
  · exact ⟨by omega, 0, fun _ => 0, .inl rfl, fun i hi => by omega⟩
  · unfold maxLen at hm
    refine ⟨by omega, ?_⟩
    by_cases h0 : len = 0
    · exact ⟨0, fun _ => 0, .inl h0, fun i hi => by omega⟩
    · obtain ⟨b, off, rfl, hcell⟩ := ints_at hc (by omega)
      refine ⟨b, fun i => zs.getD i 0, .inr ⟨off, rfl, fun i hi => hcell i (by omega)⟩, fun i hi => ?_⟩
      have hi' : i < zs.length := by omega
      have e : zs.getD i 0 = zs[i] := by simp [hi']
      show (Lit.int k (zs.getD i 0)).wf = true
      rw [e]
      exact hw _ (List.getElem_mem hi')

def mkByteS (k0 : Int) : Nat → Int := fun j => IntKind.u8.wrap (k0 + j)
set_option maxHeartbeats 400000 in
theorem eqIntS_same (a1 a2 : Option Addr) (b1 b2 n c1 c2 : Nat) (f : Nat → Int) (w : World) (hn : n ≤ 9223372036854775807) (h1 : Rd .i64 w b1 a1 n f) (h2 : Rd .i64 w b2 a2 n f) :
    Calls Try.prog 29 #[.slice a1 n c1, .slice a2 n c2] w fun e w' => e = .returned (.bool true) ∧ Below w.heap.size w w' := by
  go_enter Try.func29, Try.ntmps29
  go_wp2
  go_loopw [5] (fun i wr => ∃ k : Nat, k ≤ n ∧ i = .int .i64 k ∧ Below w.heap.size w wr) (fun i _ => n - (intOf i).toNat)
  case atStart => exact ⟨0, Nat.zero_le _, rfl, Below.refl _ _⟩
  case round =>
    obtain ⟨k, hk, rfl, hb⟩ := hrel
    by_cases hlt : k < n
    · rcases h1.grew hb with h3 | ⟨o1, rfl, h3⟩
      · omega
      rcases h2.grew hb with h4 | ⟨o2, rfl, h4⟩
      · omega
      have e1 := h3 k hlt
      have e2 := h4 k hlt
      clear h1 h2 h3 h4
      go_wp2
      go_quiet (fail)
      go_wp2
      go_roundw
      case rel => exact ⟨k + 1, by omega, by go_num, below_drewN hb _⟩
      case measure => simp [intOf]; omega
    · go_wp2
      go_ret
      exact ⟨rfl, hb⟩
set_option maxHeartbeats 400000 in
theorem toIntS_any (a : Option Addr) (b n c : Nat) (f : Nat → Int) (w : World) (hn : n ≤ 17592186043904) (h : Rd .i64 w b a n f) :
    Calls Try.prog 27 #[.slice a n c] w fun e w' => e = .returned (.slice (some ⟨w.heap.size, 0, none⟩) n n) ∧ Below w.heap.size w w' ∧ Own .i64 w' w.heap.size w.heap.size (some ⟨w.heap.size, 0, none⟩) n f := by
  obtain ⟨i0, hi, hz0, hz1, hz2⟩ := info_parts Try.infoInt
  obtain ⟨B, hB⟩ : ∃ B, B = w.heap.size := ⟨_, rfl⟩
  go_enter Try.func27, Try.ntmps27
  go_wp2_with (at_make; refine wpList_make_full _ rfl _ _ 60 rfl w.heap.size 3 i0 (.int .i64 0) 1 Try.underlying60 hi hz0 hz1 _ _ _ _ n rfl rfl rfl rfl (by rw [hz2]; omega) (by unfold maxLen; omega) (Nat.le_refl _) ?_)
  intro w1 hown hgr
  rw [made_vals] at hown
  obtain ⟨g, cap, e, ho⟩ := own_of hown (by simp)
  simp only [Value.slice.injEq, Option.some.injEq, Addr.mk.injEq, and_true, true_and] at e
  obtain ⟨rfl, rfl⟩ := e
  have hb1 : Below w.heap.size w w1 := (Below.refl _ _).grown hgr (Nat.le_refl _) (by simp)
  clear hown hgr
  go_wp2
  go_loopw [4] (fun i wr => ∃ k : Nat, k ≤ n ∧ i = .int .i64 k ∧ Below w.heap.size w wr ∧ Own .i64 wr w.heap.size w.heap.size (some ⟨w.heap.size, 0, none⟩) n (til k f (fun _ => 0))) (fun i _ => n - (intOf i).toNat)
  case atStart => exact ⟨0, Nat.zero_le _, rfl, hb1, by rw [til_zero]; exact ho⟩
  case round =>
    obtain ⟨k, hk, rfl, hb, hr⟩ := hrel
    by_cases hlt : k < n
    · have hrd := h.grew hb
      rcases hrd with h3 | ⟨o1, rfl, h3⟩
      · omega
      have e1 := h3 k hlt
      have e2 := hr.cell k hlt
      have e3 := hr.2.2.2 k
      have R := hr.put k (f k)
      rw [til_step] at R
      simp only [Nat.zero_add] at e2 R
      have hb2 := hb.setCell (p := ⟨w.heap.size, k, none⟩) (Nat.le_refl _) (.int .i64 (f k))
      clear h h3 hr
      go_wp2
      go_roundw
      case rel => exact ⟨k + 1, by omega, by go_num, hb2, R⟩
      case measure => simp [intOf]; omega
    · have hr2 := hr.congr (til_all f _ (by omega))
      go_wp2
      go_ret
      exact ⟨rfl, hb, hr2⟩
def mkIntS (k0 : Int) : Nat → Int := fun j => k0 + j
set_option maxHeartbeats 400000 in
theorem markIntS_any (a : Option Addr) (b n c : Nat) (k0 : Int) (f : Nat → Int) (w : World) {B : Nat} (hn : n ≤ 17592186043904) (hk0 : 0 ≤ k0) (hk1 : k0 ≤ 140737488351232) (h : Own .i64 w B b a n f) :
    Calls Try.prog 32 #[.slice a n c, .int .i64 k0] w fun e w' => e = .returned (.int .i64 (k0 + n)) ∧ Only b w w' ∧ Own .i64 w' B b a n (mkIntS k0) := by
  go_enter Try.func32, Try.ntmps32
  go_wp2
  go_loopw [1, 5] (fun m i wr => ∃ k : Nat, k ≤ n ∧ i = .int .i64 k ∧ m = .int .i64 (k0 + k) ∧ Only b w wr ∧ Own .i64 wr B b a n (til k (mkIntS k0) f)) (fun _ i _ => n - (intOf i).toNat)
  case atStart => exact ⟨0, Nat.zero_le _, rfl, by simp, Only.refl _ _, by rw [til_zero]; exact h⟩
  case round =>
    obtain ⟨k, hk, rfl, rfl, hb, hr⟩ := hrel
    by_cases hlt : k < n
    · rcases hr.rd with h3 | ⟨o1, rfl, h3⟩
      · omega
      clear h3 h
      have e2 := hr.cell k hlt
      have e3 := hr.2.2.2 (o1 + k)
      have R := hr.put k (mkIntS k0 k)
      rw [til_step] at R
      have hb2 := hb.setCell (q := ⟨b, o1 + k, none⟩) (.inl rfl) (.int .i64 (mkIntS k0 k))
      clear hr
      go_wp2
      go_roundw
      case rel => exact ⟨k + 1, by omega, by go_num, by go_num, hb2, R⟩
      case measure => simp [intOf]; omega
    · obtain rfl : k = n := by omega
      have hr2 := hr.congr (til_all (mkIntS k0) _ (Nat.le_refl _))
      go_wp2
      go_ret
      exact ⟨rfl, hb, hr2⟩
set_option maxHeartbeats 400000 in
theorem heldIntS_any (a : Option Addr) (b n c : Nat) (k0 : Int) (w : World) (hn : n ≤ 17592186043904) (hk0 : 0 ≤ k0) (hk1 : k0 ≤ 140737488351232) (h : Rd .i64 w b a n (mkIntS k0)) :
    Calls Try.prog 33 #[.slice a n c, .int .i64 k0] w fun e w' => e = .returned (.int .i64 (k0 + n)) ∧ Below w.heap.size w w' := by
  go_enter Try.func33, Try.ntmps33
  go_wp2
  go_loopw [1, 5] (fun m i wr => ∃ k : Nat, k ≤ n ∧ i = .int .i64 k ∧ m = .int .i64 (k0 + k) ∧ Below w.heap.size w wr) (fun _ i _ => n - (intOf i).toNat)
  case atStart => exact ⟨0, Nat.zero_le _, rfl, by simp, Below.refl _ _⟩
  case round =>
    obtain ⟨k, hk, rfl, rfl, hb⟩ := hrel
    by_cases hlt : k < n
    · rcases h.grew hb with h3 | ⟨o1, rfl, h3⟩
      · omega
      have e2 := h3 k hlt
      clear h3 h
      unfold mkIntS at e2
      go_wp2
      go_roundw
      case rel => exact ⟨k + 1, by omega, by go_num, by go_num, hb⟩
      case measure => simp [intOf]; omega
    · obtain rfl : k = n := by omega
      go_wp2
      go_ret
      exact ⟨rfl, hb⟩
end Go.Proofs.Ytodfdfncdoliiau
