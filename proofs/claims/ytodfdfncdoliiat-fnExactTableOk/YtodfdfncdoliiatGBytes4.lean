/-
  Contracts of chapter 2's amounts in bytes (numBytes, joined, cut, PutNum, GetNum and the specification's). The specification's PieceAt, OnField. Chapter 5, the program's PieceAt, and where a new piece goes: the library's IndexFunc at pieces. Chapter 9: the specification's Parts (paN, paF: how many, which). Written by tools/ac.gen.py. Own work.
-/
import Derived.Test.YtodfdfncdoliiatGPiece22
import Derived.Test.YtodfdfncdoliiatNum
import Derived.Test.YtodfdfncdoliiatGRegBelow4
import Derived.Test.YtodfdfncdoliiatGEvW5
namespace Go.Proofs.Ytodfdfncdoliiat
open Go.ChangeShapes Go.WideShapes Go.ChangeAt Go.RowKit
set_option maxRecDepth 100000

def enc (n : Int) : Nat → Int := fun j => if j = 0 then (bnd n + 2147483648) / 16777216 else if j = 1 then (bnd n + 2147483648) / 65536 % 256 else if j = 2 then (bnd n + 2147483648) / 256 % 256 else (bnd n + 2147483648) % 256

theorem and255_eq (x : Int) (h0 : 0 ≤ x) (h1 : x ≤ 9223372036854775807) : bits .and .i64 x 255 % 256 = x % 256 := by
  obtain ⟨m, rfl⟩ := Int.eq_ofNat_of_zero_le h0
  have h2 : (BitVec.ofInt 64 (255 : Int)).toNat = 255 := by decide
  have e : bits .and .i64 (m : Int) 255 = IntKind.i64.wrap ((BitVec.ofInt 64 (m : Int) &&& BitVec.ofInt 64 (255 : Int)).toNat : Int) := rfl
  have h3 : (BitVec.ofInt 64 (m : Int) &&& BitVec.ofInt 64 (255 : Int)).toNat = m % 256 := by
    rw [BitVec.toNat_and, h2, BitVec.ofInt_natCast, BitVec.toNat_ofNat, Nat.mod_eq_of_lt (by omega)]
    exact Nat.and_two_pow_sub_one_eq_mod m 8
  rw [e, h3, IntWalk.i64_in _ (by omega)]
  omega
theorem vals4 (k : IntKind) (f : Nat → Int) : vals k 4 f = [.int k (f 0), .int k (f 1), .int k (f 2), .int k (f 3)] := rfl
theorem Rd.news {k : IntKind} {w : World} {b : Nat} {ad : Addr} {n : Nat} {f : Nat → Int} (h : Rd k w b (some ad) n f) : ∀ j u, (vals k n f)[j]? = some u → w.cell? (ad.add j) = some u := by
  intro j u hu
  by_cases hn : 0 < n
  · obtain ⟨x, e, hx⟩ := h.src hn
    simp only [Option.some.injEq] at e
    subst e
    exact hx j u hu
  · rw [vals_get, if_neg (by omega)] at hu; cases hu
theorem cells_new (w : World) (L : List Value) (t : TypeId) : ∀ j u, L[j]? = some u → (w.alloc (.cells L.toArray t)).cell? ((⟨w.heap.size, 0, none⟩ : Addr).add j) = some u := by
  intro j u hu
  have e : (⟨w.heap.size, 0, none⟩ : Addr).add j = ⟨w.heap.size, j, none⟩ := by unfold Addr.add; split <;> simp_all
  rw [e, cell_of_row _ w.heap.size j _ t (0, 0) (heap_alloc_new w _)]
  simpa using hu
end Go.Proofs.Ytodfdfncdoliiat
namespace Go.Proofs.Ytodfdfncdoliiat
open Go.ChangeShapes Go.WideShapes Go.ChangeAt Go.RowKit
set_option maxRecDepth 100000
set_option linter.unusedVariables false
/-- the place of the first piece of this number -/
def paI (n : Nat) (f : Nat → Pc) (id : Int) : Int := match (List.range n).find? (fun i => decide ((f i).id = id)) with | some i => (i : Int) | none => -1
theorem paI_at {n k : Nat} {f : Nat → Pc} {id : Int} (hk : k < n) (h : (f k).id = id) (h0 : ∀ j, j < k → (f j).id ≠ id) : paI n f id = (k : Int) := by
  have : (List.range n).find? (fun i => decide ((f i).id = id)) = some k := by
    rw [List.find?_range_eq_some]
    exact ⟨by simpa using h, List.mem_range.2 hk, fun j hj => by simpa using h0 j hj⟩
  unfold paI
  rw [this]
theorem paI_none {n : Nat} {f : Nat → Pc} {id : Int} (h0 : ∀ j, j < n → (f j).id ≠ id) : paI n f id = -1 := by
  have : (List.range n).find? (fun i => decide ((f i).id = id)) = none := by
    rw [List.find?_eq_none]
    exact fun j hj => by simpa using h0 j (List.mem_range.1 hj)
  unfold paI
  rw [this]
/-- whether a piece is on the field, and this side's -/
def ofP (side : Int) (p : Pc) : Bool := decide (p.zo = 2) && (decide (side = -1) || decide (p.si = side))
/-- the numbers of the pieces on the field, of the first k -/
def ofL (k : Nat) (f : Nat → Pc) (side : Int) : List Int := ((List.range k).filter (fun i => ofP side (f i))).map (fun i => (f i).id)
theorem ofL_yes {k : Nat} {f : Nat → Pc} {side : Int} (h : ofP side (f k) = true) : ofL (k + 1) f side = ofL k f side ++ [(f k).id] := by
  unfold ofL; rw [List.range_succ, List.filter_append, List.map_append]; simp [h]
theorem ofL_no {k : Nat} {f : Nat → Pc} {side : Int} (h : ofP side (f k) = false) : ofL (k + 1) f side = ofL k f side := by
  unfold ofL; rw [List.range_succ, List.filter_append, List.map_append]; simp [h]
theorem ofL_len (k : Nat) (f : Nat → Pc) (side : Int) : (ofL k f side).length ≤ k := by
  unfold ofL; rw [List.length_map]; exact Nat.le_trans (List.length_filter_le _ _) (by simp)
theorem vals_list (L : List Int) : vals .i64 L.length (fun j => L.getD j 0) = L.map (Value.int .i64) := by
  symm
  refine vals_ext (by simp) (fun j hj => ?_)
  simp [hj]
end Go.Proofs.Ytodfdfncdoliiat
namespace Go.Proofs.Ytodfdfncdoliiat
open Go.ChangeShapes Go.WideShapes Go.ChangeAt Go.RowKit
set_option maxRecDepth 100000
set_option linter.unusedVariables false
/-- the place of the first piece that P is true of -/
def ixI (n : Nat) (f : Nat → Pc) (P : Pc → Bool) : Int := match (List.range n).find? (fun i => P (f i)) with | some i => (i : Int) | none => -1
theorem ixI_at {n k : Nat} {f : Nat → Pc} {P : Pc → Bool} (hk : k < n) (h : P (f k) = true) (h0 : ∀ j, j < k → P (f j) = false) : ixI n f P = (k : Int) := by
  have : (List.range n).find? (fun i => P (f i)) = some k := by
    rw [List.find?_range_eq_some]
    exact ⟨h, List.mem_range.2 hk, fun j hj => by rw [h0 j hj]; rfl⟩
  unfold ixI
  rw [this]
theorem ixI_none {n : Nat} {f : Nat → Pc} {P : Pc → Bool} (h0 : ∀ j, j < n → P (f j) = false) : ixI n f P = -1 := by
  have : (List.range n).find? (fun i => P (f i)) = none := by
    rw [List.find?_eq_none]
    exact fun j hj => by rw [h0 j (List.mem_range.1 hj)]; simp
  unfold ixI
  rw [this]
theorem below_new2' (w : World) (o : Obj) : Below w.heap.size w (w.alloc o) := (Below.refl _ _).alloc (Nat.le_refl _) _
/-- a piece laid into a new block -/
theorem bV_of (wr : World) (p : Pc) : BoxP ((wr.alloc (.cells #[.int .i64 0, .int .i64 0, .int .i64 0, .int .i64 0, .int .i64 0, .int .i64 0, .int .i64 0, .int .i64 0, .int .i64 0, .int .i64 0, .int .i64 0, .bool false, .bool false] 120)).setRow wr.heap.size #[.int .i64 p.id, .int .i64 p.ow, .int .i64 p.si, .int .i64 p.zo, .int .i64 p.st, .int .i64 p.po, .int .i64 p.to, .int .i64 p.tr, .int .i64 p.pl, .int .i64 p.mi, .int .i64 p.ma, .bool p.de, .bool p.be]) wr.heap.size 120 p := setRow_heap _ _ _ _ _ _ (heap_alloc_new wr _)
theorem hbV_of (wr : World) (p : Pc) : Below wr.heap.size wr ((wr.alloc (.cells #[.int .i64 0, .int .i64 0, .int .i64 0, .int .i64 0, .int .i64 0, .int .i64 0, .int .i64 0, .int .i64 0, .int .i64 0, .int .i64 0, .int .i64 0, .bool false, .bool false] 120)).setRow wr.heap.size #[.int .i64 p.id, .int .i64 p.ow, .int .i64 p.si, .int .i64 p.zo, .int .i64 p.st, .int .i64 p.po, .int .i64 p.to, .int .i64 p.tr, .int .i64 p.pl, .int .i64 p.mi, .int .i64 p.ma, .bool p.de, .bool p.be]) := below_setRow ((Below.refl _ _).alloc (Nat.le_refl _) _) (Nat.le_refl _) _
theorem bS_of (wr : World) (s : Sd) : BoxR ((wr.alloc (.cells #[.int .i64 0, .int .i64 0, .bool false] 115)).setRow wr.heap.size #[.int .i64 s.li, .int .i64 s.po, .bool s.lo]) wr.heap.size 115 #[.int .i64 s.li, .int .i64 s.po, .bool s.lo] := setRow_heap _ _ _ _ _ _ (heap_alloc_new wr _)
theorem hbS_of (wr : World) (s : Sd) : Below wr.heap.size wr ((wr.alloc (.cells #[.int .i64 0, .int .i64 0, .bool false] 115)).setRow wr.heap.size #[.int .i64 s.li, .int .i64 s.po, .bool s.lo]) := below_setRow ((Below.refl _ _).alloc (Nat.le_refl _) _) (Nat.le_refl _) _
/-- the place of the first piece of a greater number, or behind all -/
def pnN (n : Nat) (f : Nat → Pc) (id : Int) : Nat := match (List.range n).find? (fun i => decide (id < (f i).id)) with | some i => i | none => n
theorem pnN_le (n : Nat) (f : Nat → Pc) (id : Int) : pnN n f id ≤ n := by
  unfold pnN
  cases h : (List.range n).find? (fun i => decide (id < (f i).id)) with
  | none => exact Nat.le_refl _
  | some i => exact Nat.le_of_lt (List.mem_range.1 (List.mem_of_find?_eq_some h))
theorem pnN_ix (n : Nat) (f : Nat → Pc) (id : Int) : (ixI n f (fun p => decide (id < p.id)) = -1 ∧ pnN n f id = n) ∨ (∃ k : Nat, ixI n f (fun p => decide (id < p.id)) = (k : Int) ∧ pnN n f id = k ∧ k < n) := by
  unfold ixI pnN
  cases h : (List.range n).find? (fun i => decide (id < (f i).id)) with
  | none => exact .inl ⟨rfl, rfl⟩
  | some i => exact .inr ⟨i, rfl, rfl, List.mem_range.1 (List.mem_of_find?_eq_some h)⟩
end Go.Proofs.Ytodfdfncdoliiat
namespace Go.Proofs.Ytodfdfncdoliiat
open Go.ChangeShapes Go.WideShapes Go.ChangeAt Go.RowKit
set_option maxRecDepth 100000
set_option linter.unusedVariables false
set_option linter.unusedSimpArgs false

theorem owns_kept9 {w w' : World} {B : Nat} {e : TypeId} {m : Nat} {v : Value} {n : Nat} {xs : List Value} (h : w.ownsRow B e m v n xs) (hb : Below w.heap.size w w') : w'.ownsRow B e m v n xs := h.kept (row := none) ⟨hb.os, hb.tape, hb.output, hb.size, fun k hk _ => hb.block k hk⟩ (by cases v.ownBlock <;> simp)
/-- the parts of an act for a thing: how many, which -/
def paN (a : Ac) : Nat := if a.kd = 9 then a.ln else 0
def paF (a : Ac) (e : Ev) : Nat → Ev := fun i => if (a.es i).nn = -1 then { a.es i with nn := up e.nn 2147483647 } else a.es i
theorem paF_yes {a : Ac} {e : Ev} {k : Nat} (h : ((a.es k).nn == -1) = true) : paF a e k = { a.es k with nn := up e.nn 2147483647 } := by unfold paF; simp_all
theorem paF_no {a : Ac} {e : Ev} {k : Nat} (h : ((a.es k).nn == -1) = false) : paF a e k = a.es k := by unfold paF; simp_all
end Go.Proofs.Ytodfdfncdoliiat
