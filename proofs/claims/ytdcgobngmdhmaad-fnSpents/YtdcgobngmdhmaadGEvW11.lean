/-
  Chapter 6: the specification's EventOk (okE). Written by tools/ev.gen.py. Chapter 6: the specification's EventOk, going on. Written by tools/ev.gen.py. Chapter 6: the specification's EventOk, going on. Written by tools/ev.gen.py. Chapter 6: the specification's EventOk, going on. Written by tools/ev.gen.py. Chapter 9: the specification's l9Part, l9Plain, ActFits (fiA), Amount (amA). Written by tools/ac.gen.py. Chapter 9: the specification's ActOk (okAc). Written by tools/ac.gen.py. Chapter 7: the specification's PatOk (okPt): one walk for each test that may be the first to fail. Written by tools/pa.gen.py. Chapter 8: the specification's GuardOk (okGd), Stronger (srG). Written by tools/gu.gen.py. Chapter 10: the specification's EffectOk (okEf), Lives (lvE), Near (nrE). Written by tools/ef.gen.py. The specification's PieceAt, OnField. Chapter 5, the program's PieceAt, and where a new piece goes: the library's IndexFunc at pieces. Own work.
-/
import Derived.Test.YtdcgobngmdhmaadGPiece23
import Derived.Test.YtdcgobngmdhmaadAcA
import Derived.Test.YtdcgobngmdhmaadNum
import Derived.Test.YtdcgobngmdhmaadGPaA2
import Derived.Test.YtdcgobngmdhmaadEfC
import Derived.Deep.DeepCutAuto
import Derived.Deep.CutBlock
import Derived.Test.YtdcgobngmdhmaadGRegBelow4
import Derived.Test.YtdcgobngmdhmaadGBytes2
namespace Go.Proofs.Ytdcgobngmdhmaad
open Go.ChangeShapes Go.WideShapes Go.ChangeAt Go.RowKit
set_option maxRecDepth 100000
set_option linter.unusedVariables false
set_option linter.unusedSimpArgs false

/-- of a piece; of a side -/
def pcE (e : Ev) : Bool := ib e.pi 1 99 && decide (e.si = -1)
def sdE (e : Ev) : Bool := decide (e.pi = 0) && ib e.si 0 2
def ok1 (e : Ev) : Bool := ib e.sr 1 99 && (pcE e || sdE e) && decide (e.zo = 0) && !e.be
def ok2 (e : Ev) : Bool := decide (e.sr = 0) && pcE e && ib e.zo 1 4 && decide (e.nn ≤ 99) && (decide (e.zo = 2) || decide (e.nn = 0) && !e.be)
def ok3 (e : Ev) : Bool := decide (e.sr = 0) && sdE e && decide (e.zo = 0) && !e.be
def ok5 (e : Ev) : Bool := decide (e.sr = 0) && pcE e && decide (e.zo = 0) && !e.be
/-- whether it may be -/
def okE (e : Ev) : Bool := ib e.nn 0 2147483647 && (if e.kd = 1 then ok1 e else if e.kd = 2 then ok2 e else if e.kd = 3 ∨ e.kd = 4 then ok3 e else if e.kd = 5 ∨ e.kd = 6 then ok5 e else false)
end Go.Proofs.Ytdcgobngmdhmaad
namespace Go.Proofs.Ytdcgobngmdhmaad
open Go.ChangeShapes Go.WideShapes Go.ChangeAt Go.RowKit
set_option maxRecDepth 100000
set_option linter.unusedVariables false
set_option linter.unusedSimpArgs false

end Go.Proofs.Ytdcgobngmdhmaad
namespace Go.Proofs.Ytdcgobngmdhmaad
open Go.ChangeShapes Go.WideShapes Go.ChangeAt Go.RowKit
set_option maxRecDepth 100000
set_option linter.unusedVariables false
set_option linter.unusedSimpArgs false

end Go.Proofs.Ytdcgobngmdhmaad
namespace Go.Proofs.Ytdcgobngmdhmaad
open Go.ChangeShapes Go.WideShapes Go.ChangeAt Go.RowKit
set_option maxRecDepth 100000
set_option linter.unusedVariables false
set_option linter.unusedSimpArgs false

end Go.Proofs.Ytdcgobngmdhmaad
namespace Go.Proofs.Ytdcgobngmdhmaad
open Go.ChangeShapes Go.WideShapes Go.ChangeAt Go.RowKit
set_option maxRecDepth 100000
set_option linter.unusedVariables false
set_option linter.unusedSimpArgs false

/-- whether a part is right: as it stands, or with another amount -/
def ptE (e : Ev) : Bool := okE (bif decide (e.nn = -1) && !decide (e.kd = 2) then { e with nn := 0 } else e)
/-- whether an act names nothing but its kind, and perhaps an amount -/
def plA (a : Ac) : Bool := decide (a.pi = 0) && decide (a.si = -1) && decide (a.zo = 0) && !a.be && decide (a.ln = 0)
def fiA (a : Ac) (k : Int) : Bool := ib k 1 6 && (bif decide (a.kd = 2) || decide (a.kd = 6) then decide (k = 1) else bif decide (a.kd = 3) || decide (a.kd = 4) || decide (a.kd = 5) then !decide (k = 2) else bif decide (a.kd = 7) || decide (a.kd = 8) then decide (k = 2) else decide (a.kd = 1) || decide (a.kd = 9))
def amA (a : Ac) (n : Int) : Int := if a.kd = 1 then 0 else if a.kd = 3 then pl (up n 2147483647) a.nn else if a.kd = 4 then tw (up n 2147483647) else if a.kd = 5 then hf (up n 2147483647) else up n 2147483647
set_option maxHeartbeats 2000000 in
theorem specActFits_any (a : Ac) (k : Int) (w : World) : Calls Try.prog 64 #[(.agg #[.int .i64 a.kd, .int .i64 a.nn, .int .i64 a.pi, .int .i64 a.si, .int .i64 a.zo, .bool a.be, .slice a.la a.ln a.lcap]), .int .i64 k] w fun e w' => e = .returned (.bool (fiA a k)) ∧ Below w.heap.size w w' := by
  have HB := (Below.refl _ w).alloc (Nat.le_refl _) (.cells #[.int .i64 a.kd, .int .i64 a.nn, .int .i64 a.pi, .int .i64 a.si, .int .i64 a.zo, .bool a.be, .slice a.la a.ln a.lcap] 30)
  have bx := boxR_new w 30 #[.int .i64 a.kd, .int .i64 a.nn, .int .i64 a.pi, .int .i64 a.si, .int .i64 a.zo, .bool a.be, .slice a.la a.ln a.lcap]
  generalize hW : w.alloc (.cells #[.int .i64 a.kd, .int .i64 a.nn, .int .i64 a.pi, .int .i64 a.si, .int .i64 a.zo, .bool a.be, .slice a.la a.ln a.lcap] 30) = W at HB bx
  have c0 := bx.cell 0
  have c1 := bx.cell 1
  have c2 := bx.cell 2
  have c3 := bx.cell 3
  have c4 := bx.cell 4
  have c5 := bx.cell 5
  have c6 := bx.cell 6
  simp at c0 c1 c2 c3 c4 c5 c6
  go_enter Try.func64, Try.ntmps64
  go_wp2_with (go_at_call 71; refine (l1In_any _ _ _ _).mono ?_; rintro e w' ⟨rfl, rfl⟩)
  all_goals go_ret
  all_goals exact ⟨ret_bool' (by unfold fiA; first | (simp_all; done) | (rw [Bool.eq_iff_iff]; simp_all)), HB⟩
end Go.Proofs.Ytdcgobngmdhmaad
namespace Go.Proofs.Ytdcgobngmdhmaad
open Go.ChangeShapes Go.WideShapes Go.ChangeAt Go.RowKit
set_option maxRecDepth 100000
set_option linter.unusedVariables false
set_option linter.unusedSimpArgs false

/-- whether each of the first n parts is right -/
def apL (n : Nat) (f : Nat → Ev) : Bool := (List.range n).all (fun i => ptE (f i))
theorem apL_no {n k : Nat} {f : Nat → Ev} (hk : k < n) (h : ptE (f k) = false) : apL n f = false := by unfold apL; rw [List.all_eq_false]; exact ⟨k, List.mem_range.2 hk, by simp [h]⟩
theorem apL_yes {n : Nat} {f : Nat → Ev} (h : ∀ k, k < n → ptE (f k) = true) : apL n f = true := by unfold apL; rw [List.all_eq_true]; exact fun k hk => h k (List.mem_range.1 hk)
def ac6 (a : Ac) : Bool := decide (a.nn = 0) && decide (a.zo = 0) && !a.be && decide (a.ln = 0) && ((ib a.pi 1 99 && decide (a.si = -1)) || (decide (a.pi = 0) && ib a.si 0 2))
def ac7 (a : Ac) : Bool := decide (a.nn = 0) && decide (a.pi = 0) && decide (a.si = -1) && !a.be && decide (a.ln = 0) && ib a.zo 1 4
def ac8 (a : Ac) : Bool := ib a.nn 0 99 && decide (a.pi = 0) && decide (a.si = -1) && decide (a.zo = 0) && decide (a.ln = 0)
def ac9 (a : Ac) : Bool := decide (a.nn = 0) && decide (a.pi = 0) && decide (a.si = -1) && decide (a.zo = 0) && !a.be && ib a.ln 1 3
/-- whether an act may be -/
def okAc (a : Ac) : Bool :=
  if a.kd = 1 ∨ a.kd = 2 ∨ a.kd = 4 ∨ a.kd = 5 then plA a && decide (a.nn = 0)
  else if a.kd = 3 then plA a && ib a.nn 1 2147483647
  else if a.kd = 6 then ac6 a else if a.kd = 7 then ac7 a else if a.kd = 8 then ac8 a
  else if a.kd = 9 then apL a.ln a.es && ac9 a else false
end Go.Proofs.Ytdcgobngmdhmaad
namespace Go.Proofs.Ytdcgobngmdhmaad
open Go.ChangeShapes Go.WideShapes Go.ChangeAt Go.RowKit
set_option maxRecDepth 100000
set_option linter.unusedVariables false
set_option linter.unusedSimpArgs false

def okT7 (p : Pt) : Bool := ib p.kd 1 6 && ib p.wh 0 2 && ib p.pi 0 99 && ib p.le 0 2147483647 && ib p.sr 0 99 && ib p.tr 0 63 && ib p.zo 0 4
/-- whether what is asked for may be asked for -/
def okPt (p : Pt) : Bool := okT7 p && (decide (p.kd = 1) || (decide (p.sr = 0) && decide (p.tr = 0))) && (decide (p.kd = 2) || decide (p.zo = 0)) && ((!decide (p.kd = 3) && !decide (p.kd = 4)) || decide (p.pi = 0))
end Go.Proofs.Ytdcgobngmdhmaad
namespace Go.Proofs.Ytdcgobngmdhmaad
open Go.ChangeShapes Go.WideShapes Go.ChangeAt Go.RowKit
set_option maxRecDepth 100000
set_option linter.unusedVariables false
set_option linter.unusedSimpArgs false

/-- whether a guard may be asked -/
def okGd (g : Gd) : Bool := bif decide (g.kd = 0) || decide (g.kd = 3) then decide (g.nn = 0) else bif decide (g.kd = 1) then ib g.nn (-2147483647) 2147483647 else (decide (g.kd = 2) || decide (g.kd = 4)) && ib g.nn 0 8
/-- whether the one holds wherever the other does -/
def srG (g h : Gd) : Bool := okGd g && okGd h && (decide (h.kd = 0) || (decide (g.kd = h.kd) && (bif decide (g.kd = 1) then decide (g.nn ≤ h.nn) else decide (h.nn ≤ g.nn))))
end Go.Proofs.Ytdcgobngmdhmaad
namespace Go.Proofs.Ytdcgobngmdhmaad
open Go.ChangeShapes Go.WideShapes Go.ChangeAt Go.RowKit
set_option maxRecDepth 100000
set_option linter.unusedVariables false
set_option linter.unusedSimpArgs false

def hdE (a : Ef) : Bool := ib a.id 1 99 && ib a.si 0 2 && ib a.sr 0 99 && ib a.cl 0 4 && ib a.un (-1) 9999 && ib a.le (-1) 2147483647
def cdE (a : Ef) : Bool := (decide (a.cl = 0) && decide (a.sr = 0)) || (decide (a.ac.kd = 2) && decide (a.le < 0))
/-- whether an effect may be -/
def okEf (a : Ef) : Bool := hdE a && !cdE a && (okPt a.pt && okGd a.gd && okAc a.ac && fiA a.ac a.pt.kd)
/-- whether it lives -/
def lvE (a : Ef) (c : Int) : Bool := !decide (a.le = 0) && (decide (a.un = -1) || decide (c ≤ a.un))
/-- whether it is near -/
def nrE (a : Ef) (v : Ev) : Bool := !decide (a.cl = 0) || decide (a.sr = v.sr) || decide (a.sr = v.pi)
end Go.Proofs.Ytdcgobngmdhmaad
namespace Go.Proofs.Ytdcgobngmdhmaad
open Go.ChangeShapes Go.WideShapes Go.ChangeAt Go.RowKit
set_option maxRecDepth 100000
set_option linter.unusedVariables false
/-- the place of the first piece of this number -/
def paI (n : Nat) (f : Nat → Pc) (id : Int) : Int := match (List.range n).find? (fun i => decide ((f i).id = id)) with | some i => (i : Int) | none => -1
theorem paI_at {n k : Nat} {f : Nat → Pc} {id : Int} (hk : k < n) (h : (f k).id = id) (h0 : ∀ j, j < k → (f j).id ≠ id) : paI n f id = (k : Int) := by
  have : (List.range n).find? (fun i => decide ((f i).id = id)) = some k := by
    rw [List.find?_range_eq_some]
    exact ⟨by simpa using h, List.mem_range.2 hk, fun j hj => by simpa using h0 j hj⟩
  unfold paI
  rw [this]
theorem paI_none {n : Nat} {f : Nat → Pc} {id : Int} (h0 : ∀ j, j < n → (f j).id ≠ id) : paI n f id = -1 := by
  have : (List.range n).find? (fun i => decide ((f i).id = id)) = none := by
    rw [List.find?_eq_none]
    exact fun j hj => by simpa using h0 j (List.mem_range.1 hj)
  unfold paI
  rw [this]
/-- whether a piece is on the field, and this side's -/
def ofP (side : Int) (p : Pc) : Bool := decide (p.zo = 2) && (decide (side = -1) || decide (p.si = side))
/-- the numbers of the pieces on the field, of the first k -/
def ofL (k : Nat) (f : Nat → Pc) (side : Int) : List Int := ((List.range k).filter (fun i => ofP side (f i))).map (fun i => (f i).id)
theorem ofL_yes {k : Nat} {f : Nat → Pc} {side : Int} (h : ofP side (f k) = true) : ofL (k + 1) f side = ofL k f side ++ [(f k).id] := by
  unfold ofL; rw [List.range_succ, List.filter_append, List.map_append]; simp [h]
theorem ofL_no {k : Nat} {f : Nat → Pc} {side : Int} (h : ofP side (f k) = false) : ofL (k + 1) f side = ofL k f side := by
  unfold ofL; rw [List.range_succ, List.filter_append, List.map_append]; simp [h]
theorem ofL_len (k : Nat) (f : Nat → Pc) (side : Int) : (ofL k f side).length ≤ k := by
  unfold ofL; rw [List.length_map]; exact Nat.le_trans (List.length_filter_le _ _) (by simp)
theorem vals_list (L : List Int) : vals .i64 L.length (fun j => L.getD j 0) = L.map (Value.int .i64) := by
  symm
  refine vals_ext (by simp) (fun j hj => ?_)
  simp [hj]
end Go.Proofs.Ytdcgobngmdhmaad
namespace Go.Proofs.Ytdcgobngmdhmaad
open Go.ChangeShapes Go.WideShapes Go.ChangeAt Go.RowKit
set_option maxRecDepth 100000
set_option linter.unusedVariables false
/-- the place of the first piece that P is true of -/
def ixI (n : Nat) (f : Nat → Pc) (P : Pc → Bool) : Int := match (List.range n).find? (fun i => P (f i)) with | some i => (i : Int) | none => -1
theorem ixI_at {n k : Nat} {f : Nat → Pc} {P : Pc → Bool} (hk : k < n) (h : P (f k) = true) (h0 : ∀ j, j < k → P (f j) = false) : ixI n f P = (k : Int) := by
  have : (List.range n).find? (fun i => P (f i)) = some k := by
    rw [List.find?_range_eq_some]
    exact ⟨h, List.mem_range.2 hk, fun j hj => by rw [h0 j hj]; rfl⟩
  unfold ixI
  rw [this]
theorem ixI_none {n : Nat} {f : Nat → Pc} {P : Pc → Bool} (h0 : ∀ j, j < n → P (f j) = false) : ixI n f P = -1 := by
  have : (List.range n).find? (fun i => P (f i)) = none := by
    rw [List.find?_eq_none]
    exact fun j hj => by rw [h0 j (List.mem_range.1 hj)]; simp
  unfold ixI
  rw [this]
theorem below_new2' (w : World) (o : Obj) : Below w.heap.size w (w.alloc o) := (Below.refl _ _).alloc (Nat.le_refl _) _
/-- a piece laid into a new block -/
theorem bV_of (wr : World) (p : Pc) : BoxP ((wr.alloc (.cells #[.int .i64 0, .int .i64 0, .int .i64 0, .int .i64 0, .int .i64 0, .int .i64 0, .int .i64 0, .int .i64 0, .int .i64 0, .int .i64 0, .int .i64 0, .bool false, .bool false] 81)).setRow wr.heap.size #[.int .i64 p.id, .int .i64 p.ow, .int .i64 p.si, .int .i64 p.zo, .int .i64 p.st, .int .i64 p.po, .int .i64 p.to, .int .i64 p.tr, .int .i64 p.pl, .int .i64 p.mi, .int .i64 p.ma, .bool p.de, .bool p.be]) wr.heap.size 81 p := setRow_heap _ _ _ _ _ _ (heap_alloc_new wr _)
theorem hbV_of (wr : World) (p : Pc) : Below wr.heap.size wr ((wr.alloc (.cells #[.int .i64 0, .int .i64 0, .int .i64 0, .int .i64 0, .int .i64 0, .int .i64 0, .int .i64 0, .int .i64 0, .int .i64 0, .int .i64 0, .int .i64 0, .bool false, .bool false] 81)).setRow wr.heap.size #[.int .i64 p.id, .int .i64 p.ow, .int .i64 p.si, .int .i64 p.zo, .int .i64 p.st, .int .i64 p.po, .int .i64 p.to, .int .i64 p.tr, .int .i64 p.pl, .int .i64 p.mi, .int .i64 p.ma, .bool p.de, .bool p.be]) := below_setRow ((Below.refl _ _).alloc (Nat.le_refl _) _) (Nat.le_refl _) _
theorem bS_of (wr : World) (s : Sd) : BoxR ((wr.alloc (.cells #[.int .i64 0, .int .i64 0, .bool false] 79)).setRow wr.heap.size #[.int .i64 s.li, .int .i64 s.po, .bool s.lo]) wr.heap.size 79 #[.int .i64 s.li, .int .i64 s.po, .bool s.lo] := setRow_heap _ _ _ _ _ _ (heap_alloc_new wr _)
theorem hbS_of (wr : World) (s : Sd) : Below wr.heap.size wr ((wr.alloc (.cells #[.int .i64 0, .int .i64 0, .bool false] 79)).setRow wr.heap.size #[.int .i64 s.li, .int .i64 s.po, .bool s.lo]) := below_setRow ((Below.refl _ _).alloc (Nat.le_refl _) _) (Nat.le_refl _) _
/-- the place of the first piece of a greater number, or behind all -/
def pnN (n : Nat) (f : Nat → Pc) (id : Int) : Nat := match (List.range n).find? (fun i => decide (id < (f i).id)) with | some i => i | none => n
theorem pnN_le (n : Nat) (f : Nat → Pc) (id : Int) : pnN n f id ≤ n := by
  unfold pnN
  cases h : (List.range n).find? (fun i => decide (id < (f i).id)) with
  | none => exact Nat.le_refl _
  | some i => exact Nat.le_of_lt (List.mem_range.1 (List.mem_of_find?_eq_some h))
theorem pnN_ix (n : Nat) (f : Nat → Pc) (id : Int) : (ixI n f (fun p => decide (id < p.id)) = -1 ∧ pnN n f id = n) ∨ (∃ k : Nat, ixI n f (fun p => decide (id < p.id)) = (k : Int) ∧ pnN n f id = k ∧ k < n) := by
  unfold ixI pnN
  cases h : (List.range n).find? (fun i => decide (id < (f i).id)) with
  | none => exact .inl ⟨rfl, rfl⟩
  | some i => exact .inr ⟨i, rfl, rfl, List.mem_range.1 (List.mem_of_find?_eq_some h)⟩
end Go.Proofs.Ytdcgobngmdhmaad
