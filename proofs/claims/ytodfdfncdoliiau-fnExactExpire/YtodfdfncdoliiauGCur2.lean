/-
  Contracts of the draws: the cursor over a code's bytes (l1New, l1Byte): what each answers lies within its bounds, and of memory that was there nothing turns but the cursor's own block. Words for a piece: its thirteen parts, and how a struct of a law's own type is opened. Own work.
-/
import Derived.Test.YtodfdfncdoliiauRows
import Derived.WalkKit
import Derived.ProofKit
import Derived.OpenShut
import Derived.WalkLawsBesides
import Derived.WalkSpells
import Derived.Deep.QuietTactic
import Derived.BigQuiet
import Derived.Lib.SmallJoins
namespace Go.Proofs.Ytodfdfncdoliiau
open Go.ChangeShapes Go.WideShapes Go.ChangeAt Go.RowKit
set_option maxRecDepth 100000

/-- of what was there nothing but block p has turned -/
structure Only (p : Nat) (w w' : World) : Prop where
  os : w'.os = w.os
  tape : w'.tape = w.tape
  output : w'.output = w.output
  size : w.heap.size ≤ w'.heap.size
  block : ∀ k, k < w.heap.size → k ≠ p → w'.heap[k]? = w.heap[k]?
theorem Only.refl (p : Nat) (w : World) : Only p w w := ⟨rfl, rfl, rfl, Nat.le_refl _, fun _ _ _ => rfl⟩
theorem Only.trans {p : Nat} {a b c : World} (h : Only p a b) (k : Only p b c) : Only p a c :=
  ⟨k.os.trans h.os, k.tape.trans h.tape, k.output.trans h.output, Nat.le_trans h.size k.size, fun i hi hp => (k.block i (Nat.lt_of_lt_of_le hi h.size) hp).trans (h.block i hi hp)⟩
theorem Only.drew {p : Nat} {a w : World} (h : Only p a w) : Only p a w.drew := ⟨h.os, h.tape, h.output, h.size, h.block⟩
theorem Only.drewN {p : Nat} {a w : World} (h : Only p a w) (n : Nat) : Only p a (w.drewN n) := ⟨h.os, h.tape, h.output, h.size, h.block⟩
theorem Only.alloc {p : Nat} {a w : World} (h : Only p a w) (o : Obj) : Only p a (w.alloc o) :=
  h.trans ⟨rfl, rfl, rfl, by show w.heap.size ≤ (w.heap.push _).size; simp, fun k hk _ => Below.heap_alloc w o k hk⟩
theorem Only.setCell {p : Nat} {a w : World} (h : Only p a w) {q : Addr} (hq : q.block = p ∨ a.heap.size ≤ q.block) (u : Value) : Only p a (w.setCell q u) := by
  refine ⟨h.os, h.tape, h.output, by simpa [World.setCell] using h.size, fun k hk hp => ?_⟩
  rw [Below.heap_setCell w q u k (by rcases hq with e | e <;> omega)]
  exact h.block k hk hp
theorem Only.cell {p : Nat} {w w' : World} (h : Only p w w') {q : Addr} (hq : q.block < w.heap.size) (hp : q.block ≠ p) : w'.cell? q = w.cell? q := World.cell?_of_block (w := w) (h.block q.block hq hp)
theorem Only.frozen {p : Nat} {w w' : World} (h : Only p w w') {q : Addr} (hq : q.block < w.heap.size) (hp : q.block ≠ p) : w'.frozen? q = w.frozen? q := World.frozen?_of_block (w := w) (h.block q.block hq hp)
theorem Only.below {p B : Nat} {w w' : World} (h : Only p w w') (hB : B ≤ p) (hs : B ≤ w.heap.size) : Below B w w' :=
  ⟨h.os, h.tape, h.output, h.size, fun k hk => h.block k (by omega) (by omega)⟩

/-- a code's bytes can be read: 'len' of them at 'a', below block B -/
def Code (w : World) (a : Option Addr) (len B : Nat) : Prop :=
  len ≤ 9223372036854775807 ∧ B ≤ w.heap.size ∧ (len = 0 ∨ ∃ b off : Nat, ∃ zs : Nat → Int, a = some ⟨b, off, none⟩ ∧ b < B ∧ ∀ i, i < len → w.cell? ⟨b, off + i, none⟩ = some (.int .u8 (zs i)) ∧ 0 ≤ zs i ∧ zs i ≤ 255)
theorem Code.below {w w' : World} {a : Option Addr} {len B : Nat} (h : Code w a len B) (hb : Below B w w') : Code w' a len B := by
  obtain ⟨h1, h2, h3⟩ := h
  refine ⟨h1, Nat.le_trans h2 hb.size, ?_⟩
  rcases h3 with h3 | ⟨b, off, zs, ha, hB, hc⟩
  · exact .inl h3
  · exact .inr ⟨b, off, zs, ha, hB, fun i hi => by rw [hb.cell (p := ⟨b, off + i, none⟩) hB]; exact hc i hi⟩
/-- a cursor over them lies at block p -/
def Cur (w : World) (p : Nat) (a : Option Addr) (len cap : Nat) : Prop :=
  p < w.heap.size ∧ w.cell? ⟨p, 0, none⟩ = some (.slice a len cap) ∧ (∃ i : Nat, i ≤ len ∧ w.cell? ⟨p, 1, none⟩ = some (.int .i64 i)) ∧ (∃ h : Int, w.cell? ⟨p, 2, none⟩ = some (.int .i64 h)) ∧ ∀ j, w.frozen? ⟨p, j, none⟩ = false

theorem and255 (x : Int) : 0 ≤ bits .and .i64 x 255 ∧ bits .and .i64 x 255 ≤ 255 := by
  have h2 : (BitVec.ofInt 64 (255 : Int)).toNat = 255 := by decide
  have e : bits .and .i64 x 255 = IntKind.i64.wrap ((BitVec.ofInt 64 x &&& BitVec.ofInt 64 (255 : Int)).toNat : Int) := rfl
  have h3 : (BitVec.ofInt 64 x &&& BitVec.ofInt 64 (255 : Int)).toNat ≤ 255 := by
    rw [BitVec.toNat_and, h2]; exact Nat.and_le_right
  rw [e, IntWalk.i64_in _ (by omega)]
  omega

theorem ret_ptr {a b : Addr} (h : a = b) : Ending.returned (.pointer (some a)) = .returned (.pointer (some b)) := by rw [h]

theorem Cur.made (w : World) (a : Option Addr) (len cap : Nat) (h : Int) (t : Nat) : Cur (w.alloc (.cells #[.slice a len cap, .int .i64 0, .int .i64 h] t)) w.heap.size a len cap := by
  refine ⟨by show w.heap.size < (w.heap.push _).size; simp, by simp, ⟨0, Nat.zero_le _, by simp⟩, ⟨h, by simp⟩, fun j => ?_⟩
  rw [frozen?_alloc_cells]
  simp [World.frozen?]

theorem Cur.put {w : World} {p : Nat} {a : Option Addr} {len cap : Nat} (hcur : Cur w p a len cap) (H : Int) : Cur (w.setCell ⟨p, 2, none⟩ (.int .i64 H)) p a len cap := by
  obtain ⟨hp, c0, ⟨i, hi, c1⟩, ⟨h, c2⟩, hfz⟩ := hcur
  refine ⟨by simpa [World.setCell] using hp, ?_, ⟨i, hi, ?_⟩, ⟨H, World.cell?_setCell_same _ _ _ c2⟩, fun j => (World.frozen?_setCell _ _ _ _).trans (hfz j)⟩
  · rw [World.cell?_setCell_other _ _ _ _ (by simp)]; exact c0
  · rw [World.cell?_setCell_other _ _ _ _ (by simp)]; exact c1
theorem Cur.step {w : World} {p : Nat} {a : Option Addr} {len cap : Nat} (hcur : Cur w p a len cap) (i' : Nat) (h' : i' ≤ len) : Cur (w.setCell ⟨p, 1, none⟩ (.int .i64 i')) p a len cap := by
  obtain ⟨hp, c0, ⟨i, hi, c1⟩, ⟨h, c2⟩, hfz⟩ := hcur
  refine ⟨by simpa [World.setCell] using hp, ?_, ⟨i', h', World.cell?_setCell_same _ _ _ c1⟩, ⟨h, ?_⟩, fun j => (World.frozen?_setCell _ _ _ _).trans (hfz j)⟩
  · rw [World.cell?_setCell_other _ _ _ _ (by simp)]; exact c0
  · rw [World.cell?_setCell_other _ _ _ _ (by simp)]; exact c2
theorem Cur.drewN {w : World} {p : Nat} {a : Option Addr} {len cap : Nat} (hcur : Cur w p a len cap) (n : Nat) : Cur (w.drewN n) p a len cap := hcur
theorem Cur.only {w w' : World} {p q : Nat} {a : Option Addr} {len cap : Nat} (hcur : Cur w p a len cap) (h : Only q w w') (hq : p ≠ q) : Cur w' p a len cap := by
  obtain ⟨hp, c0, ⟨i, hi, c1⟩, ⟨x, c2⟩, hfz⟩ := hcur
  exact ⟨Nat.lt_of_lt_of_le hp h.size, (h.cell (q := ⟨p, 0, none⟩) hp hq).trans c0, ⟨i, hi, (h.cell (q := ⟨p, 1, none⟩) hp hq).trans c1⟩, ⟨x, (h.cell (q := ⟨p, 2, none⟩) hp hq).trans c2⟩, fun j => (h.frozen (q := ⟨p, j, none⟩) hp hq).trans (hfz j)⟩

end Go.Proofs.Ytodfdfncdoliiau
namespace Go.Proofs.Ytodfdfncdoliiau
open Go.ChangeShapes Go.WideShapes Go.ChangeAt Go.RowKit
set_option maxRecDepth 100000

structure Pc where
  (id ow si zo st po to tr pl mi ma : Int)
  (de be : Bool)
/-- each of its numbers is one that an int can be -/
def Pc.wf (p : Pc) : Prop := ∀ x ∈ [p.id, p.ow, p.si, p.zo, p.st, p.po, p.to, p.tr, p.pl, p.mi, p.ma], (Lit.int .i64 x).wf = true

theorem list13 {α : Type} : ∀ {l : List α}, l.length = 13 → ∃ a b c d e f g h i j k m n, l = [a, b, c, d, e, f, g, h, i, j, k, m, n]
  | [a, b, c, d, e, f, g, h, i, j, k, m, n], _ => ⟨a, b, c, d, e, f, g, h, i, j, k, m, n, rfl⟩
section
variable {H : Type} {enc : TypeId × Value → H} {P : Program} {w : World} {base : Nat} {spare : TypeId → Bool} {held : Bool}
/-- a struct whose fields are of one cell each: its cells, and each field's reading -/
theorem open_struct1 {r : Reach} {b0 : Nat} {t : TypeId} {fs : Array Field} {v : Value} {d : DataW H} {p : List MemPlace} (hs : P.underlying t = some (.struct fs)) (hone : Deep.oneCellFields P fs = true) (hC : P.cellsOf t = fs.size)
    (hv : Value.okWide P w r b0 t v) (h : DataW.Trod enc P w base spare held t v d p) :
    ∃ cs : List Value, v = .agg cs.toArray ∧ cs.length = fs.size ∧ ∀ (i : Nat) (f : Field) (c : Value), fs[i]? = some f → cs[i]? = some c → ∃ n y, DataW.trod enc P w base spare held n f.type [c] = some y := by
  obtain ⟨cs, rfl, hsz⟩ := okWide_struct hs hv
  obtain ⟨fuel, hf⟩ := h
  obtain ⟨xs, n, _, _, _, hlen, hx⟩ := DataW.trod_struct hs hf
  refine ⟨cs.toList, by simp, by simp [hsz, hC], fun i f c hfi hci => ?_⟩
  obtain ⟨o, k⟩ := Deep.hone_of hone i f hfi
  have h1 := hx i f hfi
  have hi : i < xs.length := by rw [hlen]; exact (Array.getElem?_eq_some_iff.1 hfi).1
  rw [List.getElem?_eq_getElem hi, o, k] at h1
  have hc : ((Value.agg cs).cells.toList.drop i).take 1 = [c] := by
    have hlt := (List.getElem?_eq_some_iff.1 hci)
    obtain ⟨hl, rfl⟩ := hlt
    show (cs.toList.drop i).take 1 = _
    rw [List.drop_eq_getElem_cons hl]; rfl
  rw [hc] at h1
  exact ⟨n, _, h1⟩
end
theorem open_piece {H : Type} {enc : TypeId × Value → H} {w : World} {base : Nat} {spare : TypeId → Bool} {held : Bool} {r : Reach} {b0 : Nat} {v : Value} {d : DataW H} {p : List MemPlace}
    (hv : Value.okWide Try.prog w r b0 132 v) (h : DataW.Trod enc Try.prog w base spare held 132 v d p) : ∃ q : Pc, v = (.agg #[.int .i64 q.id, .int .i64 q.ow, .int .i64 q.si, .int .i64 q.zo, .int .i64 q.st, .int .i64 q.po, .int .i64 q.to, .int .i64 q.tr, .int .i64 q.pl, .int .i64 q.mi, .int .i64 q.ma, .bool q.de, .bool q.be]) ∧ q.wf := by
  obtain ⟨cs, rfl, hl, hf⟩ := open_struct1 Try.underlying132 (by kernel_rfl) (by kernel_rfl) hv h
  obtain ⟨c0, c1, c2, c3, c4, c5, c6, c7, c8, c9, c10, c11, c12, rfl⟩ := list13 (l := cs) hl
  obtain ⟨n0, y0, t0⟩ := hf 0 _ c0 rfl rfl
  obtain ⟨a0, e0, _, u0⟩ := DataW.trod_int Try.underlying3 t0
  obtain ⟨n1, y1, t1⟩ := hf 1 _ c1 rfl rfl
  obtain ⟨a1, e1, _, u1⟩ := DataW.trod_int Try.underlying3 t1
  obtain ⟨n2, y2, t2⟩ := hf 2 _ c2 rfl rfl
  obtain ⟨a2, e2, _, u2⟩ := DataW.trod_int Try.underlying3 t2
  obtain ⟨n3, y3, t3⟩ := hf 3 _ c3 rfl rfl
  obtain ⟨a3, e3, _, u3⟩ := DataW.trod_int Try.underlying3 t3
  obtain ⟨n4, y4, t4⟩ := hf 4 _ c4 rfl rfl
  obtain ⟨a4, e4, _, u4⟩ := DataW.trod_int Try.underlying3 t4
  obtain ⟨n5, y5, t5⟩ := hf 5 _ c5 rfl rfl
  obtain ⟨a5, e5, _, u5⟩ := DataW.trod_int Try.underlying3 t5
  obtain ⟨n6, y6, t6⟩ := hf 6 _ c6 rfl rfl
  obtain ⟨a6, e6, _, u6⟩ := DataW.trod_int Try.underlying3 t6
  obtain ⟨n7, y7, t7⟩ := hf 7 _ c7 rfl rfl
  obtain ⟨a7, e7, _, u7⟩ := DataW.trod_int Try.underlying3 t7
  obtain ⟨n8, y8, t8⟩ := hf 8 _ c8 rfl rfl
  obtain ⟨a8, e8, _, u8⟩ := DataW.trod_int Try.underlying3 t8
  obtain ⟨n9, y9, t9⟩ := hf 9 _ c9 rfl rfl
  obtain ⟨a9, e9, _, u9⟩ := DataW.trod_int Try.underlying3 t9
  obtain ⟨n10, y10, t10⟩ := hf 10 _ c10 rfl rfl
  obtain ⟨a10, e10, _, u10⟩ := DataW.trod_int Try.underlying3 t10
  obtain ⟨n11, y11, t11⟩ := hf 11 _ c11 rfl rfl
  obtain ⟨a11, e11, _⟩ := DataW.trod_bool Try.underlying4 t11
  obtain ⟨n12, y12, t12⟩ := hf 12 _ c12 rfl rfl
  obtain ⟨a12, e12, _⟩ := DataW.trod_bool Try.underlying4 t12
  simp only [List.cons.injEq, and_true] at e0 e1 e2 e3 e4 e5 e6 e7 e8 e9 e10 e11 e12
  subst e0 e1 e2 e3 e4 e5 e6 e7 e8 e9 e10 e11 e12
  refine ⟨⟨a0, a1, a2, a3, a4, a5, a6, a7, a8, a9, a10, a11, a12⟩, rfl, fun x hx => ?_⟩
  simp only [List.mem_cons, List.mem_nil_iff, or_false] at hx
  rcases hx with rfl | rfl | rfl | rfl | rfl | rfl | rfl | rfl | rfl | rfl | rfl <;> assumption
end Go.Proofs.Ytodfdfncdoliiau
