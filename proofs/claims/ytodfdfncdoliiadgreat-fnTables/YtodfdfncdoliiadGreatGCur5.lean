/-
  Contracts of the draws: the cursor over a code's bytes (l1New, l1Byte): what each answers lies within its bounds, and of memory that was there nothing turns but the cursor's own block. Words for a piece: its thirteen parts, and how a struct of a law's own type is opened. Words for slices of numbers: what a slice reads (Rd), that its block is not frozen (Free), what a row of the call's own holds (vals), and how two rows are laid together (cat, spl). Chapter 4: a law's piece taken over (toPiece), and the specification's PieceOk, SamePiece, HasTrait, PowerOf, ToughOf, Moved. Contracts of the exact laws' own helpers over slices of bytes and of ints: toByteS, eqByteS, markByteS, heldByteS and the like. Own work.
-/
import Derived.Test.YtodfdfncdoliiadGreatRows
import Derived.WalkKit
import Derived.ProofKit
import Derived.OpenShut
import Derived.WalkLawsBesides
import Derived.WalkSpells
import Derived.Deep.QuietTactic
import Derived.BigQuiet
import Derived.Lib.SmallJoins
import Derived.Laws.CopyOwn
namespace Go.Proofs.YtodfdfncdoliiadGreat
open Go.ChangeShapes Go.WideShapes Go.ChangeAt Go.RowKit
set_option maxRecDepth 100000

/-- of what was there nothing but block p has turned -/
structure Only (p : Nat) (w w' : World) : Prop where
  os : w'.os = w.os
  tape : w'.tape = w.tape
  output : w'.output = w.output
  size : w.heap.size ≤ w'.heap.size
  block : ∀ k, k < w.heap.size → k ≠ p → w'.heap[k]? = w.heap[k]?
theorem Only.refl (p : Nat) (w : World) : Only p w w := ⟨rfl, rfl, rfl, Nat.le_refl _, fun _ _ _ => rfl⟩
theorem Only.trans {p : Nat} {a b c : World} (h : Only p a b) (k : Only p b c) : Only p a c :=
  ⟨k.os.trans h.os, k.tape.trans h.tape, k.output.trans h.output, Nat.le_trans h.size k.size, fun i hi hp => (k.block i (Nat.lt_of_lt_of_le hi h.size) hp).trans (h.block i hi hp)⟩
theorem Only.drew {p : Nat} {a w : World} (h : Only p a w) : Only p a w.drew := ⟨h.os, h.tape, h.output, h.size, h.block⟩
theorem Only.drewN {p : Nat} {a w : World} (h : Only p a w) (n : Nat) : Only p a (w.drewN n) := ⟨h.os, h.tape, h.output, h.size, h.block⟩
theorem Only.alloc {p : Nat} {a w : World} (h : Only p a w) (o : Obj) : Only p a (w.alloc o) :=
  h.trans ⟨rfl, rfl, rfl, by show w.heap.size ≤ (w.heap.push _).size; simp, fun k hk _ => Below.heap_alloc w o k hk⟩
theorem Only.setCell {p : Nat} {a w : World} (h : Only p a w) {q : Addr} (hq : q.block = p ∨ a.heap.size ≤ q.block) (u : Value) : Only p a (w.setCell q u) := by
  refine ⟨h.os, h.tape, h.output, by simpa [World.setCell] using h.size, fun k hk hp => ?_⟩
  rw [Below.heap_setCell w q u k (by rcases hq with e | e <;> omega)]
  exact h.block k hk hp
theorem Only.cell {p : Nat} {w w' : World} (h : Only p w w') {q : Addr} (hq : q.block < w.heap.size) (hp : q.block ≠ p) : w'.cell? q = w.cell? q := World.cell?_of_block (w := w) (h.block q.block hq hp)
theorem Only.frozen {p : Nat} {w w' : World} (h : Only p w w') {q : Addr} (hq : q.block < w.heap.size) (hp : q.block ≠ p) : w'.frozen? q = w.frozen? q := World.frozen?_of_block (w := w) (h.block q.block hq hp)
theorem Only.below {p B : Nat} {w w' : World} (h : Only p w w') (hB : B ≤ p) (hs : B ≤ w.heap.size) : Below B w w' :=
  ⟨h.os, h.tape, h.output, h.size, fun k hk => h.block k (by omega) (by omega)⟩

/-- a code's bytes can be read: 'len' of them at 'a', below block B -/
def Code (w : World) (a : Option Addr) (len B : Nat) : Prop :=
  len ≤ 9223372036854775807 ∧ B ≤ w.heap.size ∧ (len = 0 ∨ ∃ b off : Nat, ∃ zs : Nat → Int, a = some ⟨b, off, none⟩ ∧ b < B ∧ ∀ i, i < len → w.cell? ⟨b, off + i, none⟩ = some (.int .u8 (zs i)) ∧ 0 ≤ zs i ∧ zs i ≤ 255)
theorem Code.below {w w' : World} {a : Option Addr} {len B : Nat} (h : Code w a len B) (hb : Below B w w') : Code w' a len B := by
  obtain ⟨h1, h2, h3⟩ := h
  refine ⟨h1, Nat.le_trans h2 hb.size, ?_⟩
  rcases h3 with h3 | ⟨b, off, zs, ha, hB, hc⟩
  · exact .inl h3
  · exact .inr ⟨b, off, zs, ha, hB, fun i hi => by rw [hb.cell (p := ⟨b, off + i, none⟩) hB]; exact hc i hi⟩
/-- a cursor over them lies at block p -/
def Cur (w : World) (p : Nat) (a : Option Addr) (len cap : Nat) : Prop :=
  p < w.heap.size ∧ w.cell? ⟨p, 0, none⟩ = some (.slice a len cap) ∧ (∃ i : Nat, i ≤ len ∧ w.cell? ⟨p, 1, none⟩ = some (.int .i64 i)) ∧ (∃ h : Int, w.cell? ⟨p, 2, none⟩ = some (.int .i64 h)) ∧ ∀ j, w.frozen? ⟨p, j, none⟩ = false

theorem and255 (x : Int) : 0 ≤ bits .and .i64 x 255 ∧ bits .and .i64 x 255 ≤ 255 := by
  have h2 : (BitVec.ofInt 64 (255 : Int)).toNat = 255 := by decide
  have e : bits .and .i64 x 255 = IntKind.i64.wrap ((BitVec.ofInt 64 x &&& BitVec.ofInt 64 (255 : Int)).toNat : Int) := rfl
  have h3 : (BitVec.ofInt 64 x &&& BitVec.ofInt 64 (255 : Int)).toNat ≤ 255 := by
    rw [BitVec.toNat_and, h2]; exact Nat.and_le_right
  rw [e, IntWalk.i64_in _ (by omega)]
  omega

theorem ret_ptr {a b : Addr} (h : a = b) : Ending.returned (.pointer (some a)) = .returned (.pointer (some b)) := by rw [h]

set_option maxRecDepth 100000 in
set_option maxHeartbeats 400000 in
theorem l1New_any (a : Option Addr) (len cap : Nat) (w : World) {B : Nat} (hc : Code w a len B) :
    Calls Tryz.prog 44 #[.slice a len cap] w fun e w' => ∃ h : Int, e = .returned (.pointer (some ⟨w.heap.size, 0, none⟩)) ∧ w' = w.alloc (.cells #[.slice a len cap, .int .i64 0, .int .i64 h] 128) := by
  obtain ⟨hl, _, hc⟩ := hc
  go_enter Tryz.func44, Tryz.ntmps44
  go_wp2
  go_loop [3, 4] (fun t i => ∃ k : Nat, ∃ h : Int, k ≤ len ∧ i = .int .i64 k ∧ t = .int .i64 h) (fun _ i => len - (intOf i).toNat)
  case atStart => exact ⟨0, _, Nat.zero_le _, rfl, rfl⟩
  case round =>
    obtain ⟨k, h, hk, rfl, rfl⟩ := hrel
    by_cases hlt : k < len
    · rcases hc with hc | ⟨b, off, zs, rfl, hb, hcell⟩
      · omega
      · obtain ⟨h1, h2, h3⟩ := hcell k hlt
        by_cases h4 : (k : Int) < 4000
        · go_wp2
          go_round
          case rel => exact ⟨k + 1, _, by omega, by go_num, rfl⟩
          case measure => simp [intOf]; omega
        · go_wp2
          go_ret
          exact ⟨rfl, _, rfl⟩
    · go_wp2
      go_ret
      exact ⟨rfl, _, rfl⟩
theorem Cur.made (w : World) (a : Option Addr) (len cap : Nat) (h : Int) (t : Nat) : Cur (w.alloc (.cells #[.slice a len cap, .int .i64 0, .int .i64 h] t)) w.heap.size a len cap := by
  refine ⟨by show w.heap.size < (w.heap.push _).size; simp, by simp, ⟨0, Nat.zero_le _, by simp⟩, ⟨h, by simp⟩, fun j => ?_⟩
  rw [frozen?_alloc_cells]
  simp [World.frozen?]

theorem Cur.put {w : World} {p : Nat} {a : Option Addr} {len cap : Nat} (hcur : Cur w p a len cap) (H : Int) : Cur (w.setCell ⟨p, 2, none⟩ (.int .i64 H)) p a len cap := by
  obtain ⟨hp, c0, ⟨i, hi, c1⟩, ⟨h, c2⟩, hfz⟩ := hcur
  refine ⟨by simpa [World.setCell] using hp, ?_, ⟨i, hi, ?_⟩, ⟨H, World.cell?_setCell_same _ _ _ c2⟩, fun j => (World.frozen?_setCell _ _ _ _).trans (hfz j)⟩
  · rw [World.cell?_setCell_other _ _ _ _ (by simp)]; exact c0
  · rw [World.cell?_setCell_other _ _ _ _ (by simp)]; exact c1
theorem Cur.step {w : World} {p : Nat} {a : Option Addr} {len cap : Nat} (hcur : Cur w p a len cap) (i' : Nat) (h' : i' ≤ len) : Cur (w.setCell ⟨p, 1, none⟩ (.int .i64 i')) p a len cap := by
  obtain ⟨hp, c0, ⟨i, hi, c1⟩, ⟨h, c2⟩, hfz⟩ := hcur
  refine ⟨by simpa [World.setCell] using hp, ?_, ⟨i', h', World.cell?_setCell_same _ _ _ c1⟩, ⟨h, ?_⟩, fun j => (World.frozen?_setCell _ _ _ _).trans (hfz j)⟩
  · rw [World.cell?_setCell_other _ _ _ _ (by simp)]; exact c0
  · rw [World.cell?_setCell_other _ _ _ _ (by simp)]; exact c2
theorem Cur.drewN {w : World} {p : Nat} {a : Option Addr} {len cap : Nat} (hcur : Cur w p a len cap) (n : Nat) : Cur (w.drewN n) p a len cap := hcur
theorem Cur.only {w w' : World} {p q : Nat} {a : Option Addr} {len cap : Nat} (hcur : Cur w p a len cap) (h : Only q w w') (hq : p ≠ q) : Cur w' p a len cap := by
  obtain ⟨hp, c0, ⟨i, hi, c1⟩, ⟨x, c2⟩, hfz⟩ := hcur
  exact ⟨Nat.lt_of_lt_of_le hp h.size, (h.cell (q := ⟨p, 0, none⟩) hp hq).trans c0, ⟨i, hi, (h.cell (q := ⟨p, 1, none⟩) hp hq).trans c1⟩, ⟨x, (h.cell (q := ⟨p, 2, none⟩) hp hq).trans c2⟩, fun j => (h.frozen (q := ⟨p, j, none⟩) hp hq).trans (hfz j)⟩

set_option maxRecDepth 100000 in
set_option maxHeartbeats 400000 in
theorem l1Byte_any (p : Nat) (a : Option Addr) (len cap : Nat) (w : World) {B : Nat} (hc : Code w a len B) (hB : B ≤ p) (hcur : Cur w p a len cap) :
    Calls Tryz.prog 104 #[.pointer (some ⟨p, 0, none⟩)] w fun e w' => ∃ x : Int, 0 ≤ x ∧ x ≤ 255 ∧ e = .returned (.int .i64 x) ∧ Only p w w' ∧ Cur w' p a len cap := by
  obtain ⟨hl, _, hc⟩ := hc
  have HC := hcur
  obtain ⟨hp, c0, ⟨i, hi, c1⟩, ⟨h, c2⟩, hfz⟩ := hcur
  have f1 := hfz 1
  have f2 := hfz 2
  clear hfz
  by_cases hlt : i < len
  · rcases hc with hc | ⟨b, off, zs, rfl, hb, hcell⟩
    · omega
    · obtain ⟨h1, h2, h3⟩ := hcell i hlt
      have h1' : ∀ v, (w.setCell ⟨p, 2, none⟩ v).cell? ⟨b, off + i, none⟩ = some (.int .u8 (zs i)) := fun v => by
        rw [World.cell?_setCell_other _ _ _ _ (by intro e; have := congrArg Addr.block e; simp at this; omega)]; exact h1
      clear hcell
      go_enter Tryz.func104, Tryz.ntmps104
      go_wp2
      generalize wrap64 (wrap64 (h * 6364136223846793005) + 1442695040888963407) = H
      go_quiet (fail)
      go_wp2
      go_quiet (fail)
      go_wp2
      go_quiet (fail)
      go_wp2
      go_ret
      exact ⟨_, (and255 _).1, (and255 _).2, rfl, (((Only.refl p w).setCell (.inl rfl) _).drewN _).setCell (.inl rfl) _, ((HC.put _).drewN _).step (i + 1) hlt⟩
  · go_enter Tryz.func104, Tryz.ntmps104
    go_wp2
    generalize wrap64 (wrap64 (h * 6364136223846793005) + 1442695040888963407) = H
    go_quiet (fail)
    go_wp2
    go_quiet (fail)
    go_wp2
    go_ret
    exact ⟨_, (and255 _).1, (and255 _).2, rfl, (((Only.refl p w).setCell (.inl rfl) _).drewN _).drewN _, ((HC.put _).drewN _).drewN _⟩
end Go.Proofs.YtodfdfncdoliiadGreat
namespace Go.Proofs.YtodfdfncdoliiadGreat
open Go.ChangeShapes Go.WideShapes Go.ChangeAt Go.RowKit
set_option maxRecDepth 100000

structure Pc where
  (id ow si zo st po to tr pl mi ma : Int)
  (de be : Bool)
/-- each of its numbers is one that an int can be -/
def Pc.wf (p : Pc) : Prop := ∀ x ∈ [p.id, p.ow, p.si, p.zo, p.st, p.po, p.to, p.tr, p.pl, p.mi, p.ma], (Lit.int .i64 x).wf = true

theorem list13 {α : Type} : ∀ {l : List α}, l.length = 13 → ∃ a b c d e f g h i j k m n, l = [a, b, c, d, e, f, g, h, i, j, k, m, n]
  | [a, b, c, d, e, f, g, h, i, j, k, m, n], _ => ⟨a, b, c, d, e, f, g, h, i, j, k, m, n, rfl⟩
section
variable {H : Type} {enc : TypeId × Value → H} {P : Program} {w : World} {base : Nat} {spare : TypeId → Bool} {held : Bool}
/-- a struct whose fields are of one cell each: its cells, and each field's reading -/
theorem open_struct1 {r : Reach} {b0 : Nat} {t : TypeId} {fs : Array Field} {v : Value} {d : DataW H} {p : List MemPlace} (hs : P.underlying t = some (.struct fs)) (hone : Deep.oneCellFields P fs = true) (hC : P.cellsOf t = fs.size)
    (hv : Value.okWide P w r b0 t v) (h : DataW.Trod enc P w base spare held t v d p) :
    ∃ cs : List Value, v = .agg cs.toArray ∧ cs.length = fs.size ∧ ∀ (i : Nat) (f : Field) (c : Value), fs[i]? = some f → cs[i]? = some c → ∃ n y, DataW.trod enc P w base spare held n f.type [c] = some y := by
  obtain ⟨cs, rfl, hsz⟩ := okWide_struct hs hv
  obtain ⟨fuel, hf⟩ := h
  obtain ⟨xs, n, _, _, _, hlen, hx⟩ := DataW.trod_struct hs hf
  refine ⟨cs.toList, by simp, by simp [hsz, hC], fun i f c hfi hci => ?_⟩
  obtain ⟨o, k⟩ := Deep.hone_of hone i f hfi
  have h1 := hx i f hfi
  have hi : i < xs.length := by rw [hlen]; exact (Array.getElem?_eq_some_iff.1 hfi).1
  rw [List.getElem?_eq_getElem hi, o, k] at h1
  have hc : ((Value.agg cs).cells.toList.drop i).take 1 = [c] := by
    have hlt := (List.getElem?_eq_some_iff.1 hci)
    obtain ⟨hl, rfl⟩ := hlt
    show (cs.toList.drop i).take 1 = _
    rw [List.drop_eq_getElem_cons hl]; rfl
  rw [hc] at h1
  exact ⟨n, _, h1⟩
end
end Go.Proofs.YtodfdfncdoliiadGreat
namespace Go.Proofs.YtodfdfncdoliiadGreat
open Go.ChangeShapes Go.WideShapes Go.ChangeAt Go.RowKit
set_option maxRecDepth 100000

/-- the slice at 'a', of n elements of kind k, reads f, in block b -/
def Rd (k : IntKind) (w : World) (b : Nat) (a : Option Addr) (n : Nat) (f : Nat → Int) : Prop :=
  n = 0 ∨ ∃ off : Nat, a = some ⟨b, off, none⟩ ∧ ∀ i, i < n → w.cell? ⟨b, off + i, none⟩ = some (.int k (f i))
def Free (w : World) (b : Nat) : Prop := ∀ j, w.frozen? ⟨b, j, none⟩ = false
/-- a slice of the call's own: its block lies from B on, and is there -/
def Own (k : IntKind) (w : World) (B b : Nat) (a : Option Addr) (n : Nat) (f : Nat → Int) : Prop := B ≤ b ∧ b < w.heap.size ∧ Rd k w b a n f ∧ Free w b

theorem Rd.same {k : IntKind} {w w' : World} {b : Nat} {a : Option Addr} {n : Nat} {f : Nat → Int} (h : Rd k w b a n f) (e : w'.heap[b]? = w.heap[b]?) : Rd k w' b a n f := by
  rcases h with h | ⟨off, ha, hc⟩
  · exact .inl h
  · exact .inr ⟨off, ha, fun i hi => (World.cell?_of_block (w := w) (a := ⟨b, off + i, none⟩) e).trans (hc i hi)⟩
theorem Rd.congr {k : IntKind} {w : World} {b : Nat} {a : Option Addr} {n : Nat} {f g : Nat → Int} (h : Rd k w b a n f) (e : ∀ i, i < n → f i = g i) : Rd k w b a n g := by
  rcases h with h | ⟨off, ha, hc⟩
  · exact .inl h
  · exact .inr ⟨off, ha, fun i hi => by rw [← e i hi]; exact hc i hi⟩
theorem Rd.lt {k : IntKind} {w : World} {b : Nat} {a : Option Addr} {n : Nat} {f : Nat → Int} (h : Rd k w b a n f) (hn : 0 < n) : b < w.heap.size := by
  rcases h with h | ⟨off, ha, hc⟩
  · omega
  · exact World.block_lt_of_cell? w _ (hc 0 hn)
theorem Rd.below {k : IntKind} {w w' : World} {b B : Nat} {a : Option Addr} {n : Nat} {f : Nat → Int} (h : Rd k w b a n f) (hb : Below B w w') (hB : b < B) : Rd k w' b a n f := h.same (hb.block b hB)
/-- what was there before stays, where at most new blocks came -/
theorem Rd.grew {k : IntKind} {w w' : World} {b : Nat} {a : Option Addr} {n : Nat} {f : Nat → Int} (h : Rd k w b a n f) (hb : Below w.heap.size w w') : Rd k w' b a n f := by
  by_cases hn : 0 < n
  · exact h.below hb (h.lt hn)
  · exact .inl (by omega)
theorem Free.same {w w' : World} {b : Nat} (h : Free w b) (e : w'.heap[b]? = w.heap[b]?) : Free w' b := fun j => (World.frozen?_of_block (w := w) (a := ⟨b, j, none⟩) e).trans (h j)
theorem Own.same {k : IntKind} {w w' : World} {B b : Nat} {a : Option Addr} {n : Nat} {f : Nat → Int} (h : Own k w B b a n f) (e : w'.heap[b]? = w.heap[b]?) (hs : w.heap.size ≤ w'.heap.size) : Own k w' B b a n f :=
  ⟨h.1, Nat.lt_of_lt_of_le h.2.1 hs, h.2.2.1.same e, h.2.2.2.same e⟩
theorem Own.grew {k : IntKind} {w w' : World} {B b : Nat} {a : Option Addr} {n : Nat} {f : Nat → Int} (h : Own k w B b a n f) (hb : Below w.heap.size w w') : Own k w' B b a n f := h.same (hb.block b h.2.1) hb.size
theorem Own.only {k : IntKind} {w w' : World} {B b p : Nat} {a : Option Addr} {n : Nat} {f : Nat → Int} (h : Own k w B b a n f) (hb : Only p w w') (hp : b ≠ p) : Own k w' B b a n f := h.same (hb.block b h.2.1 hp) hb.size
theorem Own.rd {k : IntKind} {w : World} {B b : Nat} {a : Option Addr} {n : Nat} {f : Nat → Int} (h : Own k w B b a n f) : Rd k w b a n f := h.2.2.1
theorem Rd.only {k : IntKind} {w w' : World} {b p : Nat} {a : Option Addr} {n : Nat} {f : Nat → Int} (h : Rd k w b a n f) (hb : Only p w w') (hp : b ≠ p) : Rd k w' b a n f := by
  by_cases hn : 0 < n
  · exact h.same (hb.block b (h.lt hn) hp)
  · exact .inl (by omega)
theorem below_app {B C : Nat} {a b c : World} (h : Below B a b) (k : Below C b c) (hB : B ≤ C) : Below B a c := h.trans (k.mono hB)

/-- the cells of n numbers -/
def vals (k : IntKind) (n : Nat) (f : Nat → Int) : List Value := (List.range n).map (fun i => .int k (f i))
def cat (n : Nat) (f g : Nat → Int) : Nat → Int := fun i => if i < n then f i else g (i - n)
def spl (f : Nat → Int) (off m : Nat) (g : Nat → Int) : Nat → Int := fun i => if off ≤ i ∧ i < off + m then g (i - off) else f i
theorem vals_len (k : IntKind) (n : Nat) (f : Nat → Int) : (vals k n f).length = n := by simp [vals]
theorem vals_get (k : IntKind) (n : Nat) (f : Nat → Int) (j : Nat) : (vals k n f)[j]? = if j < n then some (.int k (f j)) else none := by
  unfold vals
  rw [List.getElem?_map]
  by_cases h : j < n
  · simp [h]
  · simp [h]
theorem vals_one (k : IntKind) (n : Nat) (f : Nat → Int) : ∀ u ∈ vals k n f, u.oneCell' = true := by
  intro u hu
  simp only [vals, List.mem_map] at hu
  obtain ⟨i, _, rfl⟩ := hu
  rfl
theorem vals_ext {k : IntKind} {n : Nat} {L : List Value} {f : Nat → Int} (hl : L.length = n) (h : ∀ j, j < n → L[j]? = some (.int k (f j))) : L = vals k n f := by
  apply List.ext_getElem?
  intro j
  rw [vals_get]
  by_cases hj : j < n
  · rw [if_pos hj]; exact h j hj
  · rw [if_neg hj]; exact List.getElem?_eq_none (by omega)
theorem vals_congr {k : IntKind} {n : Nat} {f g : Nat → Int} (h : ∀ i, i < n → f i = g i) : vals k n f = vals k n g :=
  vals_ext (vals_len _ _ _) (fun j hj => by rw [vals_get, if_pos hj, h j hj])
theorem vals_cat (k : IntKind) (n m : Nat) (f g : Nat → Int) : vals k n f ++ vals k m g = vals k (n + m) (cat n f g) := by
  refine vals_ext (by simp [vals_len]) (fun j hj => ?_)
  unfold cat
  by_cases h : j < n
  · rw [List.getElem?_append_left (by rw [vals_len]; exact h), vals_get, if_pos h, if_pos h]
  · rw [List.getElem?_append_right (by rw [vals_len]; omega), vals_len, vals_get, if_pos (by omega), if_neg h]
theorem vals_spl (k : IntKind) (n m off : Nat) (f g : Nat → Int) (h : off + m ≤ n) : splice (vals k n f) off (vals k m g) = vals k n (spl f off m g) := by
  refine vals_ext (by rw [length_splice _ _ _ (by rw [vals_len, vals_len]; exact h), vals_len]) (fun j hj => ?_)
  unfold splice spl
  by_cases h1 : j < off
  · rw [List.getElem?_append_left (by rw [List.length_take, vals_len]; omega), List.getElem?_take, if_pos h1, vals_get, if_pos hj, if_neg (by omega)]
  · have el : ((vals k n f).take off).length = off := by rw [List.length_take, vals_len]; omega
    rw [List.getElem?_append_right (by rw [el]; omega), el]
    by_cases h2 : j < off + m
    · rw [List.getElem?_append_left (by rw [vals_len]; omega), vals_get, if_pos (by omega), if_pos (by omega)]
    · rw [List.getElem?_append_right (by rw [vals_len]; omega), List.getElem?_drop, vals_len, vals_get, if_pos (by omega), if_neg (by omega)]
      rw [show off + m + (j - off - m) = j by omega]
/-- a row that is known whole -/
theorem rd_row {k : IntKind} {w : World} {g : Nat} {t : TypeId} {n : Nat} {f : Nat → Int} (h : w.heap[g]? = some (.cells (vals k n f).toArray t (0, 0))) : Rd k w g (some ⟨g, 0, none⟩) n f := by
  refine .inr ⟨0, rfl, fun i hi => ?_⟩
  rw [Nat.zero_add, cell_of_row w g i _ t (0, 0) h]
  simp only [List.getElem?_toArray]
  rw [vals_get, if_pos hi]
theorem free_row {w : World} {g : Nat} {t : TypeId} {cs : Array Value} (h : w.heap[g]? = some (.cells cs t (0, 0))) : Free w g := fun j => frozen_of_row w g j cs t h
theorem lt_row {w : World} {g : Nat} {o : Obj} (h : w.heap[g]? = some o) : g < w.heap.size := (Array.getElem?_eq_some_iff.1 h).1
theorem own_row {k : IntKind} {w : World} {B g : Nat} {t : TypeId} {n : Nat} {f : Nat → Int} (h : w.heap[g]? = some (.cells (vals k n f).toArray t (0, 0))) (hB : B ≤ g) : Own k w B g (some ⟨g, 0, none⟩) n f :=
  ⟨hB, lt_row h, rd_row h, free_row h⟩
/-- out of the library's word for what the call owns -/
theorem own_of {k : IntKind} {w : World} {B : Nat} {e : TypeId} {v : Value} {n : Nat} {f : Nat → Int} (h : w.ownsRow B e 1 v n (vals k n f)) (hv : v ≠ .slice none 0 0) : ∃ g cap, v = .slice (some ⟨g, 0, none⟩) n cap ∧ Own k w B g (some ⟨g, 0, none⟩) n f := by
  rcases h.2 with ⟨h', _⟩ | ⟨g, cap, cur, rfl, hB, hg, hn, hm, hcs, ht⟩
  · exact absurd h' hv
  · refine ⟨g, cap, rfl, hB, lt_row hg, .inr ⟨0, rfl, fun i hi => ?_⟩, free_row hg⟩
    have := h.cellAt (g := g) i (by omega)
    rw [Nat.zero_add, this, vals_get, if_pos hi]
theorem own_of_cap {k : IntKind} {w : World} {B : Nat} {e : TypeId} {v : Value} {n : Nat} {f : Nat → Int} (h : w.ownsRow B e 1 v n (vals k n f)) (hv : v ≠ .slice none 0 0) : ∃ g cap, v = .slice (some ⟨g, 0, none⟩) n cap ∧ n ≤ cap ∧ Own k w B g (some ⟨g, 0, none⟩) n f := by
  obtain ⟨g, cap, rfl, ho⟩ := own_of h hv
  refine ⟨g, cap, rfl, ?_, ho⟩
  rcases h.2 with ⟨h', _⟩ | ⟨g', cap', cur, h', _, _, hn, _⟩
  · exact absurd h' hv
  · simp only [Value.slice.injEq, Option.some.injEq, Addr.mk.injEq, and_true, true_and] at h'
    obtain ⟨_, rfl⟩ := h'
    exact hn
theorem vals_one_snoc' (k : IntKind) (n : Nat) (f : Nat → Int) : vals k (n + 1) f = vals k n f ++ [.int k (f n)] := by
  symm
  refine vals_ext (by simp [vals_len]) (fun j hj => ?_)
  by_cases h : j < n
  · rw [List.getElem?_append_left (by rw [vals_len]; exact h), vals_get, if_pos h]
  · rw [List.getElem?_append_right (by rw [vals_len]; omega), vals_len, show j - n = 0 by omega]
    obtain rfl : j = n := by omega
    rfl
/-- up to place k as f has it, from there on as g has it -/
def til (k : Nat) (f g : Nat → Int) : Nat → Int := fun i => if i < k then f i else g i
theorem til_zero (f g : Nat → Int) : til 0 f g = g := by funext i; simp [til]
theorem til_step (k : Nat) (f g : Nat → Int) : (fun i => if i = k then f k else til k f g i) = til (k + 1) f g := by
  funext i
  unfold til
  by_cases h : i = k
  · subst h; rw [if_pos rfl, if_pos (by omega)]
  · rw [if_neg h]
    by_cases h2 : i < k
    · rw [if_pos h2, if_pos (by omega)]
    · rw [if_neg h2, if_neg (by omega)]
theorem til_all {n k : Nat} (f g : Nat → Int) (h : n ≤ k) : ∀ i, i < n → til k f g i = f i := fun i hi => by unfold til; rw [if_pos (by omega)]
theorem Own.congr {k : IntKind} {w : World} {B b : Nat} {a : Option Addr} {n : Nat} {f g : Nat → Int} (h : Own k w B b a n f) (e : ∀ i, i < n → f i = g i) : Own k w B b a n g := ⟨h.1, h.2.1, h.2.2.1.congr e, h.2.2.2⟩
theorem Own.put {k : IntKind} {w : World} {B b off : Nat} {n : Nat} {f : Nat → Int} (h : Own k w B b (some ⟨b, off, none⟩) n f) (j : Nat) (x : Int) : Own k (w.setCell ⟨b, off + j, none⟩ (.int k x)) B b (some ⟨b, off, none⟩) n (fun i => if i = j then x else f i) := by
  obtain ⟨h1, h2, h3, h4⟩ := h
  refine ⟨h1, by simpa [World.setCell] using h2, ?_, fun i => (World.frozen?_setCell _ _ _ _).trans (h4 i)⟩
  rcases h3 with h3 | ⟨o, e, hc⟩
  · exact .inl h3
  · simp only [Option.some.injEq, Addr.mk.injEq, and_true, true_and] at e
    subst e
    refine .inr ⟨off, rfl, fun i hi => ?_⟩
    show _ = some (Value.int k (if i = j then x else f i))
    by_cases hj : i = j
    · subst hj; rw [if_pos rfl]; exact World.cell?_setCell_same _ _ _ (hc i hi)
    · rw [if_neg hj, World.cell?_setCell_other _ _ _ _ (by simp)]; exact hc i hi
theorem Own.cell {k : IntKind} {w : World} {B b off : Nat} {n : Nat} {f : Nat → Int} (h : Own k w B b (some ⟨b, off, none⟩) n f) (j : Nat) (hj : j < n) : w.cell? ⟨b, off + j, none⟩ = some (.int k (f j)) := by
  rcases h.2.2.1 with h3 | ⟨o, e, hc⟩
  · omega
  · simp only [Option.some.injEq, Addr.mk.injEq, and_true, true_and] at e
    subst e
    exact hc j hj
theorem made_vals (k : IntKind) (n : Nat) : (madeCells #[Value.int k 0] n).toList = vals k n (fun _ => 0) := by
  rw [toList_madeCells_one]
  exact vals_ext (by simp) (fun j hj => by simp [hj])
/-- what a slice reads, as a source of a copy or an append -/
theorem Rd.src {k : IntKind} {w : World} {b : Nat} {a : Option Addr} {n : Nat} {f : Nat → Int} (h : Rd k w b a n f) (hn : 0 < n) : ∃ ad, a = some ad ∧ ∀ j u, (vals k n f)[j]? = some u → w.cell? (ad.add j) = some u := by
  rcases h with h | ⟨off, rfl, hc⟩
  · omega
  · refine ⟨_, rfl, fun j u hu => ?_⟩
    rw [vals_get] at hu
    by_cases hj : j < n
    · rw [if_pos hj] at hu
      have e : (⟨b, off, none⟩ : Addr).add j = ⟨b, off + j, none⟩ := by unfold Addr.add; split <;> simp_all
      rw [e, hc j hj]; exact hu
    · rw [if_neg hj] at hu; cases hu
theorem Tryz.infoU8 : (Tryz.prog.info? 5).map (fun i => (i.zero, i.size, i.bytes)) = some (some (.int .u8 0), 1, 1) := by kernel_rfl
theorem Tryz.infoInt : (Tryz.prog.info? 3).map (fun i => (i.zero, i.size, i.bytes)) = some (some (.int .i64 0), 1, 8) := by kernel_rfl
end Go.Proofs.YtodfdfncdoliiadGreat
namespace Go.Proofs.YtodfdfncdoliiadGreat
open Go.ChangeShapes Go.WideShapes Go.ChangeAt Go.RowKit
set_option maxRecDepth 100000

/-- block b holds a piece -/
def BoxP (w : World) (b t : Nat) (p : Pc) : Prop := w.heap[b]? = some (.cells #[.int .i64 p.id, .int .i64 p.ow, .int .i64 p.si, .int .i64 p.zo, .int .i64 p.st, .int .i64 p.po, .int .i64 p.to, .int .i64 p.tr, .int .i64 p.pl, .int .i64 p.mi, .int .i64 p.ma, .bool p.de, .bool p.be] t (0, 0))
theorem box_new (w : World) (t : Nat) (p : Pc) : BoxP (w.alloc (.cells #[.int .i64 p.id, .int .i64 p.ow, .int .i64 p.si, .int .i64 p.zo, .int .i64 p.st, .int .i64 p.po, .int .i64 p.to, .int .i64 p.tr, .int .i64 p.pl, .int .i64 p.mi, .int .i64 p.ma, .bool p.de, .bool p.be] t)) w.heap.size t p := heap_alloc_new w _
theorem BoxP.lt {w : World} {b t : Nat} {p : Pc} (h : BoxP w b t p) : b < w.heap.size := (Array.getElem?_eq_some_iff.1 h).1
theorem BoxP.grew {w w' : World} {b t : Nat} {p : Pc} (h : BoxP w b t p) (hb : Below w.heap.size w w') : BoxP w' b t p := (hb.block b h.lt).trans h
theorem BoxP.alloc {w : World} {b t : Nat} {p : Pc} (h : BoxP w b t p) (o : Obj) : BoxP (w.alloc o) b t p := (Below.heap_alloc w o b h.lt).trans h
/-- its cells, one by one -/
def Cells13 (w : World) (b : Nat) (p : Pc) : Prop :=
  w.cell? ⟨b, 0, none⟩ = some (.int .i64 p.id) ∧ w.cell? ⟨b, 1, none⟩ = some (.int .i64 p.ow) ∧ w.cell? ⟨b, 2, none⟩ = some (.int .i64 p.si) ∧ w.cell? ⟨b, 3, none⟩ = some (.int .i64 p.zo) ∧ w.cell? ⟨b, 4, none⟩ = some (.int .i64 p.st) ∧ w.cell? ⟨b, 5, none⟩ = some (.int .i64 p.po) ∧ w.cell? ⟨b, 6, none⟩ = some (.int .i64 p.to) ∧ w.cell? ⟨b, 7, none⟩ = some (.int .i64 p.tr) ∧ w.cell? ⟨b, 8, none⟩ = some (.int .i64 p.pl) ∧ w.cell? ⟨b, 9, none⟩ = some (.int .i64 p.mi) ∧ w.cell? ⟨b, 10, none⟩ = some (.int .i64 p.ma) ∧ w.cell? ⟨b, 11, none⟩ = some (.bool p.de) ∧ w.cell? ⟨b, 12, none⟩ = some (.bool p.be)
theorem BoxP.cells {w : World} {b t : Nat} {p : Pc} (h : BoxP w b t p) : Cells13 w b p :=
  ⟨cell_of_row w b 0 _ t (0, 0) h, cell_of_row w b 1 _ t (0, 0) h, cell_of_row w b 2 _ t (0, 0) h, cell_of_row w b 3 _ t (0, 0) h, cell_of_row w b 4 _ t (0, 0) h, cell_of_row w b 5 _ t (0, 0) h, cell_of_row w b 6 _ t (0, 0) h, cell_of_row w b 7 _ t (0, 0) h, cell_of_row w b 8 _ t (0, 0) h, cell_of_row w b 9 _ t (0, 0) h, cell_of_row w b 10 _ t (0, 0) h, cell_of_row w b 11 _ t (0, 0) h, cell_of_row w b 12 _ t (0, 0) h⟩
theorem BoxP.cells13 {w w' : World} {b t : Nat} {p : Pc} (h : BoxP w b t p) (hb : Below w.heap.size w w') : Cells13 w' b p := (h.grew hb).cells
/-- whether x lies from a to b -/
def ib (x a b : Int) : Bool := decide (a ≤ x) && decide (x ≤ b)
theorem ret_bool' {a b : Bool} (h : a = b) : Ending.returned (.bool a) = .returned (.bool b) := by rw [h]
theorem l1In_any (x a b : Int) (w : World) : Calls Tryz.prog 63 #[.int .i64 x, .int .i64 a, .int .i64 b] w fun e w' => e = .returned (.bool (ib x a b)) ∧ w' = w := by
  go_enter Tryz.func63, Tryz.ntmps63
  go_wp2
  all_goals go_ret
  all_goals refine ⟨ret_bool' ?_, rfl⟩
  all_goals (unfold ib; simp_all <;> omega)
def okA (p : Pc) : Bool := ib p.id 1 99 && ib p.ow 0 2 && ib p.si 0 2 && ib p.zo 1 4 && ib p.st 0 9999 && ib p.po 0 999 && ib p.to 0 999 && ib p.tr 0 63
def okB (p : Pc) : Bool := ib p.pl 0 2147483647 && ib p.mi 0 2147483647 && ib p.ma 0 2147483647
def okC (p : Pc) : Bool := decide (p.zo = 2) || (decide (p.si = p.ow) && decide (p.pl = 0) && decide (p.mi = 0) && decide (p.ma = 0) && !p.de && !p.be)
/-- whether a piece is as chapter 4 wants it -/
def okP (p : Pc) : Bool := okA p && okB p && okC p
end Go.Proofs.YtodfdfncdoliiadGreat
namespace Go.Proofs.YtodfdfncdoliiadGreat
open Go.ChangeShapes Go.WideShapes Go.ChangeAt Go.RowKit
set_option maxRecDepth 100000
theorem below_drewN {B : Nat} {a w : World} (h : Below B a w) (n : Nat) : Below B a (w.drewN n) := ⟨h.os, h.tape, h.output, h.size, h.block⟩

theorem below_only {B p : Nat} {w u u' : World} (hB : Below B w u) (hs : B ≤ p) (hu : B ≤ u.heap.size) (ho : Only p u u') : Below B w u' := hB.trans (ho.below hs hu)
theorem u8_wf {x : Int} (h : (Lit.int .u8 x).wf = true) : 0 ≤ x ∧ x ≤ 255 := bounds_u8 h
theorem i64_wf {x : Int} (h : (Lit.int .i64 x).wf = true) : -9223372036854775808 ≤ x ∧ x ≤ 9223372036854775807 := bounds_i64 h
/-- the row that came in, in the words of the frame's 'IsRow' -/
theorem rd_of_row {k : IntKind} {w : World} {a : Option Addr} {len cap : Nat} {zs : List Int}
    (h : (a = none ∧ len = 0 ∧ cap = 0 ∧ zs = []) ∨ ∃ x, a = some x ∧ len ≤ cap ∧ cap ≤ maxLen ∧ zs.length = cap ∧ (∀ i, i < zs.length → w.cell? (x.add i) = some (.int k (zs.getD i 0))) ∧ ∀ n ∈ zs, (Lit.int k n).wf = true) :
    len ≤ 9223372036854775807 ∧ ∃ b, ∃ f : Nat → Int, Rd k w b a len f ∧ ∀ i, i < len → (Lit.int k (f i)).wf = true := by
  rcases h with ⟨rfl, rfl, rfl, rfl⟩ | ⟨x, rfl, hl, hm, hz, hc, hw⟩
  · exact ⟨by omega, 0, fun _ => 0, .inl rfl, fun i hi => by omega⟩
  · unfold maxLen at hm
    refine ⟨by omega, ?_⟩
    by_cases h0 : len = 0
    · exact ⟨0, fun _ => 0, .inl h0, fun i hi => by omega⟩
    · obtain ⟨b, off, rfl, hcell⟩ := ints_at hc (by omega)
      refine ⟨b, fun i => zs.getD i 0, .inr ⟨off, rfl, fun i hi => hcell i (by omega)⟩, fun i hi => ?_⟩
      have hi' : i < zs.length := by omega
      have e : zs.getD i 0 = zs[i] := by simp [hi']
      show (Lit.int k (zs.getD i 0)).wf = true
      rw [e]
      exact hw _ (List.getElem_mem hi')

def mkByteS (k0 : Int) : Nat → Int := fun j => IntKind.u8.wrap (k0 + j)
def mkIntS (k0 : Int) : Nat → Int := fun j => k0 + j
end Go.Proofs.YtodfdfncdoliiadGreat
