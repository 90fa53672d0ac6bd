/-
  A region that draws its order, cut off from what follows: its orders meet again. 'vs': which slots hold what behind it. Contracts of the draws: the cursor over a code's bytes (l1New, l1Byte): what each answers lies within its bounds, and of memory that was there nothing turns but the cursor's own block. Words for a piece: its thirteen parts, and how a struct of a law's own type is opened. Own work.
-/
import Derived.Test.YtodfdfncdoliiadRows
import Derived.WalkKit
import Derived.Deep.RegionWith
import Derived.Shelf.RegionOpenPlain
import Derived.ProofKit
import Derived.OpenShut
import Derived.WalkLawsBesides
import Derived.WalkSpells
import Derived.Deep.QuietTactic
import Derived.BigQuiet
import Derived.Lib.SmallJoins
namespace Go.Proofs.Ytodfdfncdoliiad
def puts (a : Act) (vs : List (Nat × Value)) : Act := vs.foldl (fun a x => a.put (some x.1) x.2) a
theorem wp_cutP {P : Program} {c : Go.Code} {a : Act} {w : World} {K : Act → World → Prop} {Q : Exit → Act → World → Prop} (vs : Nat → Nat → List (Nat × Value)) (F : Nat → Nat → World → Prop)
    (h : c.wp P (Exit.then (fun a' u => ∃ q k, a' = puts a (vs q k) ∧ F q k u) Q) a w) (hk : ∀ q k u, F q k u → K (puts a (vs q k)) u) : c.wp P (Exit.then K Q) a w := by
  refine wp_mono h fun e a' u hq => ?_
  cases e
  case normal => obtain ⟨q, k, rfl, hf⟩ := hq; exact hk q k u hf
  all_goals exact hq
end Go.Proofs.Ytodfdfncdoliiad
namespace Go.Proofs.Ytodfdfncdoliiad
open Go.ChangeShapes Go.WideShapes Go.ChangeAt Go.RowKit
set_option maxRecDepth 100000

/-- of what was there nothing but block p has turned -/
structure Only (p : Nat) (w w' : World) : Prop where
  os : w'.os = w.os
  tape : w'.tape = w.tape
  output : w'.output = w.output
  size : w.heap.size ≤ w'.heap.size
  block : ∀ k, k < w.heap.size → k ≠ p → w'.heap[k]? = w.heap[k]?
theorem Only.refl (p : Nat) (w : World) : Only p w w := ⟨rfl, rfl, rfl, Nat.le_refl _, fun _ _ _ => rfl⟩
theorem Only.trans {p : Nat} {a b c : World} (h : Only p a b) (k : Only p b c) : Only p a c :=
  ⟨k.os.trans h.os, k.tape.trans h.tape, k.output.trans h.output, Nat.le_trans h.size k.size, fun i hi hp => (k.block i (Nat.lt_of_lt_of_le hi h.size) hp).trans (h.block i hi hp)⟩
theorem Only.drew {p : Nat} {a w : World} (h : Only p a w) : Only p a w.drew := ⟨h.os, h.tape, h.output, h.size, h.block⟩
theorem Only.drewN {p : Nat} {a w : World} (h : Only p a w) (n : Nat) : Only p a (w.drewN n) := ⟨h.os, h.tape, h.output, h.size, h.block⟩
theorem Only.alloc {p : Nat} {a w : World} (h : Only p a w) (o : Obj) : Only p a (w.alloc o) :=
  h.trans ⟨rfl, rfl, rfl, by show w.heap.size ≤ (w.heap.push _).size; simp, fun k hk _ => Below.heap_alloc w o k hk⟩
theorem Only.setCell {p : Nat} {a w : World} (h : Only p a w) {q : Addr} (hq : q.block = p ∨ a.heap.size ≤ q.block) (u : Value) : Only p a (w.setCell q u) := by
  refine ⟨h.os, h.tape, h.output, by simpa [World.setCell] using h.size, fun k hk hp => ?_⟩
  rw [Below.heap_setCell w q u k (by rcases hq with e | e <;> omega)]
  exact h.block k hk hp
theorem Only.cell {p : Nat} {w w' : World} (h : Only p w w') {q : Addr} (hq : q.block < w.heap.size) (hp : q.block ≠ p) : w'.cell? q = w.cell? q := World.cell?_of_block (w := w) (h.block q.block hq hp)
theorem Only.frozen {p : Nat} {w w' : World} (h : Only p w w') {q : Addr} (hq : q.block < w.heap.size) (hp : q.block ≠ p) : w'.frozen? q = w.frozen? q := World.frozen?_of_block (w := w) (h.block q.block hq hp)
theorem Only.below {p B : Nat} {w w' : World} (h : Only p w w') (hB : B ≤ p) (hs : B ≤ w.heap.size) : Below B w w' :=
  ⟨h.os, h.tape, h.output, h.size, fun k hk => h.block k (by omega) (by omega)⟩

/-- a code's bytes can be read: 'len' of them at 'a', below block B -/
def Code (w : World) (a : Option Addr) (len B : Nat) : Prop :=
  len ≤ 9223372036854775807 ∧ B ≤ w.heap.size ∧ (len = 0 ∨ ∃ b off : Nat, ∃ zs : Nat → Int, a = some ⟨b, off, none⟩ ∧ b < B ∧ ∀ i, i < len → w.cell? ⟨b, off + i, none⟩ = some (.int .u8 (zs i)) ∧ 0 ≤ zs i ∧ zs i ≤ 255)
theorem Code.below {w w' : World} {a : Option Addr} {len B : Nat} (h : Code w a len B) (hb : Below B w w') : Code w' a len B := by
  obtain ⟨h1, h2, h3⟩ := h
  refine ⟨h1, Nat.le_trans h2 hb.size, ?_⟩
  rcases h3 with h3 | ⟨b, off, zs, ha, hB, hc⟩
  · exact .inl h3
  · exact .inr ⟨b, off, zs, ha, hB, fun i hi => by rw [hb.cell (p := ⟨b, off + i, none⟩) hB]; exact hc i hi⟩
/-- a cursor over them lies at block p -/
def Cur (w : World) (p : Nat) (a : Option Addr) (len cap : Nat) : Prop :=
  p < w.heap.size ∧ w.cell? ⟨p, 0, none⟩ = some (.slice a len cap) ∧ (∃ i : Nat, i ≤ len ∧ w.cell? ⟨p, 1, none⟩ = some (.int .i64 i)) ∧ (∃ h : Int, w.cell? ⟨p, 2, none⟩ = some (.int .i64 h)) ∧ ∀ j, w.frozen? ⟨p, j, none⟩ = false

theorem and255 (x : Int) : 0 ≤ bits .and .i64 x 255 ∧ bits .and .i64 x 255 ≤ 255 := by
  have h2 : (BitVec.ofInt 64 (255 : Int)).toNat = 255 := by decide
  have e : bits .and .i64 x 255 = IntKind.i64.wrap ((BitVec.ofInt 64 x &&& BitVec.ofInt 64 (255 : Int)).toNat : Int) := rfl
  have h3 : (BitVec.ofInt 64 x &&& BitVec.ofInt 64 (255 : Int)).toNat ≤ 255 := by
    rw [BitVec.toNat_and, h2]; exact Nat.and_le_right
  rw [e, IntWalk.i64_in _ (by omega)]
  omega

theorem ret_ptr {a b : Addr} (h : a = b) : Ending.returned (.pointer (some a)) = .returned (.pointer (some b)) := by rw [h]

set_option maxRecDepth 100000 in
set_option maxHeartbeats 400000 in
theorem l1New_any (a : Option Addr) (len cap : Nat) (w : World) {B : Nat} (hc : Code w a len B) :
    Calls Try.prog 11 #[.slice a len cap] w fun e w' => ∃ h : Int, e = .returned (.pointer (some ⟨w.heap.size, 0, none⟩)) ∧ w' = w.alloc (.cells #[.slice a len cap, .int .i64 0, .int .i64 h] 66) := by
  obtain ⟨hl, _, hc⟩ := hc
  go_enter Try.func11, Try.ntmps11
  go_wp2
  go_loop [3, 4] (fun t i => ∃ k : Nat, ∃ h : Int, k ≤ len ∧ i = .int .i64 k ∧ t = .int .i64 h) (fun _ i => len - (intOf i).toNat)
  case atStart => exact ⟨0, _, Nat.zero_le _, rfl, rfl⟩
  case round =>
    obtain ⟨k, h, hk, rfl, rfl⟩ := hrel
    by_cases hlt : k < len
    · rcases hc with hc | ⟨b, off, zs, rfl, hb, hcell⟩
      · omega
      · obtain ⟨h1, h2, h3⟩ := hcell k hlt
        by_cases h4 : (k : Int) < 4000
        · go_wp2
          go_round
          case rel => exact ⟨k + 1, _, by omega, by go_num, rfl⟩
          case measure => simp [intOf]; omega
        · go_wp2
          go_ret
          exact ⟨rfl, _, rfl⟩
    · go_wp2
      go_ret
      exact ⟨rfl, _, rfl⟩
theorem Cur.made (w : World) (a : Option Addr) (len cap : Nat) (h : Int) (t : Nat) : Cur (w.alloc (.cells #[.slice a len cap, .int .i64 0, .int .i64 h] t)) w.heap.size a len cap := by
  refine ⟨by show w.heap.size < (w.heap.push _).size; simp, by simp, ⟨0, Nat.zero_le _, by simp⟩, ⟨h, by simp⟩, fun j => ?_⟩
  rw [frozen?_alloc_cells]
  simp [World.frozen?]

theorem Cur.put {w : World} {p : Nat} {a : Option Addr} {len cap : Nat} (hcur : Cur w p a len cap) (H : Int) : Cur (w.setCell ⟨p, 2, none⟩ (.int .i64 H)) p a len cap := by
  obtain ⟨hp, c0, ⟨i, hi, c1⟩, ⟨h, c2⟩, hfz⟩ := hcur
  refine ⟨by simpa [World.setCell] using hp, ?_, ⟨i, hi, ?_⟩, ⟨H, World.cell?_setCell_same _ _ _ c2⟩, fun j => (World.frozen?_setCell _ _ _ _).trans (hfz j)⟩
  · rw [World.cell?_setCell_other _ _ _ _ (by simp)]; exact c0
  · rw [World.cell?_setCell_other _ _ _ _ (by simp)]; exact c1
theorem Cur.step {w : World} {p : Nat} {a : Option Addr} {len cap : Nat} (hcur : Cur w p a len cap) (i' : Nat) (h' : i' ≤ len) : Cur (w.setCell ⟨p, 1, none⟩ (.int .i64 i')) p a len cap := by
  obtain ⟨hp, c0, ⟨i, hi, c1⟩, ⟨h, c2⟩, hfz⟩ := hcur
  refine ⟨by simpa [World.setCell] using hp, ?_, ⟨i', h', World.cell?_setCell_same _ _ _ c1⟩, ⟨h, ?_⟩, fun j => (World.frozen?_setCell _ _ _ _).trans (hfz j)⟩
  · rw [World.cell?_setCell_other _ _ _ _ (by simp)]; exact c0
  · rw [World.cell?_setCell_other _ _ _ _ (by simp)]; exact c2
theorem Cur.drewN {w : World} {p : Nat} {a : Option Addr} {len cap : Nat} (hcur : Cur w p a len cap) (n : Nat) : Cur (w.drewN n) p a len cap := hcur
theorem Cur.only {w w' : World} {p q : Nat} {a : Option Addr} {len cap : Nat} (hcur : Cur w p a len cap) (h : Only q w w') (hq : p ≠ q) : Cur w' p a len cap := by
  obtain ⟨hp, c0, ⟨i, hi, c1⟩, ⟨x, c2⟩, hfz⟩ := hcur
  exact ⟨Nat.lt_of_lt_of_le hp h.size, (h.cell (q := ⟨p, 0, none⟩) hp hq).trans c0, ⟨i, hi, (h.cell (q := ⟨p, 1, none⟩) hp hq).trans c1⟩, ⟨x, (h.cell (q := ⟨p, 2, none⟩) hp hq).trans c2⟩, fun j => (h.frozen (q := ⟨p, j, none⟩) hp hq).trans (hfz j)⟩

set_option maxRecDepth 100000 in
set_option maxHeartbeats 400000 in
theorem l1Byte_any (p : Nat) (a : Option Addr) (len cap : Nat) (w : World) {B : Nat} (hc : Code w a len B) (hB : B ≤ p) (hcur : Cur w p a len cap) :
    Calls Try.prog 57 #[.pointer (some ⟨p, 0, none⟩)] w fun e w' => ∃ x : Int, 0 ≤ x ∧ x ≤ 255 ∧ e = .returned (.int .i64 x) ∧ Only p w w' ∧ Cur w' p a len cap := by
  obtain ⟨hl, _, hc⟩ := hc
  have HC := hcur
  obtain ⟨hp, c0, ⟨i, hi, c1⟩, ⟨h, c2⟩, hfz⟩ := hcur
  have f1 := hfz 1
  have f2 := hfz 2
  clear hfz
  by_cases hlt : i < len
  · rcases hc with hc | ⟨b, off, zs, rfl, hb, hcell⟩
    · omega
    · obtain ⟨h1, h2, h3⟩ := hcell i hlt
      have h1' : ∀ v, (w.setCell ⟨p, 2, none⟩ v).cell? ⟨b, off + i, none⟩ = some (.int .u8 (zs i)) := fun v => by
        rw [World.cell?_setCell_other _ _ _ _ (by intro e; have := congrArg Addr.block e; simp at this; omega)]; exact h1
      clear hcell
      go_enter Try.func57, Try.ntmps57
      go_wp2
      generalize wrap64 (wrap64 (h * 6364136223846793005) + 1442695040888963407) = H
      go_quiet (fail)
      go_wp2
      go_quiet (fail)
      go_wp2
      go_quiet (fail)
      go_wp2
      go_ret
      exact ⟨_, (and255 _).1, (and255 _).2, rfl, (((Only.refl p w).setCell (.inl rfl) _).drewN _).setCell (.inl rfl) _, ((HC.put _).drewN _).step (i + 1) hlt⟩
  · go_enter Try.func57, Try.ntmps57
    go_wp2
    generalize wrap64 (wrap64 (h * 6364136223846793005) + 1442695040888963407) = H
    go_quiet (fail)
    go_wp2
    go_quiet (fail)
    go_wp2
    go_ret
    exact ⟨_, (and255 _).1, (and255 _).2, rfl, (((Only.refl p w).setCell (.inl rfl) _).drewN _).drewN _, ((HC.put _).drewN _).drewN _⟩
end Go.Proofs.Ytodfdfncdoliiad
namespace Go.Proofs.Ytodfdfncdoliiad
open Go.ChangeShapes Go.WideShapes Go.ChangeAt Go.RowKit
set_option maxRecDepth 100000

structure Pc where
  (id ow si zo st po to tr pl mi ma : Int)
  (de be : Bool)
/-- each of its numbers is one that an int can be -/
def Pc.wf (p : Pc) : Prop := ∀ x ∈ [p.id, p.ow, p.si, p.zo, p.st, p.po, p.to, p.tr, p.pl, p.mi, p.ma], (Lit.int .i64 x).wf = true

theorem list13 {α : Type} : ∀ {l : List α}, l.length = 13 → ∃ a b c d e f g h i j k m n, l = [a, b, c, d, e, f, g, h, i, j, k, m, n]
  | [a, b, c, d, e, f, g, h, i, j, k, m, n], _ => ⟨a, b, c, d, e, f, g, h, i, j, k, m, n, rfl⟩
section
variable {H : Type} {enc : TypeId × Value → H} {P : Program} {w : World} {base : Nat} {spare : TypeId → Bool} {held : Bool}
/-- a struct whose fields are of one cell each: its cells, and each field's reading -/
theorem open_struct1 {r : Reach} {b0 : Nat} {t : TypeId} {fs : Array Field} {v : Value} {d : DataW H} {p : List MemPlace} (hs : P.underlying t = some (.struct fs)) (hone : Deep.oneCellFields P fs = true) (hC : P.cellsOf t = fs.size)
    (hv : Value.okWide P w r b0 t v) (h : DataW.Trod enc P w base spare held t v d p) :
    ∃ cs : List Value, v = .agg cs.toArray ∧ cs.length = fs.size ∧ ∀ (i : Nat) (f : Field) (c : Value), fs[i]? = some f → cs[i]? = some c → ∃ n y, DataW.trod enc P w base spare held n f.type [c] = some y := by
  obtain ⟨cs, rfl, hsz⟩ := okWide_struct hs hv
  obtain ⟨fuel, hf⟩ := h
  obtain ⟨xs, n, _, _, _, hlen, hx⟩ := DataW.trod_struct hs hf
  refine ⟨cs.toList, by simp, by simp [hsz, hC], fun i f c hfi hci => ?_⟩
  obtain ⟨o, k⟩ := Deep.hone_of hone i f hfi
  have h1 := hx i f hfi
  have hi : i < xs.length := by rw [hlen]; exact (Array.getElem?_eq_some_iff.1 hfi).1
  rw [List.getElem?_eq_getElem hi, o, k] at h1
  have hc : ((Value.agg cs).cells.toList.drop i).take 1 = [c] := by
    have hlt := (List.getElem?_eq_some_iff.1 hci)
    obtain ⟨hl, rfl⟩ := hlt
    show (cs.toList.drop i).take 1 = _
    rw [List.drop_eq_getElem_cons hl]; rfl
  rw [hc] at h1
  exact ⟨n, _, h1⟩
end
end Go.Proofs.Ytodfdfncdoliiad
