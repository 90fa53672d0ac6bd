/-
  Chapter 10: words for an effect: how a law's own is taken over, compared, marked, held. Written by tools/ef.gen.py. Contracts of chapter 2's amounts in bytes (numBytes, joined, cut, PutNum, GetNum and the specification's). Own work.
-/
import Derived.Test.YtodfdfncdoliiadGPaA3
import Derived.Deep.DeepCutAuto
import Derived.Deep.CutBlock
import Derived.Test.YtodfdfncdoliiadGRow3
import Derived.Test.YtodfdfncdoliiadGEvA3
namespace Go.Proofs.Ytodfdfncdoliiad
open Go.ChangeShapes Go.WideShapes Go.ChangeAt Go.RowKit
set_option maxRecDepth 100000
set_option linter.unusedVariables false
set_option linter.unusedSimpArgs false

def putA (cs : Array Value) (k : Nat) : List Value → Array Value
  | [] => cs
  | v :: L => putA (cs.setIfInBounds k v) (k + 1) L
theorem BoxR.putL {w : World} {g t : Nat} {cs : Array Value} (h : BoxR w g t cs) (k : Nat) (L : List Value) : BoxR (w.setCells g k L) g t (putA cs k L) := by
  induction L generalizing w cs k with
  | nil => exact h
  | cons v L ih => unfold World.setCells; exact ih (h.put k v) (k + 1)
theorem BoxR.otherL {w : World} {b g t : Nat} {cs : Array Value} (h : BoxR w b t cs) (hne : b ≠ g) (k : Nat) (L : List Value) : BoxR (w.setCells g k L) b t cs := by
  induction L generalizing w k with
  | nil => exact h
  | cons v L ih => unfold World.setCells; exact ih (h.other (q := ⟨g, k, none⟩) hne v) (k + 1)
theorem BoxR.thereL {w : World} {g t : Nat} {cs : Array Value} (h : BoxR w g t cs) {k n : Nat} (hn : k + n ≤ cs.size) : w.there g k n := there_row h hn
theorem setCells_other {g i : Nat} (hne : i ≠ g) : ∀ (L : List Value) (k : Nat) (w : World), (w.setCells g k L).heap[i]? = w.heap[i]?
  | [], _, _ => rfl
  | v :: L, k, w => by unfold World.setCells; rw [setCells_other hne L (k + 1)]; exact Below.heap_setCell w ⟨g, k, none⟩ v i hne
theorem OwnA.setL {w : World} {B g : Nat} {t : Ac} (h : OwnA w B t) (hne : t.lb ≠ g) (k : Nat) (L : List Value) : OwnA (w.setCells g k L) B t := by
  refine ⟨h.1, h.2.1, ?_⟩
  refine h.2.2.same (setCells_other hne L k w) ?_
  have : ∀ (L : List Value) (k : Nat) (w : World), w.heap.size ≤ (w.setCells g k L).heap.size := by
    intro L
    induction L with
    | nil => intro k w; exact Nat.le_refl _
    | cons v L ih => intro k w; unfold World.setCells; exact Nat.le_trans (by simp) (ih (k + 1) _)
  exact this L k w
theorem OwnA.setC {w : World} {B g : Nat} {t : Ac} (h : OwnA w B t) (hne : t.lb ≠ g) (k : Nat) (v : Value) : OwnA (w.setCell ⟨g, k, none⟩ v) B t :=
  ⟨h.1, h.2.1, h.2.2.same (Below.heap_setCell w ⟨g, k, none⟩ v t.lb hne) (by simp)⟩
/-- they say the same, wherever their lists lie -/
structure AlikeF (t a : Ef) : Prop where
  id : t.id = a.id
  si : t.si = a.si
  sr : t.sr = a.sr
  cl : t.cl = a.cl
  pt : t.pt = a.pt
  gd : t.gd = a.gd
  ac : AlikeA t.ac a.ac
  un : t.un = a.un
  le : t.le = a.le
/-- the call's own -/
def OwnF (w : World) (B : Nat) (t : Ef) : Prop := OwnA w B t.ac
theorem OwnF.grew {w w' : World} {B : Nat} {t : Ef} (h : OwnF w B t) (hb : Below w.heap.size w w') : OwnF w' B t := OwnA.grew h hb
theorem okT10 {t a : Ef} {w w0 : World} {B : Nat} (h : OwnF w B t) (k : AlikeF t a) (hs : a.ok w0) : t.ok w := by
  refine ⟨okT9 h k.ac hs.1, ?_, ?_, ?_⟩
  · rw [k.id, k.si, k.sr, k.cl, k.un, k.le]; exact hs.2.1
  · rw [k.pt]; exact hs.2.2.1
  · rw [k.gd]; exact hs.2.2.2
end Go.Proofs.Ytodfdfncdoliiad
namespace Go.Proofs.Ytodfdfncdoliiad
open Go.ChangeShapes Go.WideShapes Go.ChangeAt Go.RowKit
set_option maxRecDepth 100000

def enc (n : Int) : Nat → Int := fun j => if j = 0 then (bnd n + 2147483648) / 16777216 else if j = 1 then (bnd n + 2147483648) / 65536 % 256 else if j = 2 then (bnd n + 2147483648) / 256 % 256 else (bnd n + 2147483648) % 256

theorem and255_eq (x : Int) (h0 : 0 ≤ x) (h1 : x ≤ 9223372036854775807) : bits .and .i64 x 255 % 256 = x % 256 := by
  obtain ⟨m, rfl⟩ := Int.eq_ofNat_of_zero_le h0
  have h2 : (BitVec.ofInt 64 (255 : Int)).toNat = 255 := by decide
  have e : bits .and .i64 (m : Int) 255 = IntKind.i64.wrap ((BitVec.ofInt 64 (m : Int) &&& BitVec.ofInt 64 (255 : Int)).toNat : Int) := rfl
  have h3 : (BitVec.ofInt 64 (m : Int) &&& BitVec.ofInt 64 (255 : Int)).toNat = m % 256 := by
    rw [BitVec.toNat_and, h2, BitVec.ofInt_natCast, BitVec.toNat_ofNat, Nat.mod_eq_of_lt (by omega)]
    exact Nat.and_two_pow_sub_one_eq_mod m 8
  rw [e, h3, IntWalk.i64_in _ (by omega)]
  omega
theorem vals4 (k : IntKind) (f : Nat → Int) : vals k 4 f = [.int k (f 0), .int k (f 1), .int k (f 2), .int k (f 3)] := rfl
theorem Rd.news {k : IntKind} {w : World} {b : Nat} {ad : Addr} {n : Nat} {f : Nat → Int} (h : Rd k w b (some ad) n f) : ∀ j u, (vals k n f)[j]? = some u → w.cell? (ad.add j) = some u := by
  intro j u hu
  by_cases hn : 0 < n
  · obtain ⟨x, e, hx⟩ := h.src hn
    simp only [Option.some.injEq] at e
    subst e
    exact hx j u hu
  · rw [vals_get, if_neg (by omega)] at hu; cases hu
theorem cells_new (w : World) (L : List Value) (t : TypeId) : ∀ j u, L[j]? = some u → (w.alloc (.cells L.toArray t)).cell? ((⟨w.heap.size, 0, none⟩ : Addr).add j) = some u := by
  intro j u hu
  have e : (⟨w.heap.size, 0, none⟩ : Addr).add j = ⟨w.heap.size, j, none⟩ := by unfold Addr.add; split <;> simp_all
  rw [e, cell_of_row _ w.heap.size j _ t (0, 0) (heap_alloc_new w _)]
  simpa using hu
end Go.Proofs.Ytodfdfncdoliiad
