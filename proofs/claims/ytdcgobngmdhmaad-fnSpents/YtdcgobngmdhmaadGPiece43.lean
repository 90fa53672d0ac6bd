/-
  Chapter 4: the specification's PutPiece. Contracts of chapter 2's joined, cut, PutNum. Contracts of chapter 2's GetNum (the program's, by cut; the specification's). Own work.
-/
import Derived.Test.YtdcgobngmdhmaadGStMark4
import Derived.Test.YtdcgobngmdhmaadGRegBelow4
import Derived.Test.YtdcgobngmdhmaadGBytes2
import Derived.Test.YtdcgobngmdhmaadRegTail
import Derived.BigQuiet
namespace Go.Proofs.Ytdcgobngmdhmaad
open Go.ChangeShapes Go.WideShapes Go.ChangeAt Go.RowKit
set_option maxRecDepth 100000

def bt (b : Bool) : Int := if b then 1 else 0
/-- a piece's numbers, in the order in which they are written -/
def pcl (p : Pc) : List Int := [p.id, p.ow, p.si, p.zo, p.st, p.po, p.to, p.tr, p.pl, p.mi, p.ma, bt p.de, bt p.be]
/-- the bytes of numbers -/
def encM (L : List Int) : Nat → Int := fun i => enc (L.getD (i / 4) 0) (i % 4)
theorem encM_step (n k : Nat) (f : Nat → Int) (L : List Int) : ∀ i, i < n + 4 * k + 4 → cat (n + 4 * k) (cat n f (encM L)) (enc (L.getD k 0)) i = cat n f (encM L) i := by
  intro i hi
  unfold cat
  by_cases h1 : i < n + 4 * k
  · rw [if_pos h1]
  · rw [if_neg h1, if_neg (by omega)]
    unfold encM
    rw [show (i - n) / 4 = k by omega, show (i - n) % 4 = i - (n + 4 * k) by omega]
def ppN (n : Nat) (p : Pc) : Nat := if okP p = true then n + 52 else n
def ppF (n : Nat) (f : Nat → Int) (p : Pc) : Nat → Int := if okP p = true then cat n f (encM (pcl p)) else f
theorem ppN_le (n : Nat) (p : Pc) : ppN n p ≤ n + 52 := by unfold ppN; split <;> omega

end Go.Proofs.Ytdcgobngmdhmaad
namespace Go.Proofs.Ytdcgobngmdhmaad
open Go.ChangeShapes Go.WideShapes Go.ChangeAt Go.RowKit
set_option maxRecDepth 100000

theorem spl_two (n1 n2 : Nat) (f1 f2 z : Nat → Int) : ∀ i, i < n1 + n2 → spl (spl z 0 n1 f1) n1 n2 f2 i = cat n1 f1 f2 i := by
  intro i hi
  unfold spl cat
  by_cases h : i < n1
  · rw [if_neg (by omega), if_pos (by omega), if_pos h, Nat.sub_zero]
  · rw [if_pos (by omega), if_neg h]
theorem row_made {k : IntKind} {w : World} {B g : Nat} {e : TypeId} {n : Nat} {f : Nat → Int} (h : w.ownsRow B e 1 (.slice (some ⟨g, 0, none⟩) n n) n (vals k n f)) : w.heap[g]? = some (.cells (vals k n f).toArray e (0, 0)) := by
  rcases h.2 with ⟨h', _⟩ | ⟨g', cap', cur, h', hb, hg, hnc, hcm, hcs, htake⟩
  · simp at h'
  · simp only [Value.slice.injEq, Option.some.injEq, Addr.mk.injEq, and_true, true_and] at h'
    obtain ⟨rfl, rfl⟩ := h'
    rw [List.take_of_length_le (by rw [Array.length_toList, hcs]; exact Nat.le_refl _)] at htake
    rw [hg, ← htake]
theorem sizeU8 : (Try.prog.info? 5).map (·.size) = some 1 := by kernel_rfl
theorem below_new (w : World) (o : Obj) : Below w.heap.size w (w.alloc o) := (Below.refl _ _).alloc (Nat.le_refl _) _
end Go.Proofs.Ytdcgobngmdhmaad
namespace Go.Proofs.Ytdcgobngmdhmaad
open Go.ChangeShapes Go.WideShapes Go.ChangeAt Go.RowKit
set_option maxRecDepth 100000

/-- the number of the first k bytes from place i on -/
def part (f : Nat → Int) (i : Nat) : Nat → Int
  | 0 => 0
  | k + 1 => part f i k * 256 + f (i + k)
def U8 (n : Nat) (f : Nat → Int) : Prop := ∀ i, i < n → 0 ≤ f i ∧ f i ≤ 255
theorem part_bd {f : Nat → Int} {n i : Nat} (hu : U8 n f) : ∀ k, i + k ≤ n → 0 ≤ part f i k ∧ part f i k < 256 ^ k
  | 0, _ => by simp [part]
  | k + 1, h => by
    have ih := part_bd (i := i) hu k (by omega)
    have hf := hu (i + k) (by omega)
    have e : (256 : Int) ^ (k + 1) = 256 ^ k * 256 := Int.pow_succ _ _
    simp only [part]
    rw [e]
    omega
theorem part_bd3 {f : Nat → Int} {n i k : Nat} (hu : U8 n f) (h : i + k ≤ n) (hk : k < 4) : 0 ≤ part f i k ∧ part f i k ≤ 16777215 := by
  have h1 := part_bd hu k h
  have h2 : (256 : Int) ^ k ≤ 16777216 := by
    have : k = 0 ∨ k = 1 ∨ k = 2 ∨ k = 3 := by omega
    rcases this with rfl | rfl | rfl | rfl <;> decide
  omega
theorem part_bd4 {f : Nat → Int} {n i : Nat} (hu : U8 n f) (h : i + 4 ≤ n) : 0 ≤ part f i 4 ∧ part f i 4 ≤ 4294967295 := by
  have h1 := part_bd hu 4 h
  have h2 : (256 : Int) ^ 4 = 4294967296 := by decide
  omega
def num4 (f : Nat → Int) (i : Nat) : Int := part f i 4
def gok (n : Nat) (f : Nat → Int) (at' : Int) : Bool := decide (0 ≤ at' ∧ at' ≤ (n : Int) - 4) && (num4 f at'.toNat != 0)
def gnum (n : Nat) (f : Nat → Int) (at' : Int) : Int := if gok n f at' = true then num4 f at'.toNat - 2147483648 else 0
def gnext (n : Nat) (f : Nat → Int) (at' : Int) : Int := if gok n f at' = true then at' + 4 else 0
theorem gok_out {n : Nat} {f : Nat → Int} {at' : Int} (h : ¬ (0 ≤ at' ∧ at' ≤ (n : Int) - 4)) : gok n f at' = false := by simp only [gok, h]; simp
theorem gok_in {n : Nat} {f : Nat → Int} {at' : Int} (h : 0 ≤ at' ∧ at' ≤ (n : Int) - 4) : gok n f at' = (num4 f at'.toNat != 0) := by simp [gok, h]
theorem ret3 {a b c d : Int} {x y : Bool} (h : a = b) (h' : c = d) (h2 : x = y) : Ending.returned (.tuple #[.int .i64 a, .int .i64 c, .bool x]) = .returned (.tuple #[.int .i64 b, .int .i64 d, .bool y]) := by rw [h, h', h2]
theorem gnext_ok' {n : Nat} {f : Nat → Int} {at' : Int} (h : gok n f at' = true) : gnext n f at' = at' + 4 := by unfold gnext; rw [if_pos h]
theorem get_bad {n : Nat} {f : Nat → Int} {at' : Int} (h : gok n f at' = false) : Ending.returned (.tuple #[.int .i64 0, .int .i64 0, .bool false]) = .returned (.tuple #[.int .i64 (gnum n f at'), .int .i64 (gnext n f at'), .bool (gok n f at')]) :=
  ret3 (by simp [gnum, h]) (by simp [gnext, h]) h.symm
theorem get_good {n : Nat} {f : Nat → Int} {at' : Int} (h : gok n f at' = true) : Ending.returned (.tuple #[.int .i64 (num4 f at'.toNat - 2147483648), .int .i64 (at' + 4), .bool true]) = .returned (.tuple #[.int .i64 (gnum n f at'), .int .i64 (gnext n f at'), .bool (gok n f at')]) :=
  ret3 (by simp [gnum, h]) (by simp [gnext, h]) h.symm
theorem get_good' {n i : Nat} {f : Nat → Int} (h : gok n f (i : Int) = true) : Ending.returned (.tuple #[.int .i64 (part f i 4 - 2147483648), .int .i64 ((i : Int) + 4), .bool true]) = .returned (.tuple #[.int .i64 (gnum n f i), .int .i64 (gnext n f i), .bool (gok n f i)]) :=
  ret3 (by unfold gnum; rw [if_pos h, Int.toNat_natCast]; rfl) (by unfold gnext; rw [if_pos h]) h.symm

/-- what cut answers -/
def CutPost (w : World) (b n : Nat) (f : Nat → Int) (at' size : Int) (e : Ending) : Prop :=
  (¬ (0 ≤ at' ∧ size ≤ n - at') ∧ e = .returned (.tuple #[.slice none 0 0, .bool false])) ∨
  ∃ i m : Nat, at' = i ∧ size = m ∧ i + m ≤ n ∧ ∃ a', e = .returned (.tuple #[.slice a' m m, .bool true]) ∧ Rd .u8 w b a' m (fun j => f (i + j))
theorem Rd.part {k : IntKind} {w : World} {b : Nat} {a : Option Addr} {n : Nat} {f : Nat → Int} (h : Rd k w b a n f) {i m : Nat} (hm : 0 < m) (h2 : i + m ≤ n) : Rd k w b (a.map (fun x => x.add i)) m (fun j => f (i + j)) := by
  rcases h with h | ⟨off, rfl, h⟩
  · omega
  · refine .inr ⟨off + i, ?_, fun j hj => ?_⟩
    · show some ((⟨b, off, none⟩ : Addr).add i) = _
      congr 1
      unfold Addr.add; split <;> simp_all
    · have := h (i + j) (by omega)
      rw [Nat.add_assoc]; exact this
theorem or_low (x c : Int) (h0 : 0 ≤ x) (h1 : x ≤ 16777215) (h2 : 0 ≤ c) (h3 : c ≤ 255) : bits .or .i64 (x * 256) c = x * 256 + c := by
  obtain ⟨m, rfl⟩ := Int.eq_ofNat_of_zero_le h0
  obtain ⟨d, rfl⟩ := Int.eq_ofNat_of_zero_le h2
  have e : bits .or .i64 ((m : Int) * 256) (d : Int) = IntKind.i64.wrap ((BitVec.ofInt 64 ((m : Int) * 256) ||| BitVec.ofInt 64 (d : Int)).toNat : Int) := rfl
  have e1 : ((m : Int) * 256) = ((m * 256 : Nat) : Int) := by omega
  have h4 : (BitVec.ofInt 64 ((m : Int) * 256) ||| BitVec.ofInt 64 (d : Int)).toNat = m * 256 + d := by
    rw [e1, BitVec.toNat_or, BitVec.ofInt_natCast, BitVec.ofInt_natCast, BitVec.toNat_ofNat, BitVec.toNat_ofNat, Nat.mod_eq_of_lt (by omega), Nat.mod_eq_of_lt (by omega)]
    have := Nat.shiftLeft_add_eq_or_of_lt (i := 8) (b := d) (by omega) m
    rw [Nat.shiftLeft_eq] at this
    exact this.symm
  rw [e, h4, IntWalk.i64_in _ (by omega)]
  omega
end Go.Proofs.Ytdcgobngmdhmaad
