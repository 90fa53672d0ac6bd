/-
  Contracts of chapter 2's GetNum (the program's, by cut; the specification's). Chapter 4: the specification's GetPiece. Own work.
-/
import Derived.Test.YtodfdfncdoliiadGPiece42
namespace Go.Proofs.Ytodfdfncdoliiad
open Go.ChangeShapes Go.WideShapes Go.ChangeAt Go.RowKit
set_option maxRecDepth 100000

/-- the number of the first k bytes from place i on -/
def part (f : Nat → Int) (i : Nat) : Nat → Int
  | 0 => 0
  | k + 1 => part f i k * 256 + f (i + k)
def U8 (n : Nat) (f : Nat → Int) : Prop := ∀ i, i < n → 0 ≤ f i ∧ f i ≤ 255
theorem part_bd {f : Nat → Int} {n i : Nat} (hu : U8 n f) : ∀ k, i + k ≤ n → 0 ≤ part f i k ∧ part f i k < 256 ^ k
  | 0, _ => by simp [part]
  | k + 1, h => by
    have ih := part_bd (i := i) hu k (by omega)
    have hf := hu (i + k) (by omega)
    have e : (256 : Int) ^ (k + 1) = 256 ^ k * 256 := Int.pow_succ _ _
    simp only [part]
    rw [e]
    omega
theorem part_bd3 {f : Nat → Int} {n i k : Nat} (hu : U8 n f) (h : i + k ≤ n) (hk : k < 4) : 0 ≤ part f i k ∧ part f i k ≤ 16777215 := by
  have h1 := part_bd hu k h
  have h2 : (256 : Int) ^ k ≤ 16777216 := by
    have : k = 0 ∨ k = 1 ∨ k = 2 ∨ k = 3 := by omega
    rcases this with rfl | rfl | rfl | rfl <;> decide
  omega
theorem part_bd4 {f : Nat → Int} {n i : Nat} (hu : U8 n f) (h : i + 4 ≤ n) : 0 ≤ part f i 4 ∧ part f i 4 ≤ 4294967295 := by
  have h1 := part_bd hu 4 h
  have h2 : (256 : Int) ^ 4 = 4294967296 := by decide
  omega
def num4 (f : Nat → Int) (i : Nat) : Int := part f i 4
def gok (n : Nat) (f : Nat → Int) (at' : Int) : Bool := decide (0 ≤ at' ∧ at' ≤ (n : Int) - 4) && (num4 f at'.toNat != 0)
def gnum (n : Nat) (f : Nat → Int) (at' : Int) : Int := if gok n f at' = true then num4 f at'.toNat - 2147483648 else 0
def gnext (n : Nat) (f : Nat → Int) (at' : Int) : Int := if gok n f at' = true then at' + 4 else 0
theorem gok_out {n : Nat} {f : Nat → Int} {at' : Int} (h : ¬ (0 ≤ at' ∧ at' ≤ (n : Int) - 4)) : gok n f at' = false := by simp only [gok, h]; simp
theorem gok_in {n : Nat} {f : Nat → Int} {at' : Int} (h : 0 ≤ at' ∧ at' ≤ (n : Int) - 4) : gok n f at' = (num4 f at'.toNat != 0) := by simp [gok, h]
theorem ret3 {a b c d : Int} {x y : Bool} (h : a = b) (h' : c = d) (h2 : x = y) : Ending.returned (.tuple #[.int .i64 a, .int .i64 c, .bool x]) = .returned (.tuple #[.int .i64 b, .int .i64 d, .bool y]) := by rw [h, h', h2]
theorem gnext_ok' {n : Nat} {f : Nat → Int} {at' : Int} (h : gok n f at' = true) : gnext n f at' = at' + 4 := by unfold gnext; rw [if_pos h]
theorem get_bad {n : Nat} {f : Nat → Int} {at' : Int} (h : gok n f at' = false) : Ending.returned (.tuple #[.int .i64 0, .int .i64 0, .bool false]) = .returned (.tuple #[.int .i64 (gnum n f at'), .int .i64 (gnext n f at'), .bool (gok n f at')]) :=
  ret3 (by simp [gnum, h]) (by simp [gnext, h]) h.symm
theorem get_good {n : Nat} {f : Nat → Int} {at' : Int} (h : gok n f at' = true) : Ending.returned (.tuple #[.int .i64 (num4 f at'.toNat - 2147483648), .int .i64 (at' + 4), .bool true]) = .returned (.tuple #[.int .i64 (gnum n f at'), .int .i64 (gnext n f at'), .bool (gok n f at')]) :=
  ret3 (by simp [gnum, h]) (by simp [gnext, h]) h.symm
theorem get_good' {n i : Nat} {f : Nat → Int} (h : gok n f (i : Int) = true) : Ending.returned (.tuple #[.int .i64 (part f i 4 - 2147483648), .int .i64 ((i : Int) + 4), .bool true]) = .returned (.tuple #[.int .i64 (gnum n f i), .int .i64 (gnext n f i), .bool (gok n f i)]) :=
  ret3 (by unfold gnum; rw [if_pos h, Int.toNat_natCast]; rfl) (by unfold gnext; rw [if_pos h]) h.symm

/-- what cut answers -/
def CutPost (w : World) (b n : Nat) (f : Nat → Int) (at' size : Int) (e : Ending) : Prop :=
  (¬ (0 ≤ at' ∧ size ≤ n - at') ∧ e = .returned (.tuple #[.slice none 0 0, .bool false])) ∨
  ∃ i m : Nat, at' = i ∧ size = m ∧ i + m ≤ n ∧ ∃ a', e = .returned (.tuple #[.slice a' m m, .bool true]) ∧ Rd .u8 w b a' m (fun j => f (i + j))
theorem Rd.part {k : IntKind} {w : World} {b : Nat} {a : Option Addr} {n : Nat} {f : Nat → Int} (h : Rd k w b a n f) {i m : Nat} (hm : 0 < m) (h2 : i + m ≤ n) : Rd k w b (a.map (fun x => x.add i)) m (fun j => f (i + j)) := by
  rcases h with h | ⟨off, rfl, h⟩
  · omega
  · refine .inr ⟨off + i, ?_, fun j hj => ?_⟩
    · show some ((⟨b, off, none⟩ : Addr).add i) = _
      congr 1
      unfold Addr.add; split <;> simp_all
    · have := h (i + j) (by omega)
      rw [Nat.add_assoc]; exact this
theorem or_low (x c : Int) (h0 : 0 ≤ x) (h1 : x ≤ 16777215) (h2 : 0 ≤ c) (h3 : c ≤ 255) : bits .or .i64 (x * 256) c = x * 256 + c := by
  obtain ⟨m, rfl⟩ := Int.eq_ofNat_of_zero_le h0
  obtain ⟨d, rfl⟩ := Int.eq_ofNat_of_zero_le h2
  have e : bits .or .i64 ((m : Int) * 256) (d : Int) = IntKind.i64.wrap ((BitVec.ofInt 64 ((m : Int) * 256) ||| BitVec.ofInt 64 (d : Int)).toNat : Int) := rfl
  have e1 : ((m : Int) * 256) = ((m * 256 : Nat) : Int) := by omega
  have h4 : (BitVec.ofInt 64 ((m : Int) * 256) ||| BitVec.ofInt 64 (d : Int)).toNat = m * 256 + d := by
    rw [e1, BitVec.toNat_or, BitVec.ofInt_natCast, BitVec.ofInt_natCast, BitVec.toNat_ofNat, BitVec.toNat_ofNat, Nat.mod_eq_of_lt (by omega), Nat.mod_eq_of_lt (by omega)]
    have := Nat.shiftLeft_add_eq_or_of_lt (i := 8) (b := d) (by omega) m
    rw [Nat.shiftLeft_eq] at this
    exact this.symm
  rw [e, h4, IntWalk.i64_in _ (by omega)]
  omega
end Go.Proofs.Ytodfdfncdoliiad
namespace Go.Proofs.Ytodfdfncdoliiad
open Go.ChangeShapes Go.WideShapes Go.ChangeAt Go.RowKit
set_option maxRecDepth 100000

/-- the numbers from a place on -/
def gnL (n : Nat) (f : Nat → Int) (at' : Int) : Nat → Int := fun j => gnum n f (at' + 4 * (j : Int))
/-- whether thirteen numbers are there -/
def gnOk (n : Nat) (f : Nat → Int) (at' : Int) : Bool := (List.range 13).all (fun j => gok n f (at' + 4 * (j : Int)))
theorem gnOk_no {n : Nat} {f : Nat → Int} {at' : Int} {k : Nat} (hk : k < 13) (h : gok n f (at' + 4 * (k : Int)) = false) : gnOk n f at' = false := by
  unfold gnOk
  rw [List.all_eq_false]
  exact ⟨k, List.mem_range.2 hk, by simp [h]⟩
theorem gnOk_yes {n : Nat} {f : Nat → Int} {at' : Int} (h : ∀ k : Nat, k < 13 → gok n f (at' + 4 * (k : Int)) = true) : gnOk n f at' = true := by
  unfold gnOk
  rw [List.all_eq_true]
  exact fun k hk => h k (List.mem_range.1 hk)
def NumsPost (n : Nat) (f : Nat → Int) (at' : Int) (w : World) (e : Ending) (w' : World) : Prop :=
  Below w.heap.size w w' ∧ ((gnOk n f at' = true ∧ ∃ q cap, e = .returned (.tuple #[.slice (some ⟨q, 0, none⟩) 13 cap, .int .i64 (at' + 52), .bool true]) ∧ Own .i64 w' w.heap.size q (some ⟨q, 0, none⟩) 13 (gnL n f at')) ∨
    (gnOk n f at' = false ∧ ∃ q N cap, e = .returned (.tuple #[.slice (some ⟨q, 0, none⟩) N cap, .int .i64 0, .bool false])))
theorem row_grew' {W W' : World} {base : Nat} {e : TypeId} {v : Value} {n : Nat} {xs : List Value} (h : W.ownsRow base e 1 v n xs) (hb : Below W.heap.size W W') : W'.ownsRow base e 1 v n xs := by
  refine ⟨h.1, ?_⟩
  rcases h.2 with h' | ⟨g, cap, cur, rfl, h1, h2, h3⟩
  · exact .inl h'
  · exact .inr ⟨g, cap, cur, rfl, h1, (hb.block g (Array.getElem?_eq_some_iff.1 h2).1).trans h2, h3⟩
theorem gok_rng' {n : Nat} {f : Nat → Int} {at' : Int} (h : gok n f at' = true) : 0 ≤ at' ∧ at' ≤ (n : Int) - 4 := by
  unfold gok at h
  rw [Bool.and_eq_true, decide_eq_true_eq] at h
  exact h.1
/-- the piece that the numbers would be -/
def rawP (n : Nat) (f : Nat → Int) (at' : Int) : Pc := ⟨gnL n f at' 0, gnL n f at' 1, gnL n f at' 2, gnL n f at' 3, gnL n f at' 4, gnL n f at' 5, gnL n f at' 6, gnL n f at' 7, gnL n f at' 8, gnL n f at' 9, gnL n f at' 10, gnL n f at' 11 == 1, gnL n f at' 12 == 1⟩
def zeroP : Pc := ⟨0, 0, 0, 0, 0, 0, 0, 0, 0, 0, 0, false, false⟩
def gpOk (n : Nat) (f : Nat → Int) (at' : Int) : Bool := gnOk n f at' && ib (gnL n f at' 11) 0 1 && ib (gnL n f at' 12) 0 1 && okP (rawP n f at')
def gpP (n : Nat) (f : Nat → Int) (at' : Int) : Pc := if gpOk n f at' = true then rawP n f at' else zeroP
def gpX (n : Nat) (f : Nat → Int) (at' : Int) : Int := if gpOk n f at' = true then at' + 52 else 0
theorem results_row2 {P : Program} {fn : Func} {p u v : Tmp} {ty : TypeId} (h : fn.results = #[.cell p ty, .tmp u, .tmp v]) (tmps : Array Value) (w : World) (g : Nat) (t : TypeId) (cs : Array Value) (fr : Nat × Nat) (d : TypeDesc)
    (hp : tmps.getD p undef = .pointer (some ⟨g, 0, none⟩)) (hg : w.heap[g]? = some (.cells cs t fr))
    (hu : P.underlying ty = some d) (hd : (match d with | .struct _ | .array _ _ => true | _ => false) = true) (hi : (P.info? ty).map (·.size) = some cs.size) :
    (results fn tmps).run P w = .ok (.tuple #[.agg cs, tmps.getD u undef, tmps.getD v undef]) w := by
  have hp' : tmps[p]?.getD undef = .pointer (some ⟨g, 0, none⟩) := by simpa using hp
  simp [results, h, hp', asAddr, run_loadVar_row w g t ty cs fr d hg hu hd hi]
theorem gp_bad {n : Nat} {f : Nat → Int} {at' : Int} (h : gpOk n f at' = false) : Ending.returned (.tuple #[(.agg #[.int .i64 zeroP.id, .int .i64 zeroP.ow, .int .i64 zeroP.si, .int .i64 zeroP.zo, .int .i64 zeroP.st, .int .i64 zeroP.po, .int .i64 zeroP.to, .int .i64 zeroP.tr, .int .i64 zeroP.pl, .int .i64 zeroP.mi, .int .i64 zeroP.ma, .bool zeroP.de, .bool zeroP.be]), .int .i64 0, .bool false]) = .returned (.tuple #[(.agg #[.int .i64 (gpP n f at').id, .int .i64 (gpP n f at').ow, .int .i64 (gpP n f at').si, .int .i64 (gpP n f at').zo, .int .i64 (gpP n f at').st, .int .i64 (gpP n f at').po, .int .i64 (gpP n f at').to, .int .i64 (gpP n f at').tr, .int .i64 (gpP n f at').pl, .int .i64 (gpP n f at').mi, .int .i64 (gpP n f at').ma, .bool (gpP n f at').de, .bool (gpP n f at').be]), .int .i64 (gpX n f at'), .bool (gpOk n f at')]) := by
  unfold gpP gpX
  rw [h]
  rfl
theorem gp_good {n : Nat} {f : Nat → Int} {at' : Int} (h : gpOk n f at' = true) : Ending.returned (.tuple #[(.agg #[.int .i64 (rawP n f at').id, .int .i64 (rawP n f at').ow, .int .i64 (rawP n f at').si, .int .i64 (rawP n f at').zo, .int .i64 (rawP n f at').st, .int .i64 (rawP n f at').po, .int .i64 (rawP n f at').to, .int .i64 (rawP n f at').tr, .int .i64 (rawP n f at').pl, .int .i64 (rawP n f at').mi, .int .i64 (rawP n f at').ma, .bool (rawP n f at').de, .bool (rawP n f at').be]), .int .i64 (at' + 52), .bool true]) = .returned (.tuple #[(.agg #[.int .i64 (gpP n f at').id, .int .i64 (gpP n f at').ow, .int .i64 (gpP n f at').si, .int .i64 (gpP n f at').zo, .int .i64 (gpP n f at').st, .int .i64 (gpP n f at').po, .int .i64 (gpP n f at').to, .int .i64 (gpP n f at').tr, .int .i64 (gpP n f at').pl, .int .i64 (gpP n f at').mi, .int .i64 (gpP n f at').ma, .bool (gpP n f at').de, .bool (gpP n f at').be]), .int .i64 (gpX n f at'), .bool (gpOk n f at')]) := by
  unfold gpP gpX
  rw [h]
  rfl
end Go.Proofs.Ytodfdfncdoliiad
