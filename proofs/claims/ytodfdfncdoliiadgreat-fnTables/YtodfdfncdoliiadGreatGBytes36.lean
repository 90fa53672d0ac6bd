/-
  Contracts of chapter 2's GetNum (the program's, by cut; the specification's). Chapter 4: the specification's GetPiece. Rows that grow by append and lie in a box: what stays of them. Contracts of the draws (l1Below, l1Once, l1Int, l1Odd, l1Raw): what each answers lies within its bounds, and of memory that was there nothing turns but the cursor's own block. Contracts of the draws of chapter 1 (l1Odd, l1Raw, DrawPlus, DrawHalf, DrawUpto): each answers ints, and of memory that was there nothing turns. Contracts of the draws of bytes (l1Bytes) and of 'same', which holds two slices of bytes against each other. Own work.
-/
import Derived.Test.YtodfdfncdoliiadGreatGTbG4
import Derived.Test.YtodfdfncdoliiadGreatGGuC4
import Derived.Test.YtodfdfncdoliiadGreatGCur5
import Derived.Laws.BytesArg
namespace Go.Proofs.YtodfdfncdoliiadGreat
open Go.ChangeShapes Go.WideShapes Go.ChangeAt Go.RowKit
set_option maxRecDepth 100000

/-- the number of the first k bytes from place i on -/
def part (f : Nat → Int) (i : Nat) : Nat → Int
  | 0 => 0
  | k + 1 => part f i k * 256 + f (i + k)
def U8 (n : Nat) (f : Nat → Int) : Prop := ∀ i, i < n → 0 ≤ f i ∧ f i ≤ 255
theorem part_bd {f : Nat → Int} {n i : Nat} (hu : U8 n f) : ∀ k, i + k ≤ n → 0 ≤ part f i k ∧ part f i k < 256 ^ k
  | 0, _ => by simp [part]
  | k + 1, h => by
    have ih := part_bd (i := i) hu k (by omega)
    have hf := hu (i + k) (by omega)
    have e : (256 : Int) ^ (k + 1) = 256 ^ k * 256 := Int.pow_succ _ _
    simp only [part]
    rw [e]
    omega
theorem part_bd3 {f : Nat → Int} {n i k : Nat} (hu : U8 n f) (h : i + k ≤ n) (hk : k < 4) : 0 ≤ part f i k ∧ part f i k ≤ 16777215 := by
  have h1 := part_bd hu k h
  have h2 : (256 : Int) ^ k ≤ 16777216 := by
    have : k = 0 ∨ k = 1 ∨ k = 2 ∨ k = 3 := by omega
    rcases this with rfl | rfl | rfl | rfl <;> decide
  omega
theorem part_bd4 {f : Nat → Int} {n i : Nat} (hu : U8 n f) (h : i + 4 ≤ n) : 0 ≤ part f i 4 ∧ part f i 4 ≤ 4294967295 := by
  have h1 := part_bd hu 4 h
  have h2 : (256 : Int) ^ 4 = 4294967296 := by decide
  omega
def num4 (f : Nat → Int) (i : Nat) : Int := part f i 4
def gok (n : Nat) (f : Nat → Int) (at' : Int) : Bool := decide (0 ≤ at' ∧ at' ≤ (n : Int) - 4) && (num4 f at'.toNat != 0)
def gnum (n : Nat) (f : Nat → Int) (at' : Int) : Int := if gok n f at' = true then num4 f at'.toNat - 2147483648 else 0
def gnext (n : Nat) (f : Nat → Int) (at' : Int) : Int := if gok n f at' = true then at' + 4 else 0
theorem gok_out {n : Nat} {f : Nat → Int} {at' : Int} (h : ¬ (0 ≤ at' ∧ at' ≤ (n : Int) - 4)) : gok n f at' = false := by simp only [gok, h]; simp
theorem gok_in {n : Nat} {f : Nat → Int} {at' : Int} (h : 0 ≤ at' ∧ at' ≤ (n : Int) - 4) : gok n f at' = (num4 f at'.toNat != 0) := by simp [gok, h]
theorem ret3 {a b c d : Int} {x y : Bool} (h : a = b) (h' : c = d) (h2 : x = y) : Ending.returned (.tuple #[.int .i64 a, .int .i64 c, .bool x]) = .returned (.tuple #[.int .i64 b, .int .i64 d, .bool y]) := by rw [h, h', h2]
theorem gnext_ok' {n : Nat} {f : Nat → Int} {at' : Int} (h : gok n f at' = true) : gnext n f at' = at' + 4 := by unfold gnext; rw [if_pos h]
theorem get_bad {n : Nat} {f : Nat → Int} {at' : Int} (h : gok n f at' = false) : Ending.returned (.tuple #[.int .i64 0, .int .i64 0, .bool false]) = .returned (.tuple #[.int .i64 (gnum n f at'), .int .i64 (gnext n f at'), .bool (gok n f at')]) :=
  ret3 (by simp [gnum, h]) (by simp [gnext, h]) h.symm
theorem get_good {n : Nat} {f : Nat → Int} {at' : Int} (h : gok n f at' = true) : Ending.returned (.tuple #[.int .i64 (num4 f at'.toNat - 2147483648), .int .i64 (at' + 4), .bool true]) = .returned (.tuple #[.int .i64 (gnum n f at'), .int .i64 (gnext n f at'), .bool (gok n f at')]) :=
  ret3 (by simp [gnum, h]) (by simp [gnext, h]) h.symm
theorem get_good' {n i : Nat} {f : Nat → Int} (h : gok n f (i : Int) = true) : Ending.returned (.tuple #[.int .i64 (part f i 4 - 2147483648), .int .i64 ((i : Int) + 4), .bool true]) = .returned (.tuple #[.int .i64 (gnum n f i), .int .i64 (gnext n f i), .bool (gok n f i)]) :=
  ret3 (by unfold gnum; rw [if_pos h, Int.toNat_natCast]; rfl) (by unfold gnext; rw [if_pos h]) h.symm

/-- what cut answers -/
def CutPost (w : World) (b n : Nat) (f : Nat → Int) (at' size : Int) (e : Ending) : Prop :=
  (¬ (0 ≤ at' ∧ size ≤ n - at') ∧ e = .returned (.tuple #[.slice none 0 0, .bool false])) ∨
  ∃ i m : Nat, at' = i ∧ size = m ∧ i + m ≤ n ∧ ∃ a', e = .returned (.tuple #[.slice a' m m, .bool true]) ∧ Rd .u8 w b a' m (fun j => f (i + j))
theorem Rd.part {k : IntKind} {w : World} {b : Nat} {a : Option Addr} {n : Nat} {f : Nat → Int} (h : Rd k w b a n f) {i m : Nat} (hm : 0 < m) (h2 : i + m ≤ n) : Rd k w b (a.map (fun x => x.add i)) m (fun j => f (i + j)) := by
  rcases h with h | ⟨off, rfl, h⟩
  · omega
  · refine .inr ⟨off + i, ?_, fun j hj => ?_⟩
    · show some ((⟨b, off, none⟩ : Addr).add i) = _
      congr 1
      unfold Addr.add; split <;> simp_all
    · have := h (i + j) (by omega)
      rw [Nat.add_assoc]; exact this
theorem or_low (x c : Int) (h0 : 0 ≤ x) (h1 : x ≤ 16777215) (h2 : 0 ≤ c) (h3 : c ≤ 255) : bits .or .i64 (x * 256) c = x * 256 + c := by
  obtain ⟨m, rfl⟩ := Int.eq_ofNat_of_zero_le h0
  obtain ⟨d, rfl⟩ := Int.eq_ofNat_of_zero_le h2
  have e : bits .or .i64 ((m : Int) * 256) (d : Int) = IntKind.i64.wrap ((BitVec.ofInt 64 ((m : Int) * 256) ||| BitVec.ofInt 64 (d : Int)).toNat : Int) := rfl
  have e1 : ((m : Int) * 256) = ((m * 256 : Nat) : Int) := by omega
  have h4 : (BitVec.ofInt 64 ((m : Int) * 256) ||| BitVec.ofInt 64 (d : Int)).toNat = m * 256 + d := by
    rw [e1, BitVec.toNat_or, BitVec.ofInt_natCast, BitVec.ofInt_natCast, BitVec.toNat_ofNat, BitVec.toNat_ofNat, Nat.mod_eq_of_lt (by omega), Nat.mod_eq_of_lt (by omega)]
    have := Nat.shiftLeft_add_eq_or_of_lt (i := 8) (b := d) (by omega) m
    rw [Nat.shiftLeft_eq] at this
    exact this.symm
  rw [e, h4, IntWalk.i64_in _ (by omega)]
  omega
end Go.Proofs.YtodfdfncdoliiadGreat
namespace Go.Proofs.YtodfdfncdoliiadGreat
open Go.ChangeShapes Go.WideShapes Go.ChangeAt Go.RowKit
set_option maxRecDepth 100000

/-- the numbers from a place on -/
def gnL (n : Nat) (f : Nat → Int) (at' : Int) : Nat → Int := fun j => gnum n f (at' + 4 * (j : Int))
/-- whether thirteen numbers are there -/
def gnOk (n : Nat) (f : Nat → Int) (at' : Int) : Bool := (List.range 13).all (fun j => gok n f (at' + 4 * (j : Int)))
theorem gnOk_no {n : Nat} {f : Nat → Int} {at' : Int} {k : Nat} (hk : k < 13) (h : gok n f (at' + 4 * (k : Int)) = false) : gnOk n f at' = false := by
  unfold gnOk
  rw [List.all_eq_false]
  exact ⟨k, List.mem_range.2 hk, by simp [h]⟩
theorem gnOk_yes {n : Nat} {f : Nat → Int} {at' : Int} (h : ∀ k : Nat, k < 13 → gok n f (at' + 4 * (k : Int)) = true) : gnOk n f at' = true := by
  unfold gnOk
  rw [List.all_eq_true]
  exact fun k hk => h k (List.mem_range.1 hk)
def NumsPost (n : Nat) (f : Nat → Int) (at' : Int) (w : World) (e : Ending) (w' : World) : Prop :=
  Below w.heap.size w w' ∧ ((gnOk n f at' = true ∧ ∃ q cap, e = .returned (.tuple #[.slice (some ⟨q, 0, none⟩) 13 cap, .int .i64 (at' + 52), .bool true]) ∧ Own .i64 w' w.heap.size q (some ⟨q, 0, none⟩) 13 (gnL n f at')) ∨
    (gnOk n f at' = false ∧ ∃ q N cap, e = .returned (.tuple #[.slice (some ⟨q, 0, none⟩) N cap, .int .i64 0, .bool false])))
theorem row_grew' {W W' : World} {base : Nat} {e : TypeId} {v : Value} {n : Nat} {xs : List Value} (h : W.ownsRow base e 1 v n xs) (hb : Below W.heap.size W W') : W'.ownsRow base e 1 v n xs := by
  refine ⟨h.1, ?_⟩
  rcases h.2 with h' | ⟨g, cap, cur, rfl, h1, h2, h3⟩
  · exact .inl h'
  · exact .inr ⟨g, cap, cur, rfl, h1, (hb.block g (Array.getElem?_eq_some_iff.1 h2).1).trans h2, h3⟩
theorem gok_rng' {n : Nat} {f : Nat → Int} {at' : Int} (h : gok n f at' = true) : 0 ≤ at' ∧ at' ≤ (n : Int) - 4 := by
  unfold gok at h
  rw [Bool.and_eq_true, decide_eq_true_eq] at h
  exact h.1
/-- the piece that the numbers would be -/
def rawP (n : Nat) (f : Nat → Int) (at' : Int) : Pc := ⟨gnL n f at' 0, gnL n f at' 1, gnL n f at' 2, gnL n f at' 3, gnL n f at' 4, gnL n f at' 5, gnL n f at' 6, gnL n f at' 7, gnL n f at' 8, gnL n f at' 9, gnL n f at' 10, gnL n f at' 11 == 1, gnL n f at' 12 == 1⟩
def zeroP : Pc := ⟨0, 0, 0, 0, 0, 0, 0, 0, 0, 0, 0, false, false⟩
def gpOk (n : Nat) (f : Nat → Int) (at' : Int) : Bool := gnOk n f at' && ib (gnL n f at' 11) 0 1 && ib (gnL n f at' 12) 0 1 && okP (rawP n f at')
def gpP (n : Nat) (f : Nat → Int) (at' : Int) : Pc := if gpOk n f at' = true then rawP n f at' else zeroP
def gpX (n : Nat) (f : Nat → Int) (at' : Int) : Int := if gpOk n f at' = true then at' + 52 else 0
theorem results_row2 {P : Program} {fn : Func} {p u v : Tmp} {ty : TypeId} (h : fn.results = #[.cell p ty, .tmp u, .tmp v]) (tmps : Array Value) (w : World) (g : Nat) (t : TypeId) (cs : Array Value) (fr : Nat × Nat) (d : TypeDesc)
    (hp : tmps.getD p undef = .pointer (some ⟨g, 0, none⟩)) (hg : w.heap[g]? = some (.cells cs t fr))
    (hu : P.underlying ty = some d) (hd : (match d with | .struct _ | .array _ _ => true | _ => false) = true) (hi : (P.info? ty).map (·.size) = some cs.size) :
    (results fn tmps).run P w = .ok (.tuple #[.agg cs, tmps.getD u undef, tmps.getD v undef]) w := by
  have hp' : tmps[p]?.getD undef = .pointer (some ⟨g, 0, none⟩) := by simpa using hp
  simp [results, h, hp', asAddr, run_loadVar_row w g t ty cs fr d hg hu hd hi]
theorem gp_bad {n : Nat} {f : Nat → Int} {at' : Int} (h : gpOk n f at' = false) : Ending.returned (.tuple #[(.agg #[.int .i64 zeroP.id, .int .i64 zeroP.ow, .int .i64 zeroP.si, .int .i64 zeroP.zo, .int .i64 zeroP.st, .int .i64 zeroP.po, .int .i64 zeroP.to, .int .i64 zeroP.tr, .int .i64 zeroP.pl, .int .i64 zeroP.mi, .int .i64 zeroP.ma, .bool zeroP.de, .bool zeroP.be]), .int .i64 0, .bool false]) = .returned (.tuple #[(.agg #[.int .i64 (gpP n f at').id, .int .i64 (gpP n f at').ow, .int .i64 (gpP n f at').si, .int .i64 (gpP n f at').zo, .int .i64 (gpP n f at').st, .int .i64 (gpP n f at').po, .int .i64 (gpP n f at').to, .int .i64 (gpP n f at').tr, .int .i64 (gpP n f at').pl, .int .i64 (gpP n f at').mi, .int .i64 (gpP n f at').ma, .bool (gpP n f at').de, .bool (gpP n f at').be]), .int .i64 (gpX n f at'), .bool (gpOk n f at')]) := by
  unfold gpP gpX
  rw [h]
  rfl
theorem gp_good {n : Nat} {f : Nat → Int} {at' : Int} (h : gpOk n f at' = true) : Ending.returned (.tuple #[(.agg #[.int .i64 (rawP n f at').id, .int .i64 (rawP n f at').ow, .int .i64 (rawP n f at').si, .int .i64 (rawP n f at').zo, .int .i64 (rawP n f at').st, .int .i64 (rawP n f at').po, .int .i64 (rawP n f at').to, .int .i64 (rawP n f at').tr, .int .i64 (rawP n f at').pl, .int .i64 (rawP n f at').mi, .int .i64 (rawP n f at').ma, .bool (rawP n f at').de, .bool (rawP n f at').be]), .int .i64 (at' + 52), .bool true]) = .returned (.tuple #[(.agg #[.int .i64 (gpP n f at').id, .int .i64 (gpP n f at').ow, .int .i64 (gpP n f at').si, .int .i64 (gpP n f at').zo, .int .i64 (gpP n f at').st, .int .i64 (gpP n f at').po, .int .i64 (gpP n f at').to, .int .i64 (gpP n f at').tr, .int .i64 (gpP n f at').pl, .int .i64 (gpP n f at').mi, .int .i64 (gpP n f at').ma, .bool (gpP n f at').de, .bool (gpP n f at').be]), .int .i64 (gpX n f at'), .bool (gpOk n f at')]) := by
  unfold gpP gpX
  rw [h]
  rfl
end Go.Proofs.YtodfdfncdoliiadGreat
namespace Go.Proofs.YtodfdfncdoliiadGreat
open Go.ChangeShapes Go.WideShapes Go.ChangeAt Go.RowKit
set_option maxRecDepth 100000
set_option linter.unusedVariables false
section
variable {w w' : World} {B m n : Nat} {e : TypeId} {v : Value} {xs : List Value}
theorem row_same (h : w.ownsRow B e m v n xs) (hs : ∀ q, v.ownBlock = some q → w'.heap[q]? = w.heap[q]?) : w'.ownsRow B e m v n xs := by
  refine ⟨h.1, ?_⟩
  rcases h.2 with h' | ⟨g, cap, cur, rfl, h1, h2, h3⟩
  · exact .inl h'
  · exact .inr ⟨g, cap, cur, rfl, h1, (hs g rfl).trans h2, h3⟩
theorem row_grewE (h : w.ownsRow B e m v n xs) (hb : Below w.heap.size w w') : w'.ownsRow B e m v n xs := row_same h (fun q hq => hb.block q (h.lt q hq).2)
theorem own_ne {g t : Nat} {cs : Array Value} (h : w.ownsRow B e m v n xs) (hb : BoxR w g t cs) (ht : t ≠ e) : some g ≠ v.ownBlock := by
  intro he
  rcases h.2 with ⟨rfl, _⟩ | ⟨g', cap, cur, rfl, h1, h2, h3⟩
  · simp [Value.ownBlock] at he
  · simp only [Value.ownBlock, Option.some.injEq] at he
    subst he
    rw [hb] at h2
    simp only [Option.some.injEq, Obj.cells.injEq] at h2
    exact ht h2.2.1
theorem row_set {g j : Nat} (h : w.ownsRow B e m v n xs) (hne : some g ≠ v.ownBlock) (u : Value) : (w.setCell ⟨g, j, none⟩ u).ownsRow B e m v n xs :=
  row_same h (fun q hq => Below.heap_setCell w _ u q (fun he => hne (by rw [hq]; exact congrArg some he.symm)))
theorem row_only {p : Nat} (h : w.ownsRow B e m v n xs) (ho : Only p w w') (hne : some p ≠ v.ownBlock) : w'.ownsRow B e m v n xs :=
  row_same h (fun q hq => ho.block q (h.lt q hq).2 (fun he => hne (by rw [hq, he])))
theorem row_setRow' {g : Nat} (h : w.ownsRow B e m v n xs) (hne : some g ≠ v.ownBlock) (cs : Array Value) : (w.setRow g cs).ownsRow B e m v n xs :=
  row_same h (fun q hq => by
    unfold World.setRow
    simp only [Array.getElem?_modify]
    rw [if_neg (fun he => hne (by rw [hq, he]))])
theorem row_form (h : w.ownsRow B e m v n xs) : ∃ a cap, v = .slice a n cap ∧ n ≤ cap ∧ cap ≤ maxLen := by
  rcases h.2 with ⟨rfl, rfl⟩ | ⟨g, cap, cur, rfl, h1, h2, h3, h4, _⟩
  · exact ⟨none, 0, rfl, Nat.le_refl _, Nat.zero_le _⟩
  · exact ⟨_, cap, rfl, h3, h4⟩
theorem row_two {v' : Value} {e' : TypeId} {m' n' B' : Nat} {xs' : List Value} (h : w.ownsRow B e m v n xs) (k : w.ownsRow B' e' m' v' n' xs') (ht : e ≠ e') {q : Nat} (hq : v.ownBlock = some q) : some q ≠ v'.ownBlock := by
  intro he
  rcases h.2 with ⟨rfl, _⟩ | ⟨g, cap, cur, rfl, h1, h2, h3⟩
  · simp [Value.ownBlock] at hq
  rcases k.2 with ⟨rfl, _⟩ | ⟨g', cap', cur', rfl, k1, k2, k3⟩
  · simp [Value.ownBlock] at he
  simp only [Value.ownBlock, Option.some.injEq] at hq he
  subst hq he
  rw [h2] at k2
  simp only [Option.some.injEq, Obj.cells.injEq] at k2
  exact ht k2.2.1
end
/-- a row as a function answers it -/
theorem row_ownZ {α : Type} {C : α → List Value} {w : World} {B m n : Nat} {e : TypeId} {a : Option Addr} {cap : Nat} {f : Nat → α} (hm : ∀ x, (C x).length = m) (h : w.ownsRow B e m (.slice a n cap) n (valsE C n f)) : ∃ q, OwnZ C m w B q a n f ∧ (n ≠ 0 → (Value.slice a n cap).ownBlock = some q) := by
  by_cases hn : n = 0
  · exact ⟨0, .inl hn, fun h => absurd hn h⟩
  · obtain ⟨g, cap', he, _, ho⟩ := own_ofE hm h (fun he => by simp at he; exact hn he.2.1)
    simp only [Value.slice.injEq, true_and] at he
    obtain ⟨rfl, rfl⟩ := he
    exact ⟨g, .inr ho, fun _ => rfl⟩
theorem results_rowC {P : Program} {fn : Func} {p u : Tmp} {ty : TypeId} (h : fn.results = #[.cell p ty, .tmp u]) (tmps : Array Value) (w : World) (g : Nat) (t : TypeId) (cs : Array Value) (fr : Nat × Nat) (d : TypeDesc)
    (hp : tmps.getD p undef = .pointer (some ⟨g, 0, none⟩)) (hg : w.heap[g]? = some (.cells cs t fr))
    (hu : P.underlying ty = some d) (hd : (match d with | .struct _ | .array _ _ => true | _ => false) = true) (hi : (P.info? ty).map (·.size) = some cs.size) :
    (results fn tmps).run P w = .ok (.tuple #[.agg cs, tmps.getD u undef]) w := by
  have hp' : tmps[p]?.getD undef = .pointer (some ⟨g, 0, none⟩) := by simpa using hp
  simp [results, h, hp', asAddr, run_loadVar_row w g t ty cs fr d hg hu hd hi]
end Go.Proofs.YtodfdfncdoliiadGreat
namespace Go.Proofs.YtodfdfncdoliiadGreat
open Go.ChangeShapes Go.WideShapes Go.ChangeAt Go.RowKit
set_option maxRecDepth 100000

theorem Code.only {w w' : World} {a : Option Addr} {len B p : Nat} (h : Code w a len B) (ho : Only p w w') (hB : B ≤ p) : Code w' a len B := h.below (ho.below hB h.2.1)

set_option maxRecDepth 100000 in
set_option maxHeartbeats 400000 in
theorem l1Below_any (p : Nat) (a : Option Addr) (len cap : Nat) (n : Int) (w : World) {B : Nat} (hc : Code w a len B) (hB : B ≤ p) (hcur : Cur w p a len cap) :
    Calls Tryz.prog 52 #[.pointer (some ⟨p, 0, none⟩), .int .i64 n] w fun e w' => ∃ x : Int, 0 ≤ x ∧ (0 < n → x < n) ∧ e = .returned (.int .i64 x) ∧ Only p w w' ∧ Cur w' p a len cap := by
  by_cases hn : n ≤ 0
  · go_enter Tryz.func52, Tryz.ntmps52
    go_wp2
    go_ret
    exact ⟨0, by omega, by omega, rfl, Only.refl _ _, hcur⟩
  · by_cases hm : n ≤ 256
    · go_enter Tryz.func52, Tryz.ntmps52
      go_wp2_with (go_at_call 104; refine (l1Byte_any p a len cap _ hc hB hcur).mono ?_; rintro e w' ⟨x, hx0, hx1, rfl, ho, hk⟩)
      go_ret
      exact ⟨_, Int.emod_nonneg _ (by omega), fun h => Int.emod_lt_of_pos _ h, rfl, ho, hk⟩
    · go_enter Tryz.func52, Tryz.ntmps52
      go_wp2_with fail
      refine (l1Byte_any p a len cap _ hc hB hcur).mono ?_
      rintro e w1 ⟨x, hx0, hx1, rfl, ho1, hk1⟩
      have hc1 := hc.only ho1 hB
      go_wp2_with fail
      refine (l1Byte_any p a len cap _ hc1 hB hk1).mono ?_
      rintro e w2 ⟨y, hy0, hy1, rfl, ho2, hk2⟩
      have hc2 := hc1.only ho2 hB
      go_wp2_with fail
      refine (l1Byte_any p a len cap _ hc2 hB hk2).mono ?_
      rintro e w3 ⟨z, hz0, hz1, rfl, ho3, hk3⟩
      go_wp2
      go_ret
      exact ⟨_, Int.emod_nonneg _ (by omega), fun h => Int.emod_lt_of_pos _ h, rfl, (ho1.trans ho2).trans ho3, hk3⟩

theorem l1Once_any (p : Nat) (a : Option Addr) (len cap : Nat) (n : Int) (w : World) {B : Nat} (hc : Code w a len B) (hB : B ≤ p) (hcur : Cur w p a len cap) :
    Calls Tryz.prog 50 #[.pointer (some ⟨p, 0, none⟩), .int .i64 n] w fun e w' => ∃ b : Bool, e = .returned (.bool b) ∧ Only p w w' ∧ Cur w' p a len cap := by
  go_enter Tryz.func50, Tryz.ntmps50
  go_wp2_with (go_at_call 52; refine (l1Below_any p a len cap _ _ hc hB hcur).mono ?_; rintro e w' ⟨x, hx0, hx1, rfl, ho, hk⟩)
  go_ret
  exact ⟨_, rfl, ho, hk⟩

set_option maxHeartbeats 400000 in
theorem l1Int_any (p : Nat) (a : Option Addr) (len cap : Nat) (q o n m : Nat) (f : Nat → Int) (w : World) {B : Nat} (hc : Code w a len B) (hB : B ≤ p) (hcur : Cur w p a len cap)
    (hq : q < w.heap.size) (hqp : q ≠ p) (hn : 0 < n) (hn' : n ≤ 9223372036854775807) (hf : ∀ i, i < n → w.cell? ⟨q, o + i, none⟩ = some (.int .i64 (f i))) :
    Calls Tryz.prog 94 #[.pointer (some ⟨p, 0, none⟩), .slice (some ⟨q, o, none⟩) n m] w fun e w' => ∃ i, i < n ∧ e = .returned (.int .i64 (f i)) ∧ Only p w w' ∧ Cur w' p a len cap := by
  go_enter Tryz.func94, Tryz.ntmps94
  go_wp2_with fail
  refine (l1Below_any p a len cap _ _ hc hB hcur).mono ?_
  rintro e w1 ⟨x, hx0, hx1, rfl, ho, hk⟩
  have hx2 := hx1 (by omega)
  have hcell : w1.cell? ⟨q, o + x.toNat, none⟩ = some (.int .i64 (f x.toNat)) := by
    rw [ho.cell (q := ⟨q, o + x.toNat, none⟩) hq hqp]
    exact hf _ (by omega)
  go_wp2
  go_ret
  exact ⟨x.toNat, by omega, rfl, ho, hk⟩
end Go.Proofs.YtodfdfncdoliiadGreat
namespace Go.Proofs.YtodfdfncdoliiadGreat
open Go.ChangeShapes Go.WideShapes Go.ChangeAt Go.RowKit
set_option maxRecDepth 100000

def inI64 (x : Int) : Prop := -9223372036854775808 ≤ x ∧ x ≤ 9223372036854775807
theorem cells_list (w : World) (l : List Int) (t : Nat) (i : Nat) (hi : i < l.length) : (w.alloc (.cells (l.map (Value.int .i64)).toArray t)).cell? ⟨w.heap.size, 0 + i, none⟩ = some (.int .i64 (l.getD i 0)) := by
  have e : (w.alloc (.cells (l.map (Value.int .i64)).toArray t)).heap[w.heap.size]? = some (.cells (l.map (Value.int .i64)).toArray t) := (MapKept.heap_alloc w _).1
  unfold World.cell?
  rw [e]
  simp [hi]

set_option maxHeartbeats 400000 in
theorem l1Int_new (p : Nat) (a : Option Addr) (len cap : Nat) (l : List Int) (t : Nat) (w : World) {B : Nat} (hc : Code w a len B) (hB : B ≤ p) (hcur : Cur w p a len cap) (hn : 0 < l.length) (hn' : l.length ≤ 9223372036854775807) :
    Calls Tryz.prog 94 #[.pointer (some ⟨p, 0, none⟩), .slice (some ⟨w.heap.size, 0, none⟩) l.length l.length] (w.alloc (.cells (l.map (Value.int .i64)).toArray t)) fun e w' => ∃ x, x ∈ l ∧ e = .returned (.int .i64 x) ∧ Only p w w' ∧ Cur w' p a len cap := by
  have ho := (Only.refl p w).alloc (.cells (l.map (Value.int .i64)).toArray t)
  have ho2 : Only w.heap.size w (w.alloc (.cells (l.map (Value.int .i64)).toArray t)) := (Only.refl _ w).alloc _
  refine (l1Int_any p a len cap w.heap.size 0 l.length l.length (fun i => l.getD i 0) _ (hc.only ho hB) hB (hcur.only ho2 (Nat.ne_of_lt hcur.1)) (by show w.heap.size < (w.heap.push _).size; simp) (Nat.ne_of_gt hcur.1) hn hn' (cells_list w l t)).mono ?_
  rintro e w' ⟨i, hi, rfl, h1, h2⟩
  exact ⟨l[i], List.getElem_mem hi, by simp [hi], ho.trans h1, h2⟩
theorem list_in (l : List Int) (h : l.all (fun x => decide (-9223372036854775808 ≤ x) && decide (x ≤ 9223372036854775807)) = true) (x : Int) (hx : x ∈ l) : inI64 x := by
  have := List.all_eq_true.1 h x hx
  simpa [inI64] using this

set_option maxHeartbeats 400000 in
theorem l1Odd_any (p : Nat) (a : Option Addr) (len cap : Nat) (w : World) {B : Nat} (hc : Code w a len B) (hB : B ≤ p) (hcur : Cur w p a len cap) :
    Calls Tryz.prog 139 #[.pointer (some ⟨p, 0, none⟩)] w fun e w' => ∃ x : Int, inI64 x ∧ e = .returned (.int .i64 x) ∧ Only p w w' ∧ Cur w' p a len cap := by
  go_enter Tryz.func139, Tryz.ntmps139
  go_wp2_with fail
  refine (l1Int_new p a len cap [-1, 0, 1, 2, 255, 256, 65535, 2147483647, 2147483648, 4294967295, 4294967296, -2147483648, 9223372036854775807, -9223372036854775808] 3 w hc hB hcur (by decide) (by decide)).mono ?_
  rintro e w' ⟨x, hx, rfl, ho, hk⟩
  go_wp2
  go_ret
  exact ⟨x, list_in _ (by decide) x hx, rfl, ho, hk⟩
set_option maxHeartbeats 400000 in
theorem l1Raw_any (p : Nat) (a : Option Addr) (len cap : Nat) (w : World) {B : Nat} (hc : Code w a len B) (hB : B ≤ p) (hcur : Cur w p a len cap) :
    Calls Tryz.prog 100 #[.pointer (some ⟨p, 0, none⟩)] w fun e w' => ∃ x : Int, inI64 x ∧ e = .returned (.int .i64 x) ∧ Only p w w' ∧ Cur w' p a len cap := by
  go_enter Tryz.func100, Tryz.ntmps100
  go_wp2_with fail
  refine (l1Once_any p a len cap _ _ hc hB hcur).mono ?_
  rintro e w1 ⟨b, rfl, ho, hk⟩
  have hc1 := hc.only ho hB
  cases b with
  | true =>
    go_wp2_with fail
    refine (l1Odd_any p a len cap _ hc1 hB hk).mono ?_
    rintro e w2 ⟨x, hx, rfl, ho2, hk2⟩
    go_wp2
    go_ret
    exact ⟨x, hx, rfl, ho.trans ho2, hk2⟩
  | false =>
    go_wp2_with fail
    refine (l1Int_new p a len cap [-2147483648, -2147483647, -3, -1, 0, 1, 3, 7, 2147483647, 2147483648] 3 w1 hc1 hB hk (by decide) (by decide)).mono ?_
    rintro e w2 ⟨x, hx, rfl, ho2, hk2⟩
    go_wp2
    go_ret
    exact ⟨x, list_in _ (by decide) x hx, rfl, ho.trans ho2, hk2⟩

end Go.Proofs.YtodfdfncdoliiadGreat
namespace Go.Proofs.YtodfdfncdoliiadGreat
open Go.ChangeShapes Go.WideShapes Go.ChangeAt Go.RowKit
set_option maxRecDepth 100000

def strOf (n : Nat) (f : Nat → Int) : ByteArray := strOfNums ((List.range n).map f)
theorem vals_map (n : Nat) (f : Nat → Int) : vals .u8 n f = ((List.range n).map f).map (Value.int .u8) := by
  unfold vals; rw [List.map_map]; rfl
theorem conv_str (w : World) (src dst e : TypeId) (hs : Tryz.prog.underlying src = some (.slice e)) (he : Tryz.prog.underlying e = some (.int .u8)) (hd : Tryz.prog.underlying dst = some .string) (b : Nat) (ad : Addr) (n c : Nat) (f : Nat → Int) (h : Rd .u8 w b (some ad) n f) :
    (convert src dst (.slice (some ad) n c)).run Tryz.prog w = .ok (.string (strOf n f)) w := by
  have hl : (loadCells ad n).run Tryz.prog w = .ok (((List.range n).map f).map (Value.int .u8)).toArray w := by
    have := run_loadCells_list (P := Tryz.prog) w ad (vals .u8 n f) h.news
    rw [vals_len, vals_map] at this
    exact this
  rw [run_convert_bytes_string w src dst e _ n c hs he hd, run_bytesToString w _ n c _ hl, foldl_push_bytes]
  simp [strOf, strOfNums, ByteArray.empty, ByteArray.emptyWithCapacity]
  rfl
theorem Rd.first {k : IntKind} {w : World} {b : Nat} {a : Option Addr} {n m : Nat} {f : Nat → Int} (h : Rd k w b a n f) (hm : m ≤ n) : Rd k w b a m f := by
  rcases h with h | ⟨off, ha, hc⟩
  · exact .inl (by omega)
  · exact .inr ⟨off, ha, fun i hi => hc i (by omega)⟩
theorem Rd.off {k : IntKind} {w : World} {b off : Nat} {n i m : Nat} {f : Nat → Int} (h : Rd k w b (some ⟨b, off, none⟩) n f) (hm : i + m ≤ n) : Rd k w b (some ⟨b, off + i, none⟩) m (fun j => f (i + j)) := by
  by_cases h0 : m = 0
  · exact .inl h0
  rcases h with h | ⟨off', ha, hc⟩
  · omega
  · simp only [Option.some.injEq, Addr.mk.injEq, and_true, true_and] at ha
    subst ha
    exact .inr ⟨off + i, rfl, fun j hj => by rw [Nat.add_assoc]; exact hc (i + j) (by omega)⟩
theorem Only.grown {p : Nat} {a w w' : World} {row : Option Nat} (h : Only p a w) (hg : w.grownBy w' row) (hr : ∀ k, row = some k → a.heap.size ≤ k) : Only p a w' :=
  ⟨hg.os.trans h.os, hg.tape.trans h.tape, hg.output.trans h.output, Nat.le_trans h.size hg.size, fun k hk hp => (hg.block k (Nat.lt_of_lt_of_le hk h.size) (fun e => by have := hr k e.symm; omega)).trans (h.block k hk hp)⟩
theorem owns_only {w w' : World} {p B : Nat} {e : TypeId} {v : Value} {n : Nat} {xs : List Value} (h : w.ownsRow B e 1 v n xs) (ho : Only p w w') (hp : p < B) : w'.ownsRow B e 1 v n xs :=
  h.kept (row := some p) ⟨ho.os, ho.tape, ho.output, ho.size, fun k hk hne => ho.block k hk (fun e => hne (by rw [e]))⟩ (by
    cases hv : v.ownBlock with
    | none => exact .inl rfl
    | some k => have := (h.lt k hv).1; exact .inr (by simp; omega))
theorem Only.kept {p : Nat} {w w' : World} (h : Below w.heap.size w w') : Only p w w' := ⟨h.os, h.tape, h.output, h.size, fun k hk _ => h.block k hk⟩
theorem Cur.same {w w' : World} {p : Nat} {a : Option Addr} {len cap : Nat} (hcur : Cur w p a len cap) (e : w'.heap[p]? = w.heap[p]?) (hs : w.heap.size ≤ w'.heap.size) : Cur w' p a len cap := by
  obtain ⟨hp, c0, ⟨i, hi, c1⟩, ⟨x, c2⟩, hfz⟩ := hcur
  exact ⟨Nat.lt_of_lt_of_le hp hs, (World.cell?_of_block (w := w) (a := ⟨p, 0, none⟩) e).trans c0, ⟨i, hi, (World.cell?_of_block (w := w) (a := ⟨p, 1, none⟩) e).trans c1⟩, ⟨x, (World.cell?_of_block (w := w) (a := ⟨p, 2, none⟩) e).trans c2⟩, fun j => (World.frozen?_of_block (w := w) (a := ⟨p, j, none⟩) e).trans (hfz j)⟩

end Go.Proofs.YtodfdfncdoliiadGreat
