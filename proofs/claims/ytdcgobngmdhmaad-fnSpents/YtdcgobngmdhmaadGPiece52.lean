/-
  Chapter 4: the specification's GetPiece. Rows that grow by append and lie in a box: what stays of them. Own work.
-/
import Derived.Test.YtdcgobngmdhmaadGPiece43
import Derived.Test.YtdcgobngmdhmaadGStSame3
namespace Go.Proofs.Ytdcgobngmdhmaad
open Go.ChangeShapes Go.WideShapes Go.ChangeAt Go.RowKit
set_option maxRecDepth 100000

/-- the numbers from a place on -/
def gnL (n : Nat) (f : Nat → Int) (at' : Int) : Nat → Int := fun j => gnum n f (at' + 4 * (j : Int))
/-- whether thirteen numbers are there -/
def gnOk (n : Nat) (f : Nat → Int) (at' : Int) : Bool := (List.range 13).all (fun j => gok n f (at' + 4 * (j : Int)))
theorem gnOk_no {n : Nat} {f : Nat → Int} {at' : Int} {k : Nat} (hk : k < 13) (h : gok n f (at' + 4 * (k : Int)) = false) : gnOk n f at' = false := by
  unfold gnOk
  rw [List.all_eq_false]
  exact ⟨k, List.mem_range.2 hk, by simp [h]⟩
theorem gnOk_yes {n : Nat} {f : Nat → Int} {at' : Int} (h : ∀ k : Nat, k < 13 → gok n f (at' + 4 * (k : Int)) = true) : gnOk n f at' = true := by
  unfold gnOk
  rw [List.all_eq_true]
  exact fun k hk => h k (List.mem_range.1 hk)
def NumsPost (n : Nat) (f : Nat → Int) (at' : Int) (w : World) (e : Ending) (w' : World) : Prop :=
  Below w.heap.size w w' ∧ ((gnOk n f at' = true ∧ ∃ q cap, e = .returned (.tuple #[.slice (some ⟨q, 0, none⟩) 13 cap, .int .i64 (at' + 52), .bool true]) ∧ Own .i64 w' w.heap.size q (some ⟨q, 0, none⟩) 13 (gnL n f at')) ∨
    (gnOk n f at' = false ∧ ∃ q N cap, e = .returned (.tuple #[.slice (some ⟨q, 0, none⟩) N cap, .int .i64 0, .bool false])))
theorem row_grew' {W W' : World} {base : Nat} {e : TypeId} {v : Value} {n : Nat} {xs : List Value} (h : W.ownsRow base e 1 v n xs) (hb : Below W.heap.size W W') : W'.ownsRow base e 1 v n xs := by
  refine ⟨h.1, ?_⟩
  rcases h.2 with h' | ⟨g, cap, cur, rfl, h1, h2, h3⟩
  · exact .inl h'
  · exact .inr ⟨g, cap, cur, rfl, h1, (hb.block g (Array.getElem?_eq_some_iff.1 h2).1).trans h2, h3⟩
theorem gok_rng' {n : Nat} {f : Nat → Int} {at' : Int} (h : gok n f at' = true) : 0 ≤ at' ∧ at' ≤ (n : Int) - 4 := by
  unfold gok at h
  rw [Bool.and_eq_true, decide_eq_true_eq] at h
  exact h.1
/-- the piece that the numbers would be -/
def rawP (n : Nat) (f : Nat → Int) (at' : Int) : Pc := ⟨gnL n f at' 0, gnL n f at' 1, gnL n f at' 2, gnL n f at' 3, gnL n f at' 4, gnL n f at' 5, gnL n f at' 6, gnL n f at' 7, gnL n f at' 8, gnL n f at' 9, gnL n f at' 10, gnL n f at' 11 == 1, gnL n f at' 12 == 1⟩
def zeroP : Pc := ⟨0, 0, 0, 0, 0, 0, 0, 0, 0, 0, 0, false, false⟩
def gpOk (n : Nat) (f : Nat → Int) (at' : Int) : Bool := gnOk n f at' && ib (gnL n f at' 11) 0 1 && ib (gnL n f at' 12) 0 1 && okP (rawP n f at')
def gpP (n : Nat) (f : Nat → Int) (at' : Int) : Pc := if gpOk n f at' = true then rawP n f at' else zeroP
def gpX (n : Nat) (f : Nat → Int) (at' : Int) : Int := if gpOk n f at' = true then at' + 52 else 0
theorem results_row2 {P : Program} {fn : Func} {p u v : Tmp} {ty : TypeId} (h : fn.results = #[.cell p ty, .tmp u, .tmp v]) (tmps : Array Value) (w : World) (g : Nat) (t : TypeId) (cs : Array Value) (fr : Nat × Nat) (d : TypeDesc)
    (hp : tmps.getD p undef = .pointer (some ⟨g, 0, none⟩)) (hg : w.heap[g]? = some (.cells cs t fr))
    (hu : P.underlying ty = some d) (hd : (match d with | .struct _ | .array _ _ => true | _ => false) = true) (hi : (P.info? ty).map (·.size) = some cs.size) :
    (results fn tmps).run P w = .ok (.tuple #[.agg cs, tmps.getD u undef, tmps.getD v undef]) w := by
  have hp' : tmps[p]?.getD undef = .pointer (some ⟨g, 0, none⟩) := by simpa using hp
  simp [results, h, hp', asAddr, run_loadVar_row w g t ty cs fr d hg hu hd hi]
theorem gp_bad {n : Nat} {f : Nat → Int} {at' : Int} (h : gpOk n f at' = false) : Ending.returned (.tuple #[(.agg #[.int .i64 zeroP.id, .int .i64 zeroP.ow, .int .i64 zeroP.si, .int .i64 zeroP.zo, .int .i64 zeroP.st, .int .i64 zeroP.po, .int .i64 zeroP.to, .int .i64 zeroP.tr, .int .i64 zeroP.pl, .int .i64 zeroP.mi, .int .i64 zeroP.ma, .bool zeroP.de, .bool zeroP.be]), .int .i64 0, .bool false]) = .returned (.tuple #[(.agg #[.int .i64 (gpP n f at').id, .int .i64 (gpP n f at').ow, .int .i64 (gpP n f at').si, .int .i64 (gpP n f at').zo, .int .i64 (gpP n f at').st, .int .i64 (gpP n f at').po, .int .i64 (gpP n f at').to, .int .i64 (gpP n f at').tr, .int .i64 (gpP n f at').pl, .int .i64 (gpP n f at').mi, .int .i64 (gpP n f at').ma, .bool (gpP n f at').de, .bool (gpP n f at').be]), .int .i64 (gpX n f at'), .bool (gpOk n f at')]) := by
  unfold gpP gpX
  rw [h]
  rfl
theorem gp_good {n : Nat} {f : Nat → Int} {at' : Int} (h : gpOk n f at' = true) : Ending.returned (.tuple #[(.agg #[.int .i64 (rawP n f at').id, .int .i64 (rawP n f at').ow, .int .i64 (rawP n f at').si, .int .i64 (rawP n f at').zo, .int .i64 (rawP n f at').st, .int .i64 (rawP n f at').po, .int .i64 (rawP n f at').to, .int .i64 (rawP n f at').tr, .int .i64 (rawP n f at').pl, .int .i64 (rawP n f at').mi, .int .i64 (rawP n f at').ma, .bool (rawP n f at').de, .bool (rawP n f at').be]), .int .i64 (at' + 52), .bool true]) = .returned (.tuple #[(.agg #[.int .i64 (gpP n f at').id, .int .i64 (gpP n f at').ow, .int .i64 (gpP n f at').si, .int .i64 (gpP n f at').zo, .int .i64 (gpP n f at').st, .int .i64 (gpP n f at').po, .int .i64 (gpP n f at').to, .int .i64 (gpP n f at').tr, .int .i64 (gpP n f at').pl, .int .i64 (gpP n f at').mi, .int .i64 (gpP n f at').ma, .bool (gpP n f at').de, .bool (gpP n f at').be]), .int .i64 (gpX n f at'), .bool (gpOk n f at')]) := by
  unfold gpP gpX
  rw [h]
  rfl
end Go.Proofs.Ytdcgobngmdhmaad
namespace Go.Proofs.Ytdcgobngmdhmaad
open Go.ChangeShapes Go.WideShapes Go.ChangeAt Go.RowKit
set_option maxRecDepth 100000
set_option linter.unusedVariables false
section
variable {w w' : World} {B m n : Nat} {e : TypeId} {v : Value} {xs : List Value}
theorem row_same (h : w.ownsRow B e m v n xs) (hs : ∀ q, v.ownBlock = some q → w'.heap[q]? = w.heap[q]?) : w'.ownsRow B e m v n xs := by
  refine ⟨h.1, ?_⟩
  rcases h.2 with h' | ⟨g, cap, cur, rfl, h1, h2, h3⟩
  · exact .inl h'
  · exact .inr ⟨g, cap, cur, rfl, h1, (hs g rfl).trans h2, h3⟩
theorem row_grewE (h : w.ownsRow B e m v n xs) (hb : Below w.heap.size w w') : w'.ownsRow B e m v n xs := row_same h (fun q hq => hb.block q (h.lt q hq).2)
theorem own_ne {g t : Nat} {cs : Array Value} (h : w.ownsRow B e m v n xs) (hb : BoxR w g t cs) (ht : t ≠ e) : some g ≠ v.ownBlock := by
  intro he
  rcases h.2 with ⟨rfl, _⟩ | ⟨g', cap, cur, rfl, h1, h2, h3⟩
  · simp [Value.ownBlock] at he
  · simp only [Value.ownBlock, Option.some.injEq] at he
    subst he
    rw [hb] at h2
    simp only [Option.some.injEq, Obj.cells.injEq] at h2
    exact ht h2.2.1
theorem row_set {g j : Nat} (h : w.ownsRow B e m v n xs) (hne : some g ≠ v.ownBlock) (u : Value) : (w.setCell ⟨g, j, none⟩ u).ownsRow B e m v n xs :=
  row_same h (fun q hq => Below.heap_setCell w _ u q (fun he => hne (by rw [hq]; exact congrArg some he.symm)))
theorem row_only {p : Nat} (h : w.ownsRow B e m v n xs) (ho : Only p w w') (hne : some p ≠ v.ownBlock) : w'.ownsRow B e m v n xs :=
  row_same h (fun q hq => ho.block q (h.lt q hq).2 (fun he => hne (by rw [hq, he])))
theorem row_setRow' {g : Nat} (h : w.ownsRow B e m v n xs) (hne : some g ≠ v.ownBlock) (cs : Array Value) : (w.setRow g cs).ownsRow B e m v n xs :=
  row_same h (fun q hq => by
    unfold World.setRow
    simp only [Array.getElem?_modify]
    rw [if_neg (fun he => hne (by rw [hq, he]))])
theorem row_form (h : w.ownsRow B e m v n xs) : ∃ a cap, v = .slice a n cap ∧ n ≤ cap ∧ cap ≤ maxLen := by
  rcases h.2 with ⟨rfl, rfl⟩ | ⟨g, cap, cur, rfl, h1, h2, h3, h4, _⟩
  · exact ⟨none, 0, rfl, Nat.le_refl _, Nat.zero_le _⟩
  · exact ⟨_, cap, rfl, h3, h4⟩
theorem row_two {v' : Value} {e' : TypeId} {m' n' B' : Nat} {xs' : List Value} (h : w.ownsRow B e m v n xs) (k : w.ownsRow B' e' m' v' n' xs') (ht : e ≠ e') {q : Nat} (hq : v.ownBlock = some q) : some q ≠ v'.ownBlock := by
  intro he
  rcases h.2 with ⟨rfl, _⟩ | ⟨g, cap, cur, rfl, h1, h2, h3⟩
  · simp [Value.ownBlock] at hq
  rcases k.2 with ⟨rfl, _⟩ | ⟨g', cap', cur', rfl, k1, k2, k3⟩
  · simp [Value.ownBlock] at he
  simp only [Value.ownBlock, Option.some.injEq] at hq he
  subst hq he
  rw [h2] at k2
  simp only [Option.some.injEq, Obj.cells.injEq] at k2
  exact ht k2.2.1
end
/-- a row as a function answers it -/
theorem row_ownZ {α : Type} {C : α → List Value} {w : World} {B m n : Nat} {e : TypeId} {a : Option Addr} {cap : Nat} {f : Nat → α} (hm : ∀ x, (C x).length = m) (h : w.ownsRow B e m (.slice a n cap) n (valsE C n f)) : ∃ q, OwnZ C m w B q a n f ∧ (n ≠ 0 → (Value.slice a n cap).ownBlock = some q) := by
  by_cases hn : n = 0
  · exact ⟨0, .inl hn, fun h => absurd hn h⟩
  · obtain ⟨g, cap', he, _, ho⟩ := own_ofE hm h (fun he => by simp at he; exact hn he.2.1)
    simp only [Value.slice.injEq, true_and] at he
    obtain ⟨rfl, rfl⟩ := he
    exact ⟨g, .inr ho, fun _ => rfl⟩
theorem results_rowC {P : Program} {fn : Func} {p u : Tmp} {ty : TypeId} (h : fn.results = #[.cell p ty, .tmp u]) (tmps : Array Value) (w : World) (g : Nat) (t : TypeId) (cs : Array Value) (fr : Nat × Nat) (d : TypeDesc)
    (hp : tmps.getD p undef = .pointer (some ⟨g, 0, none⟩)) (hg : w.heap[g]? = some (.cells cs t fr))
    (hu : P.underlying ty = some d) (hd : (match d with | .struct _ | .array _ _ => true | _ => false) = true) (hi : (P.info? ty).map (·.size) = some cs.size) :
    (results fn tmps).run P w = .ok (.tuple #[.agg cs, tmps.getD u undef]) w := by
  have hp' : tmps[p]?.getD undef = .pointer (some ⟨g, 0, none⟩) := by simpa using hp
  simp [results, h, hp', asAddr, run_loadVar_row w g t ty cs fr d hg hu hd hi]
end Go.Proofs.Ytdcgobngmdhmaad
