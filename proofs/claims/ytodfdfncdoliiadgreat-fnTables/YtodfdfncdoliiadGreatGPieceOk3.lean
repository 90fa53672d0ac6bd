/-
  Chapter 4: the specification's PieceOk: one walk for each test that may be the first to fail. Written by tools/piece.gen.py. eqState; the specification's l5Side, StateOk. Written by tools/state6.gen.py. Whether marks are held: rows of pieces, of sides, states; states as a function answers them (OwnT, StPost). Written by tools/stheld.gen.py. Own work.
-/
import Derived.Test.YtodfdfncdoliiadGreatGCur5
import Derived.Test.YtodfdfncdoliiadGreatGState52
namespace Go.Proofs.YtodfdfncdoliiadGreat
open Go.ChangeShapes Go.WideShapes Go.ChangeAt Go.RowKit
set_option maxRecDepth 100000

end Go.Proofs.YtodfdfncdoliiadGreat
namespace Go.Proofs.YtodfdfncdoliiadGreat
open Go.ChangeShapes Go.WideShapes Go.ChangeAt Go.RowKit
set_option maxRecDepth 100000
set_option linter.unusedVariables false
def okSd (s : Sd) : Bool := ib s.li (-2147483647) 2147483647 && ib s.po 0 2147483647
/-- whether the piece at place i is as chapter 5 wants it -/
def pAt (s : Stt) (i : Nat) : Bool := okP (s.ps i) && (decide (i = 0) || decide ((s.ps (i - 1)).id < (s.ps i).id)) && decide ((s.ps i).ow < s.sn) && decide ((s.ps i).si < s.sn) && decide ((s.ps i).st ≤ s.cl)
def hdS (s : Stt) : Bool := decide (s.pn ≤ 8) && ib s.sn 2 3 && ib s.ac 0 (s.sn - 1) && ib s.cl 0 9999
def psS (s : Stt) : Bool := (List.range s.pn).all (pAt s)
def ssS (s : Stt) : Bool := (List.range s.sn).all (fun i => okSd (s.ss i))
/-- whether a state is as chapter 5 wants it -/
def okS (s : Stt) : Bool := hdS s && psS s && ssS s
theorem all_no {n k : Nat} {f : Nat → Bool} (hk : k < n) (h : f k = false) : (List.range n).all f = false := by rw [List.all_eq_false]; exact ⟨k, List.mem_range.2 hk, by simp [h]⟩
theorem all_yes {n : Nat} {f : Nat → Bool} (h : ∀ k, k < n → f k = true) : (List.range n).all f = true := by rw [List.all_eq_true]; exact fun k hk => h k (List.mem_range.1 hk)

theorem okS_hd {s : Stt} (h : hdS s = false) : okS s = false := by unfold okS; rw [h]; rfl
end Go.Proofs.YtodfdfncdoliiadGreat
namespace Go.Proofs.YtodfdfncdoliiadGreat
open Go.ChangeShapes Go.WideShapes Go.ChangeAt Go.RowKit
set_option maxRecDepth 100000
set_option linter.unusedVariables false
/-- a row that a function answered: empty, or of its own -/
def OwnZ {α : Type} (C : α → List Value) (m : Nat) (w : World) (B b : Nat) (a : Option Addr) (n : Nat) (f : Nat → α) : Prop := n = 0 ∨ OwnE C m w B b a n f
section
variable {α : Type} {C : α → List Value} {m : Nat} {w w' : World} {B b : Nat} {a : Option Addr} {n : Nat} {f g : Nat → α}
theorem OwnZ.rd (h : OwnZ C m w B b a n f) : RdE C m w b a n f := by
  rcases h with h | h
  · exact .inl h
  · exact h.rd
theorem OwnZ.grew (h : OwnZ C m w B b a n f) (hb : Below w.heap.size w w') : OwnZ C m w' B b a n f := h.imp id (fun h => h.grew hb)
theorem OwnZ.same (h : OwnZ C m w B b a n f) (e : n ≠ 0 → w'.heap[b]? = w.heap[b]?) (hs : w.heap.size ≤ w'.heap.size) : OwnZ C m w' B b a n f := by
  rcases h with h | h
  · exact .inl h
  · by_cases hn : n = 0
    · exact .inl hn
    · exact .inr (h.same (e hn) hs)
theorem OwnZ.down {B' : Nat} (h : OwnZ C m w B b a n f) (hB : B' ≤ B) : OwnZ C m w B' b a n f := h.imp id (fun h => ⟨Nat.le_trans hB h.1, h.2⟩)
end
/-- of what was there nothing but these two blocks has turned, each where it is said -/
structure Only2 (p q : Nat) (x y : Bool) (w w' : World) : Prop where
  size : w.heap.size ≤ w'.heap.size
  block : ∀ k, k < w.heap.size → (x = true → k ≠ p) → (y = true → k ≠ q) → w'.heap[k]? = w.heap[k]?
  os : w'.os = w.os
  tape : w'.tape = w.tape
  output : w'.output = w.output
theorem Only2.below {p q : Nat} {x y : Bool} {B : Nat} {w w' : World} (h : Only2 p q x y w w') (hs : B ≤ w.heap.size) (hp : x = true → B ≤ p) (hq : y = true → B ≤ q) : Below B w w' :=
  ⟨h.os, h.tape, h.output, h.size, fun k hk => h.block k (by omega) (fun e => by have := hp e; omega) (fun e => by have := hq e; omega)⟩
/-- a state's rows are a function's own -/
structure OwnT (w : World) (B : Nat) (t : Stt) : Prop where
  p : OwnZ pcC 13 w B t.pb t.pa t.pn t.ps
  s : OwnZ sdC 3 w B t.sb t.sa t.sn t.ss
  ne : t.pn ≠ 0 → t.sn ≠ 0 → t.pb ≠ t.sb
  pc : t.pn ≤ t.pcap
  pm : t.pcap ≤ maxLen
  sc : t.sn ≤ t.scap
  sm : t.scap ≤ maxLen
theorem OwnT.grew {w w' : World} {B : Nat} {t : Stt} (h : OwnT w B t) (hb : Below w.heap.size w w') : OwnT w' B t := ⟨h.p.grew hb, h.s.grew hb, h.ne, h.pc, h.pm, h.sc, h.sm⟩
theorem OwnT.down {w : World} {B B' : Nat} {t : Stt} (h : OwnT w B t) (hB : B' ≤ B) : OwnT w B' t := ⟨h.p.down hB, h.s.down hB, h.ne, h.pc, h.pm, h.sc, h.sm⟩
def nz (n : Nat) : Bool := decide (n ≠ 0)
/-- where two marked blocks are not this state's, it stays -/
theorem OwnT.only2 {w w' : World} {B p q : Nat} {x y : Bool} {t : Stt} (h : OwnT w B t) (ho : Only2 p q x y w w') (h1 : t.pn ≠ 0 → (x = true → t.pb ≠ p) ∧ (y = true → t.pb ≠ q)) (h2 : t.sn ≠ 0 → (x = true → t.sb ≠ p) ∧ (y = true → t.sb ≠ q)) : OwnT w' B t := by
  refine ⟨h.p.same (fun hn => ?_) ho.size, h.s.same (fun hn => ?_) ho.size, h.ne, h.pc, h.pm, h.sc, h.sm⟩
  · rcases h.p with e | e
    · exact absurd e hn
    · exact ho.block _ e.2.1 (h1 hn).1 (h1 hn).2
  · rcases h.s with e | e
    · exact absurd e hn
    · exact ho.block _ e.2.1 (h2 hn).1 (h2 hn).2
/-- the state that is marked from number x on -/
def mkS (t : Stt) (x : Int) : Stt := { t with ps := fun i => mkP (x + 13 * i), ss := fun i => mkD (x + 13 * t.pn + 3 * i) }
theorem BoxR.only2 {w w' : World} {b t p q : Nat} {x y : Bool} {cs : Array Value} (h : BoxR w b t cs) (ho : Only2 p q x y w w') (h1 : x = true → b ≠ p) (h2 : y = true → b ≠ q) : BoxR w' b t cs := (ho.block b h.lt h1 h2).trans h
theorem OwnZ.lt {α : Type} {C : α → List Value} {m : Nat} {w : World} {B b : Nat} {a : Option Addr} {n : Nat} {f : Nat → α} (h : OwnZ C m w B b a n f) (hn : n ≠ 0) : B ≤ b ∧ b < w.heap.size := by
  rcases h with h | h
  · exact absurd h hn
  · exact ⟨h.1, h.2.1⟩
theorem nz_t {n : Nat} (h : nz n = true) : n ≠ 0 := of_decide_eq_true h
/-- a function's answer: a state of these pieces and sides, in memory of its own -/
def StPost (N : Nat) (F : Nat → Pc) (M : Nat) (G : Nat → Sd) (ac cl : Int) (w : World) (e : Ending) (w' : World) : Prop :=
  ∃ pa pcap pb sa scap sb, e = .returned (.agg #[.slice pa N pcap, .slice sa M scap, .int .i64 ac, .int .i64 cl]) ∧ Below w.heap.size w w' ∧ OwnT w' w.heap.size ⟨pa, N, pcap, pb, F, sa, M, scap, sb, G, ac, cl⟩
end Go.Proofs.YtodfdfncdoliiadGreat
