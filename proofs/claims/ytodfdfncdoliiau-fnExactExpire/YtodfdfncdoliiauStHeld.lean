/-
  Whether marks are held: rows of pieces, of sides, states; states as a function answers them (OwnT, StPost). Written by tools/stheld.gen.py. Own work.
-/
import Derived.Test.YtodfdfncdoliiauStMark
import Derived.Test.YtodfdfncdoliiauGPieceOk2
namespace Go.Proofs.Ytodfdfncdoliiau
open Go.ChangeShapes Go.WideShapes Go.ChangeAt Go.RowKit
set_option maxRecDepth 100000
set_option linter.unusedVariables false
/-- a row that a function answered: empty, or of its own -/
def OwnZ {α : Type} (C : α → List Value) (m : Nat) (w : World) (B b : Nat) (a : Option Addr) (n : Nat) (f : Nat → α) : Prop := n = 0 ∨ OwnE C m w B b a n f
section
variable {α : Type} {C : α → List Value} {m : Nat} {w w' : World} {B b : Nat} {a : Option Addr} {n : Nat} {f g : Nat → α}
theorem OwnZ.rd (h : OwnZ C m w B b a n f) : RdE C m w b a n f := by
  rcases h with h | h
  · exact .inl h
  · exact h.rd
theorem OwnZ.grew (h : OwnZ C m w B b a n f) (hb : Below w.heap.size w w') : OwnZ C m w' B b a n f := h.imp id (fun h => h.grew hb)
theorem OwnZ.same (h : OwnZ C m w B b a n f) (e : n ≠ 0 → w'.heap[b]? = w.heap[b]?) (hs : w.heap.size ≤ w'.heap.size) : OwnZ C m w' B b a n f := by
  rcases h with h | h
  · exact .inl h
  · by_cases hn : n = 0
    · exact .inl hn
    · exact .inr (h.same (e hn) hs)
theorem OwnZ.down {B' : Nat} (h : OwnZ C m w B b a n f) (hB : B' ≤ B) : OwnZ C m w B' b a n f := h.imp id (fun h => ⟨Nat.le_trans hB h.1, h.2⟩)
end
/-- of what was there nothing but these two blocks has turned, each where it is said -/
structure Only2 (p q : Nat) (x y : Bool) (w w' : World) : Prop where
  size : w.heap.size ≤ w'.heap.size
  block : ∀ k, k < w.heap.size → (x = true → k ≠ p) → (y = true → k ≠ q) → w'.heap[k]? = w.heap[k]?
  os : w'.os = w.os
  tape : w'.tape = w.tape
  output : w'.output = w.output
theorem Only2.below {p q : Nat} {x y : Bool} {B : Nat} {w w' : World} (h : Only2 p q x y w w') (hs : B ≤ w.heap.size) (hp : x = true → B ≤ p) (hq : y = true → B ≤ q) : Below B w w' :=
  ⟨h.os, h.tape, h.output, h.size, fun k hk => h.block k (by omega) (fun e => by have := hp e; omega) (fun e => by have := hq e; omega)⟩
/-- a state's rows are a function's own -/
structure OwnT (w : World) (B : Nat) (t : Stt) : Prop where
  p : OwnZ pcC 13 w B t.pb t.pa t.pn t.ps
  s : OwnZ sdC 3 w B t.sb t.sa t.sn t.ss
  ne : t.pn ≠ 0 → t.sn ≠ 0 → t.pb ≠ t.sb
  pc : t.pn ≤ t.pcap
  pm : t.pcap ≤ maxLen
  sc : t.sn ≤ t.scap
  sm : t.scap ≤ maxLen
theorem OwnT.grew {w w' : World} {B : Nat} {t : Stt} (h : OwnT w B t) (hb : Below w.heap.size w w') : OwnT w' B t := ⟨h.p.grew hb, h.s.grew hb, h.ne, h.pc, h.pm, h.sc, h.sm⟩
theorem OwnT.down {w : World} {B B' : Nat} {t : Stt} (h : OwnT w B t) (hB : B' ≤ B) : OwnT w B' t := ⟨h.p.down hB, h.s.down hB, h.ne, h.pc, h.pm, h.sc, h.sm⟩
def nz (n : Nat) : Bool := decide (n ≠ 0)
/-- where two marked blocks are not this state's, it stays -/
theorem OwnT.only2 {w w' : World} {B p q : Nat} {x y : Bool} {t : Stt} (h : OwnT w B t) (ho : Only2 p q x y w w') (h1 : t.pn ≠ 0 → (x = true → t.pb ≠ p) ∧ (y = true → t.pb ≠ q)) (h2 : t.sn ≠ 0 → (x = true → t.sb ≠ p) ∧ (y = true → t.sb ≠ q)) : OwnT w' B t := by
  refine ⟨h.p.same (fun hn => ?_) ho.size, h.s.same (fun hn => ?_) ho.size, h.ne, h.pc, h.pm, h.sc, h.sm⟩
  · rcases h.p with e | e
    · exact absurd e hn
    · exact ho.block _ e.2.1 (h1 hn).1 (h1 hn).2
  · rcases h.s with e | e
    · exact absurd e hn
    · exact ho.block _ e.2.1 (h2 hn).1 (h2 hn).2
/-- the state that is marked from number x on -/
def mkS (t : Stt) (x : Int) : Stt := { t with ps := fun i => mkP (x + 13 * i), ss := fun i => mkD (x + 13 * t.pn + 3 * i) }
set_option maxHeartbeats 1000000 in
theorem markPieceS_z (a : Option Addr) (b n c : Nat) (k0 : Int) (f : Nat → Pc) (w : World) {B : Nat} (hn : n ≤ 1048577) (hk0 : 0 ≤ k0) (hk1 : k0 ≤ 140737488351232) (h : OwnZ pcC 13 w B b a n f) :
    Calls Try.prog 65 #[.slice a n c, .int .i64 k0] w fun e w' => e = .returned (.int .i64 (k0 + 13 * n)) ∧ Only2 b b (nz n) false w w' ∧ OwnZ pcC 13 w' B b a n (fun i => mkP (k0 + 13 * i)) := by
  by_cases h0 : n = 0
  · subst h0
    go_enter Try.func65, Try.ntmps65
    go_wp2
    go_loopw [1, 5] (fun m i wr => i = .int .i64 0 ∧ m = .int .i64 k0 ∧ wr = w) (fun _ i _ => 0)
    case atStart => exact ⟨rfl, rfl, rfl⟩
    case round =>
      obtain ⟨rfl, rfl, rfl⟩ := hrel
      go_wp2
      go_ret
      exact ⟨ret_int (by simp), ⟨Nat.le_refl _, fun _ _ _ _ => rfl, rfl, rfl, rfl⟩, .inl rfl⟩
  · rcases h with h | h
    · exact absurd h h0
    refine (markPieceS_any a b n c k0 f w hn hk0 hk1 h).mono ?_
    rintro e w' ⟨rfl, ho, hw⟩
    exact ⟨rfl, ⟨ho.size, fun k hk h1 _ => ho.block k hk (h1 (decide_eq_true h0)), ho.os, ho.tape, ho.output⟩, .inr hw⟩
set_option maxHeartbeats 1000000 in
theorem markSideS_z (a : Option Addr) (b n c : Nat) (k0 : Int) (f : Nat → Sd) (w : World) {B : Nat} (hn : n ≤ 1048577) (hk0 : 0 ≤ k0) (hk1 : k0 ≤ 140737488351232) (h : OwnZ sdC 3 w B b a n f) :
    Calls Try.prog 66 #[.slice a n c, .int .i64 k0] w fun e w' => e = .returned (.int .i64 (k0 + 3 * n)) ∧ Only2 b b (nz n) false w w' ∧ OwnZ sdC 3 w' B b a n (fun i => mkD (k0 + 3 * i)) := by
  by_cases h0 : n = 0
  · subst h0
    go_enter Try.func66, Try.ntmps66
    go_wp2
    go_loopw [1, 5] (fun m i wr => i = .int .i64 0 ∧ m = .int .i64 k0 ∧ wr = w) (fun _ i _ => 0)
    case atStart => exact ⟨rfl, rfl, rfl⟩
    case round =>
      obtain ⟨rfl, rfl, rfl⟩ := hrel
      go_wp2
      go_ret
      exact ⟨ret_int (by simp), ⟨Nat.le_refl _, fun _ _ _ _ => rfl, rfl, rfl, rfl⟩, .inl rfl⟩
  · rcases h with h | h
    · exact absurd h h0
    refine (markSideS_any a b n c k0 f w hn hk0 hk1 h).mono ?_
    rintro e w' ⟨rfl, ho, hw⟩
    exact ⟨rfl, ⟨ho.size, fun k hk h1 _ => ho.block k hk (h1 (decide_eq_true h0)), ho.os, ho.tape, ho.output⟩, .inr hw⟩
theorem BoxR.only2 {w w' : World} {b t p q : Nat} {x y : Bool} {cs : Array Value} (h : BoxR w b t cs) (ho : Only2 p q x y w w') (h1 : x = true → b ≠ p) (h2 : y = true → b ≠ q) : BoxR w' b t cs := (ho.block b h.lt h1 h2).trans h
theorem OwnZ.lt {α : Type} {C : α → List Value} {m : Nat} {w : World} {B b : Nat} {a : Option Addr} {n : Nat} {f : Nat → α} (h : OwnZ C m w B b a n f) (hn : n ≠ 0) : B ≤ b ∧ b < w.heap.size := by
  rcases h with h | h
  · exact absurd h hn
  · exact ⟨h.1, h.2.1⟩
theorem nz_t {n : Nat} (h : nz n = true) : n ≠ 0 := of_decide_eq_true h
set_option maxHeartbeats 1000000 in
theorem markState_any (t : Stt) (x : Int) (w : World) {B : Nat} (hx0 : 0 ≤ x) (hx1 : x ≤ 100000) (hn : t.pn ≤ 1048577) (hn2 : t.sn ≤ 1048577) (h : OwnT w B t) :
    Calls Try.prog 31 #[(.agg #[.slice t.pa t.pn t.pcap, .slice t.sa t.sn t.scap, .int .i64 t.ac, .int .i64 t.cl]), .int .i64 x] w fun e w' => e = .returned (.int .i64 (x + 13 * t.pn + 3 * t.sn)) ∧ Only2 t.pb t.sb (nz t.pn) (nz t.sn) w w' ∧ OwnT w' B (mkS t x) := by
  have hb0 := (Below.refl _ w).alloc (Nat.le_refl _) (.cells #[.slice t.pa t.pn t.pcap, .slice t.sa t.sn t.scap, .int .i64 t.ac, .int .i64 t.cl] 66)
  have x1 := boxR_new w 66 #[.slice t.pa t.pn t.pcap, .slice t.sa t.sn t.scap, .int .i64 t.ac, .int .i64 t.cl]
  have h1 := h.grew hb0
  generalize hW : w.alloc (.cells #[.slice t.pa t.pn t.pcap, .slice t.sa t.sn t.scap, .int .i64 t.ac, .int .i64 t.cl] 66) = W at hb0 x1 h1
  have c0 := x1.cell 0
  simp at c0
  go_enter Try.func31, Try.ntmps31
  go_wp2_with fail
  refine (markPieceS_z t.pa t.pb t.pn t.pcap x t.ps W hn hx0 (by omega) h1.p).mono ?_
  rintro e w1 ⟨rfl, ho1, hz1⟩
  have x2 := x1.only2 ho1 (fun e => by have := (h.p.lt (nz_t e)).2; omega) (fun e => by cases e)
  have hz2 : OwnZ sdC 3 w1 B t.sb t.sa t.sn t.ss := h1.s.same (fun hn => ho1.block _ (h1.s.lt hn).2 (fun e => (h.ne (nz_t e) hn).symm) (fun e => by cases e)) ho1.size
  have c1 := x2.cell 1
  simp at c1
  clear c0 hW
  obtain ⟨y, hy⟩ : ∃ y, x + 13 * (t.pn : Int) = y := ⟨_, rfl⟩
  have y0 : 0 ≤ y := by omega
  have y1 : y ≤ 140737488351232 := by omega
  rw [hy]
  go_wp2_with fail
  refine (markSideS_z t.sa t.sb t.sn t.scap y t.ss w1 hn2 y0 y1 hz2).mono ?_
  rintro e w2 ⟨rfl, ho2, hz3⟩
  clear c1
  go_wp2
  go_ret
  refine ⟨ret_int (by rw [hy]), ⟨Nat.le_trans hb0.size (Nat.le_trans ho1.size ho2.size), fun k hk k1 k2 => ?_, by rw [ho2.os, ho1.os, hb0.os], by rw [ho2.tape, ho1.tape, hb0.tape], by rw [ho2.output, ho1.output, hb0.output]⟩, ?_⟩
  · have kk := hb0.size
    rw [ho2.block k (by have := ho1.size; omega) k2 (fun e => by cases e), ho1.block k (by omega) k1 (fun e => by cases e), hb0.block k hk]
  · refine ⟨?_, by rw [← hy] at hz3; exact hz3, h.ne, h.pc, h.pm, h.sc, h.sm⟩
    exact hz1.same (fun hn => ho2.block _ (hz1.lt hn).2 (fun e => h.ne hn (nz_t e)) (fun e => by cases e)) ho2.size
/-- a function's answer: a state of these pieces and sides, in memory of its own -/
def StPost (N : Nat) (F : Nat → Pc) (M : Nat) (G : Nat → Sd) (ac cl : Int) (w : World) (e : Ending) (w' : World) : Prop :=
  ∃ pa pcap pb sa scap sb, e = .returned (.agg #[.slice pa N pcap, .slice sa M scap, .int .i64 ac, .int .i64 cl]) ∧ Below w.heap.size w w' ∧ OwnT w' w.heap.size ⟨pa, N, pcap, pb, F, sa, M, scap, sb, G, ac, cl⟩
theorem eqState_own (t u : Stt) (w : World) {B C : Nat} (hn : t.pn ≤ 1048577) (hn2 : t.sn ≤ 1048577) (h : OwnT w B t) (k : OwnT w C u) (e1 : u.pn = t.pn) (e2 : u.ps = t.ps) (e3 : u.sn = t.sn) (e4 : u.ss = t.ss) (e5 : u.ac = t.ac) (e6 : u.cl = t.cl) :
    Calls Try.prog 30 #[(.agg #[.slice t.pa t.pn t.pcap, .slice t.sa t.sn t.scap, .int .i64 t.ac, .int .i64 t.cl]), (.agg #[.slice u.pa u.pn u.pcap, .slice u.sa u.sn u.scap, .int .i64 u.ac, .int .i64 u.cl])] w fun e w' => e = .returned (.bool true) ∧ Below w.heap.size w w' := by
  have r1 := k.p.rd
  have r2 := k.s.rd
  rw [e1, e3, e5, e6]
  rw [e1, e2] at r1
  rw [e3, e4] at r2
  exact eqState_same t.pa u.pa t.sa u.sa t.pb u.pb t.pcap u.pcap t.sb u.sb t.scap u.scap t.pn t.sn t.ps t.ss t.ac t.cl w (by omega) (by omega) h.p.rd r1 h.s.rd r2
end Go.Proofs.Ytodfdfncdoliiau
