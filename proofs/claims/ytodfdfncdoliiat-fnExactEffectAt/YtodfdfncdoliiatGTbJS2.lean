/-
  Chapter 11, the program: at lists of effects that are alike: SameTable. Written by tools/tab.gen.py. Chapter 7: the specification's Narrower (nrP). Written by tools/pa.gen.py. Own work.
-/
import Derived.Test.YtodfdfncdoliiatTaJ
import Derived.Test.YtodfdfncdoliiatTbG
import Derived.Test.YtodfdfncdoliiatGPaB2
namespace Go.Proofs.Ytodfdfncdoliiat
open Go.ChangeShapes Go.WideShapes Go.ChangeAt Go.RowKit
set_option maxRecDepth 100000
set_option linter.unusedVariables false
set_option linter.unusedSimpArgs false

theorem implSameTable_al {w0 w : World} {B B2 : Nat} {t a s c : Tb} (h : OwnTb w B t) (k : AlikeT t a) (h2 : OwnTb w B2 s) (k2 : AlikeT s c) (hs : a.ok w0) (hs2 : c.ok w0) (hl : ∀ i, i < a.n → (a.f i).ac.ln ≤ 1048576) (hl2 : ∀ i, i < c.n → (c.f i).ac.ln ≤ 1048576) : Calls Try.prog 24 #[.slice t.p t.n t.cap, .slice s.p s.n s.cap] w fun e w' => e = .returned (.bool (smTb a.n c.n a.f c.f)) ∧ Below w.heap.size w w' := by
  rw [← smTb_alike k.f k2.f, ← k.n, ← k2.n]; exact implSameTable_any t s w (okW_al h k hs hl) (okW_al h2 k2 hs2 hl2)
end Go.Proofs.Ytodfdfncdoliiat
namespace Go.Proofs.Ytodfdfncdoliiat
open Go.ChangeShapes Go.WideShapes Go.ChangeAt Go.RowKit
set_option maxRecDepth 100000
set_option linter.unusedVariables false
set_option linter.unusedSimpArgs false

/-- what is asked for behind the two tests: the kinds, the traits, how much at least -/
def nrA (p q : Pt) : Bool := decide (p.kd = q.kd) && decide (bits .and .i64 p.tr q.tr = q.tr) && decide (q.le ≤ p.le)
def orS (x y : Int) : Bool := decide (x = 0) || decide (x = y)
def nrB (p q : Pt) : Bool := orS q.wh p.wh && orS q.sr p.sr && orS q.pi p.pi && orS q.zo p.zo
/-- whether p asks for all that q asks for -/
def nrP (p q : Pt) : Bool := okPt p && okPt q && nrA p q && nrB p q
end Go.Proofs.Ytodfdfncdoliiat
