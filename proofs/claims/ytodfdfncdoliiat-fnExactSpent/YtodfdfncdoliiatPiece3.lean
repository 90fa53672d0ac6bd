/-
  Chapter 4: the specification's SamePiece, HasTrait, PowerOf, ToughOf, Moved. Own work.
-/
import Derived.Test.YtodfdfncdoliiatPiece2
import Derived.Test.YtodfdfncdoliiatNum
import Derived.Test.YtodfdfncdoliiatRowLaw
namespace Go.Proofs.Ytodfdfncdoliiat
open Go.ChangeShapes Go.WideShapes Go.ChangeAt Go.RowKit
set_option maxRecDepth 100000

/-- whether two pieces are the same in all their parts -/
def smP (p q : Pc) : Bool := decide (p.id = q.id) && decide (p.ow = q.ow) && decide (p.si = q.si) && decide (p.zo = q.zo) && decide (p.st = q.st) && decide (p.po = q.po) && decide (p.to = q.to) && decide (p.tr = q.tr) && decide (p.pl = q.pl) && decide (p.mi = q.mi) && decide (p.ma = q.ma) && (p.de == q.de) && (p.be == q.be)
/-- how strong it is, how tough -/
def pwP (p : Pc) : Int := ls (pl p.po p.pl) p.mi
def tgP (p : Pc) : Int := ls (pl p.to p.pl) p.mi
/-- it, elsewhere -/
def mvP (p : Pc) (z s : Int) : Pc := ⟨p.id, p.ow, p.ow, z, s, p.po, p.to, p.tr, 0, 0, 0, false, false⟩
/-- whether t is one of the traits -/
def isT (t : Int) : Bool := decide (t = 1) || decide (t = 2) || decide (t = 4) || decide (t = 8) || decide (t = 16) || decide (t = 32)
/-- whether t is among its traits -/
def htP (p : Pc) (t : Int) : Bool := isT t && (bits .and .i64 p.tr t != 0)
theorem htP_is {p : Pc} {t : Int} (h : isT t = true) : htP p t = (bits .and .i64 p.tr t != 0) := by unfold htP; rw [h]; rfl
theorem smP_self (p : Pc) : smP p p = true := by unfold smP; simp
end Go.Proofs.Ytodfdfncdoliiat
