/-
  The laws' own helpers over states: eqSide, eqPieceS, eqSideS, szState, toState, eqState. Written by tools/state4.gen.py. Own work.
-/
import Derived.Test.YtodfdfncdoliiatState3
import Derived.Test.YtodfdfncdoliiatRegBelow
import Derived.Test.YtodfdfncdoliiatPiece3
namespace Go.Proofs.Ytodfdfncdoliiat
open Go.ChangeShapes Go.WideShapes Go.ChangeAt Go.RowKit
set_option maxRecDepth 100000
/-- how much is left: the laws' own measure -/
def szN (n : Nat) (x : Int) : Int := if x - n < 0 then -1 else x - n
end Go.Proofs.Ytodfdfncdoliiat
