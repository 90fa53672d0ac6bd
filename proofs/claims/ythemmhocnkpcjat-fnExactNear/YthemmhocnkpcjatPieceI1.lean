/-
  Chapter 4: the program's between, Moved, asPrinted, SamePiece, HasTrait, withCounters, PowerOf, ToughOf, flagNum. Own work.
-/
import Derived.Test.YthemmhocnkpcjatPiece3
import Derived.Test.YthemmhocnkpcjatRegBelow
namespace Go.Proofs.Ythemmhocnkpcjat
open Go.ChangeShapes Go.WideShapes Go.ChangeAt Go.RowKit
set_option maxRecDepth 100000

end Go.Proofs.Ythemmhocnkpcjat
