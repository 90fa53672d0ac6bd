/-
  Chapter 4: the specification's PieceOk: one walk for each test that may be the first to fail. Written by tools/piece.gen.py. Own work.
-/
import Derived.Test.YtodfdfncdoliiadGRow3
namespace Go.Proofs.Ytodfdfncdoliiad
open Go.ChangeShapes Go.WideShapes Go.ChangeAt Go.RowKit
set_option maxRecDepth 100000

end Go.Proofs.Ytodfdfncdoliiad
