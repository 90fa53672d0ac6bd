/-
  Chapter 4: the specification's PieceOk: one walk for each test that may be the first to fail. Written by tools/piece.gen.py. Own work.
-/
import Derived.Test.YtdcgobngmdhmaatPiece2
namespace Go.Proofs.Ytdcgobngmdhmaat
open Go.ChangeShapes Go.WideShapes Go.ChangeAt Go.RowKit
set_option maxRecDepth 100000

end Go.Proofs.Ytdcgobngmdhmaat
