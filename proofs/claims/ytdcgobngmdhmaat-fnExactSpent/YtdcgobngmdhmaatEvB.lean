/-
  Chapter 6: the specification's EventOk, going on. Written by tools/ev.gen.py. Own work.
-/
import Derived.Test.YtdcgobngmdhmaatEvB1
import Derived.Test.YtdcgobngmdhmaatEvB2
namespace Go.Proofs.Ytdcgobngmdhmaat
open Go.ChangeShapes Go.WideShapes Go.ChangeAt Go.RowKit
set_option maxRecDepth 100000
set_option linter.unusedVariables false
set_option linter.unusedSimpArgs false

end Go.Proofs.Ytdcgobngmdhmaat
