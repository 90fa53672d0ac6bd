/-
  Chapter 6: the program's things behind their interface: thingOf, event, thingOk, rightThing, EventOk. Written by tools/ev.gen.py. Own work.
-/
import Derived.Test.YthemmhocnkpcjatEvA
import Derived.Test.YthemmhocnkpcjatPieceI1
namespace Go.Proofs.Ythemmhocnkpcjat
open Go.ChangeShapes Go.WideShapes Go.ChangeAt Go.RowKit
set_option maxRecDepth 100000
set_option linter.unusedVariables false
set_option linter.unusedSimpArgs false

theorem run_as_yes {P : Program} {t xT : TypeId} {fs : Array Field} (hu : P.underlying t = some (.struct fs)) (v : Value) (w : World) : (Instr.typeAssert (.iface t v) xT t true).run P w = .ok (.tuple #[v, .bool true]) w := by
  simp [Instr.typeAssert, run_underlying hu]
theorem run_as_no {P : Program} {t u xT : TypeId} {fs : Array Field} {z : Value} (hu : P.underlying u = some (.struct fs)) (hz : (P.info? u).map (·.zero) = some (some z)) (hne : t ≠ u) (v : Value) (w : World) : (Instr.typeAssert (.iface t v) xT u true).run P w = .ok (.tuple #[z, .bool false]) w := by
  obtain ⟨j, hj, hz'⟩ := Option.map_eq_some_iff.1 hz
  simp [Instr.typeAssert, run_underlying hu, hne, zeroValue, typeInfo, hj, hz']
/-- whether a piece may go where it goes -/
def enE (z n : Int) (b : Bool) : Bool := if z = 2 then ib n 0 99 else ib z 1 4 && decide (n = 0) && !b
end Go.Proofs.Ythemmhocnkpcjat
