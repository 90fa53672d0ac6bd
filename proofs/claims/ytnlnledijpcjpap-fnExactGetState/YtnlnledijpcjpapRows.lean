/-
  No cell of these rows narrows 'for every input' (looked for: loops, veiled, ifaces, maps, wideKeys, modest, calm, conditions, laid).
  DERIVED. THE GIVEN ROWS OF THIS SEAT. 5 by the template 'for every input the law returns true; each argument reads behind the call as it read before'; 0 by the template 'total and deterministic' (their statements: YtnlnledijpcjpapTotals.lean).
  GIVEN WITH THE SEED: the statements are not yours to turn. If you find one false, say at which input.
  Laid BY PROGRAM, IN A SANDBOX (cutbox-rows.mjs): the forced cells as the released guide's own fill.sh prints them over the translation 88f0da72f17c7b95… (all of the seat's roots in one cut). By AI agents, Wed Nov 11 2026. No macro, syntax, notation, axiom, sorry.
-/
import Derived.Test.YtnlnledijpcjpapChecked
import GoSem.Claim
import GoSem.ClaimJoined
import GoSem.ClaimMapViews
import Derived.JoinedTies
import Derived.KernelRfl
namespace Go.Proofs.Ytnlnledijpcjpap
/- THE CELL 'sum', in the pinned program and in every row, IS THE sha256 OF THE DUMP (.gsa) THAT YtnlnledijpcjpapProg.lean LOADS. Nothing in Lean hashes anything: it is a label: what it is worth is what the hold of that sum in a sandbox is worth. -/
noncomputable def Try.pinned : Pinned := { name := "ytnlnledijpcjpap", sum := "88f0da72f17c7b95927fb5efbe9ddb75242d084414ddedd446bc54f9cd9eb389", checked := Try.checked }
namespace Rows
def none {H : Type} : Left H := { results := [], args := [] }

/-- 'laws.FnExactPutState': WHATEVER THE INPUT: true; the input reads as it did. -/
def fnExactPutStateSpec : ChangeSpec := { name := "fnExactPutState", fn := fun _ => fun
  | [d] => { results := [.lit (.bool true)], args := [d] }
  | _ => none }
def fnExactPutStateRow : OpenClaim := { program := "ytnlnledijpcjpap", sum := "88f0da72f17c7b95927fb5efbe9ddb75242d084414ddedd446bc54f9cd9eb389", func := "loop.example/g00486/laws.FnExactPutState", spec := "fnExactPutState", apart := false }
def FnExactPutStateSaid : Prop := fnExactPutStateRow.holds Try.pinned (OpenSpec.ofChange fnExactPutStateSpec)

/-- ITS FALSE NEIGHBOUR: 'it returns false'. Refute it at one input. -/
def fnExactPutStateWrong : ChangeSpec := { name := "fnExactPutState", fn := fun _ => fun
  | [d] => { results := [.lit (.bool false)], args := [d] }
  | _ => none }
def FnExactPutStateWrongFalsely : Prop := fnExactPutStateRow.holds Try.pinned (OpenSpec.ofChange fnExactPutStateWrong)

/-- 'laws.FnExactGetState': WHATEVER THE INPUT: true; the input reads as it did. -/
def fnExactGetStateSpec : ChangeSpec := { name := "fnExactGetState", fn := fun _ => fun
  | [d] => { results := [.lit (.bool true)], args := [d] }
  | _ => none }
def fnExactGetStateRow : OpenClaim := { program := "ytnlnledijpcjpap", sum := "88f0da72f17c7b95927fb5efbe9ddb75242d084414ddedd446bc54f9cd9eb389", func := "loop.example/g00486/laws.FnExactGetState", spec := "fnExactGetState", apart := false }
def FnExactGetStateSaid : Prop := fnExactGetStateRow.holds Try.pinned (OpenSpec.ofChange fnExactGetStateSpec)

/-- ITS FALSE NEIGHBOUR: 'it returns false'. Refute it at one input. -/
def fnExactGetStateWrong : ChangeSpec := { name := "fnExactGetState", fn := fun _ => fun
  | [d] => { results := [.lit (.bool false)], args := [d] }
  | _ => none }
def FnExactGetStateWrongFalsely : Prop := fnExactGetStateRow.holds Try.pinned (OpenSpec.ofChange fnExactGetStateWrong)

/-- 'laws.FnExactEventOk': WHATEVER THE INPUT: true; the input reads as it did. -/
def fnExactEventOkSpec : ChangeSpec := { name := "fnExactEventOk", fn := fun _ => fun
  | [d] => { results := [.lit (.bool true)], args := [d] }
  | _ => none }
def fnExactEventOkRow : OpenClaim := { program := "ytnlnledijpcjpap", sum := "88f0da72f17c7b95927fb5efbe9ddb75242d084414ddedd446bc54f9cd9eb389", func := "loop.example/g00486/laws.FnExactEventOk", spec := "fnExactEventOk", unfollowed := true, recurses := true, apart := false }
def FnExactEventOkSaid : Prop := fnExactEventOkRow.holds Try.pinned (OpenSpec.ofChange fnExactEventOkSpec)

/-- ITS FALSE NEIGHBOUR: 'it returns false'. Refute it at one input. -/
def fnExactEventOkWrong : ChangeSpec := { name := "fnExactEventOk", fn := fun _ => fun
  | [d] => { results := [.lit (.bool false)], args := [d] }
  | _ => none }
def FnExactEventOkWrongFalsely : Prop := fnExactEventOkRow.holds Try.pinned (OpenSpec.ofChange fnExactEventOkWrong)

/-- 'laws.FnExactSource': WHATEVER THE INPUT: true; the input reads as it did. -/
def fnExactSourceSpec : ChangeSpec := { name := "fnExactSource", fn := fun _ => fun
  | [d1, d2] => { results := [.lit (.bool true)], args := [d1, d2] }
  | _ => none }
def fnExactSourceRow : OpenClaim := { program := "ytnlnledijpcjpap", sum := "88f0da72f17c7b95927fb5efbe9ddb75242d084414ddedd446bc54f9cd9eb389", func := "loop.example/g00486/laws.FnExactSource", spec := "fnExactSource", unfollowed := true, recurses := true, apart := false }
def FnExactSourceSaid : Prop := fnExactSourceRow.holds Try.pinned (OpenSpec.ofChange fnExactSourceSpec)

/-- ITS FALSE NEIGHBOUR: 'it returns false'. Refute it at one input. -/
def fnExactSourceWrong : ChangeSpec := { name := "fnExactSource", fn := fun _ => fun
  | [d1, d2] => { results := [.lit (.bool false)], args := [d1, d2] }
  | _ => none }
def FnExactSourceWrongFalsely : Prop := fnExactSourceRow.holds Try.pinned (OpenSpec.ofChange fnExactSourceWrong)

/-- 'laws.FnExactWithN': WHATEVER THE INPUT: true; the input reads as it did. -/
def fnExactWithNSpec : ChangeSpec := { name := "fnExactWithN", fn := fun _ => fun
  | [d1, d2] => { results := [.lit (.bool true)], args := [d1, d2] }
  | _ => none }
def fnExactWithNRow : OpenClaim := { program := "ytnlnledijpcjpap", sum := "88f0da72f17c7b95927fb5efbe9ddb75242d084414ddedd446bc54f9cd9eb389", func := "loop.example/g00486/laws.FnExactWithN", spec := "fnExactWithN", apart := false }
def FnExactWithNSaid : Prop := fnExactWithNRow.holds Try.pinned (OpenSpec.ofChange fnExactWithNSpec)

/-- ITS FALSE NEIGHBOUR: 'it returns false'. Refute it at one input. -/
def fnExactWithNWrong : ChangeSpec := { name := "fnExactWithN", fn := fun _ => fun
  | [d1, d2] => { results := [.lit (.bool false)], args := [d1, d2] }
  | _ => none }
def FnExactWithNWrongFalsely : Prop := fnExactWithNRow.holds Try.pinned (OpenSpec.ofChange fnExactWithNWrong)

/- THE SECOND FORM. 'bulk': how many values and letters a reading holds, each counted each time it is reached (what is shared counts as often as it is met; a slice's spare places count too). A statement '..UptoSaid' is the law's where the arguments, and the package variables that the reading takes, are together of bulk at most 1048576: NARROWER than '..Said'. Prove '..Said' where nothing that the law and all that it calls make is longer than what came in: it says more and counts as full. Else prove '..UptoSaid'. A law counts once. -/
mutual
def uptoBulk {H : Type} : DataW H → Nat
  | .lit (.string bytes) => bytes.length + 1
  | .lit _ => 1
  | .nil => 1
  | .ptr d => uptoBulk d + 1
  | .slice elems spare => uptoBulkAll elems + uptoBulkAll spare + 1
  | .agg parts => uptoBulkAll parts + 1
  | .iface _ d => uptoBulk d + 1
  | .map entries => uptoBulkEntries entries + 1
  | .held _ => 1
def uptoBulkAll {H : Type} : List (DataW H) → Nat
  | [] => 0
  | d :: r => uptoBulk d + uptoBulkAll r
def uptoBulkEntries {H : Type} : List (Lit × DataW H) → Nat
  | [] => 0
  | x :: r => uptoBulkEntry x + uptoBulkEntries r
def uptoBulkEntry {H : Type} : Lit × DataW H → Nat
  | (.string bytes, d) => bytes.length + uptoBulk d + 1
  | (_, d) => uptoBulk d + 1
 end
def uptoSmall : (H : Type) → List (DataW H) → Bool := fun _ ds => decide (uptoBulkAll ds ≤ 1048576)
def OpenSpec.upto (s : _root_.Go.ChangeSpec) : _root_.Go.OpenSpec := { _root_.Go.OpenSpec.ofChange s with cond := some uptoSmall }

/-- 'laws.FnExactPutState', WHERE WHAT IT READS IS OF BULK AT MOST 1048576: true; the input reads as it did. -/
def fnExactPutStateUptoRow : OpenClaim := { program := "ytnlnledijpcjpap", sum := "88f0da72f17c7b95927fb5efbe9ddb75242d084414ddedd446bc54f9cd9eb389", func := "loop.example/g00486/laws.FnExactPutState", spec := "fnExactPutState", apart := false, narrowed := true }
def FnExactPutStateUptoSaid : Prop := fnExactPutStateUptoRow.holds Try.pinned (OpenSpec.upto fnExactPutStateSpec)

/-- 'laws.FnExactGetState', WHERE WHAT IT READS IS OF BULK AT MOST 1048576: true; the input reads as it did. -/
def fnExactGetStateUptoRow : OpenClaim := { program := "ytnlnledijpcjpap", sum := "88f0da72f17c7b95927fb5efbe9ddb75242d084414ddedd446bc54f9cd9eb389", func := "loop.example/g00486/laws.FnExactGetState", spec := "fnExactGetState", apart := false, narrowed := true }
def FnExactGetStateUptoSaid : Prop := fnExactGetStateUptoRow.holds Try.pinned (OpenSpec.upto fnExactGetStateSpec)

/-- 'laws.FnExactEventOk', WHERE WHAT IT READS IS OF BULK AT MOST 1048576: true; the input reads as it did. -/
def fnExactEventOkUptoRow : OpenClaim := { program := "ytnlnledijpcjpap", sum := "88f0da72f17c7b95927fb5efbe9ddb75242d084414ddedd446bc54f9cd9eb389", func := "loop.example/g00486/laws.FnExactEventOk", spec := "fnExactEventOk", unfollowed := true, recurses := true, apart := false, narrowed := true }
def FnExactEventOkUptoSaid : Prop := fnExactEventOkUptoRow.holds Try.pinned (OpenSpec.upto fnExactEventOkSpec)

/-- 'laws.FnExactSource', WHERE WHAT IT READS IS OF BULK AT MOST 1048576: true; the input reads as it did. -/
def fnExactSourceUptoRow : OpenClaim := { program := "ytnlnledijpcjpap", sum := "88f0da72f17c7b95927fb5efbe9ddb75242d084414ddedd446bc54f9cd9eb389", func := "loop.example/g00486/laws.FnExactSource", spec := "fnExactSource", unfollowed := true, recurses := true, apart := false, narrowed := true }
def FnExactSourceUptoSaid : Prop := fnExactSourceUptoRow.holds Try.pinned (OpenSpec.upto fnExactSourceSpec)

/-- 'laws.FnExactWithN', WHERE WHAT IT READS IS OF BULK AT MOST 1048576: true; the input reads as it did. -/
def fnExactWithNUptoRow : OpenClaim := { program := "ytnlnledijpcjpap", sum := "88f0da72f17c7b95927fb5efbe9ddb75242d084414ddedd446bc54f9cd9eb389", func := "loop.example/g00486/laws.FnExactWithN", spec := "fnExactWithN", apart := false, narrowed := true }
def FnExactWithNUptoSaid : Prop := fnExactWithNUptoRow.holds Try.pinned (OpenSpec.upto fnExactWithNSpec)

end Rows
end Go.Proofs.Ytnlnledijpcjpap
