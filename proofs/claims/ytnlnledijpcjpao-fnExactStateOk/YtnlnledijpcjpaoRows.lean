/-
  No cell of these rows narrows 'for every input' (looked for: loops, veiled, ifaces, maps, wideKeys, modest, calm, conditions, laid).
  DERIVED. THE GIVEN ROWS OF THIS SEAT. 6 by the template 'for every input the law returns true; each argument reads behind the call as it read before'; 0 by the template 'total and deterministic' (their statements: YtnlnledijpcjpaoTotals.lean).
  GIVEN WITH THE SEED: the statements are not yours to turn. If you find one false, say at which input.
  Laid BY PROGRAM, IN A SANDBOX (cutbox-rows.mjs): the forced cells as the released guide's own fill.sh prints them over the translation 053856e8b4f2eff1… (all of the seat's roots in one cut). By AI agents, Wed Nov 11 2026. No macro, syntax, notation, axiom, sorry.
-/
import Derived.Test.YtnlnledijpcjpaoChecked
import GoSem.Claim
import GoSem.ClaimJoined
import GoSem.ClaimMapViews
import Derived.JoinedTies
import Derived.KernelRfl
namespace Go.Proofs.Ytnlnledijpcjpao
/- THE CELL 'sum', in the pinned program and in every row, IS THE sha256 OF THE DUMP (.gsa) THAT YtnlnledijpcjpaoProg.lean LOADS. Nothing in Lean hashes anything: it is a label: what it is worth is what the hold of that sum in a sandbox is worth. -/
noncomputable def Try.pinned : Pinned := { name := "ytnlnledijpcjpao", sum := "053856e8b4f2eff1689ff15243cbaefa4c52322d14d1840ea7ea14ae64211e5c", checked := Try.checked }
namespace Rows
def none {H : Type} : Left H := { results := [], args := [] }

/-- 'laws.FnExactStateOk': WHATEVER THE INPUT: true; the input reads as it did. -/
def fnExactStateOkSpec : ChangeSpec := { name := "fnExactStateOk", fn := fun _ => fun
  | [d] => { results := [.lit (.bool true)], args := [d] }
  | _ => none }
def fnExactStateOkRow : OpenClaim := { program := "ytnlnledijpcjpao", sum := "053856e8b4f2eff1689ff15243cbaefa4c52322d14d1840ea7ea14ae64211e5c", func := "loop.example/g00486/laws.FnExactStateOk", spec := "fnExactStateOk", apart := false }
def FnExactStateOkSaid : Prop := fnExactStateOkRow.holds Try.pinned (OpenSpec.ofChange fnExactStateOkSpec)

/-- ITS FALSE NEIGHBOUR: 'it returns false'. Refute it at one input. -/
def fnExactStateOkWrong : ChangeSpec := { name := "fnExactStateOk", fn := fun _ => fun
  | [d] => { results := [.lit (.bool false)], args := [d] }
  | _ => none }
def FnExactStateOkWrongFalsely : Prop := fnExactStateOkRow.holds Try.pinned (OpenSpec.ofChange fnExactStateOkWrong)

/-- 'laws.FnExactSameState': WHATEVER THE INPUT: true; the input reads as it did. -/
def fnExactSameStateSpec : ChangeSpec := { name := "fnExactSameState", fn := fun _ => fun
  | [d1, d2] => { results := [.lit (.bool true)], args := [d1, d2] }
  | _ => none }
def fnExactSameStateRow : OpenClaim := { program := "ytnlnledijpcjpao", sum := "053856e8b4f2eff1689ff15243cbaefa4c52322d14d1840ea7ea14ae64211e5c", func := "loop.example/g00486/laws.FnExactSameState", spec := "fnExactSameState", apart := false }
def FnExactSameStateSaid : Prop := fnExactSameStateRow.holds Try.pinned (OpenSpec.ofChange fnExactSameStateSpec)

/-- ITS FALSE NEIGHBOUR: 'it returns false'. Refute it at one input. -/
def fnExactSameStateWrong : ChangeSpec := { name := "fnExactSameState", fn := fun _ => fun
  | [d1, d2] => { results := [.lit (.bool false)], args := [d1, d2] }
  | _ => none }
def FnExactSameStateWrongFalsely : Prop := fnExactSameStateRow.holds Try.pinned (OpenSpec.ofChange fnExactSameStateWrong)

/-- 'laws.FnExactStateNew': WHATEVER THE INPUT: true; the input reads as it did. -/
def fnExactStateNewSpec : ChangeSpec := { name := "fnExactStateNew", fn := fun _ => fun
  | [d] => { results := [.lit (.bool true)], args := [d] }
  | _ => none }
def fnExactStateNewRow : OpenClaim := { program := "ytnlnledijpcjpao", sum := "053856e8b4f2eff1689ff15243cbaefa4c52322d14d1840ea7ea14ae64211e5c", func := "loop.example/g00486/laws.FnExactStateNew", spec := "fnExactStateNew", apart := false }
def FnExactStateNewSaid : Prop := fnExactStateNewRow.holds Try.pinned (OpenSpec.ofChange fnExactStateNewSpec)

/-- ITS FALSE NEIGHBOUR: 'it returns false'. Refute it at one input. -/
def fnExactStateNewWrong : ChangeSpec := { name := "fnExactStateNew", fn := fun _ => fun
  | [d] => { results := [.lit (.bool false)], args := [d] }
  | _ => none }
def FnExactStateNewWrongFalsely : Prop := fnExactStateNewRow.holds Try.pinned (OpenSpec.ofChange fnExactStateNewWrong)

/-- 'laws.FnExactPieceAt': WHATEVER THE INPUT: true; the input reads as it did. -/
def fnExactPieceAtSpec : ChangeSpec := { name := "fnExactPieceAt", fn := fun _ => fun
  | [d1, d2] => { results := [.lit (.bool true)], args := [d1, d2] }
  | _ => none }
def fnExactPieceAtRow : OpenClaim := { program := "ytnlnledijpcjpao", sum := "053856e8b4f2eff1689ff15243cbaefa4c52322d14d1840ea7ea14ae64211e5c", func := "loop.example/g00486/laws.FnExactPieceAt", spec := "fnExactPieceAt", unfollowed := true, recurses := true, apart := false }
def FnExactPieceAtSaid : Prop := fnExactPieceAtRow.holds Try.pinned (OpenSpec.ofChange fnExactPieceAtSpec)

/-- ITS FALSE NEIGHBOUR: 'it returns false'. Refute it at one input. -/
def fnExactPieceAtWrong : ChangeSpec := { name := "fnExactPieceAt", fn := fun _ => fun
  | [d1, d2] => { results := [.lit (.bool false)], args := [d1, d2] }
  | _ => none }
def FnExactPieceAtWrongFalsely : Prop := fnExactPieceAtRow.holds Try.pinned (OpenSpec.ofChange fnExactPieceAtWrong)

/-- 'laws.FnExactSetPiece': WHATEVER THE INPUT: true; the input reads as it did. -/
def fnExactSetPieceSpec : ChangeSpec := { name := "fnExactSetPiece", fn := fun _ => fun
  | [d1, d2] => { results := [.lit (.bool true)], args := [d1, d2] }
  | _ => none }
def fnExactSetPieceRow : OpenClaim := { program := "ytnlnledijpcjpao", sum := "053856e8b4f2eff1689ff15243cbaefa4c52322d14d1840ea7ea14ae64211e5c", func := "loop.example/g00486/laws.FnExactSetPiece", spec := "fnExactSetPiece", unfollowed := true, recurses := true, apart := false }
def FnExactSetPieceSaid : Prop := fnExactSetPieceRow.holds Try.pinned (OpenSpec.ofChange fnExactSetPieceSpec)

/-- ITS FALSE NEIGHBOUR: 'it returns false'. Refute it at one input. -/
def fnExactSetPieceWrong : ChangeSpec := { name := "fnExactSetPiece", fn := fun _ => fun
  | [d1, d2] => { results := [.lit (.bool false)], args := [d1, d2] }
  | _ => none }
def FnExactSetPieceWrongFalsely : Prop := fnExactSetPieceRow.holds Try.pinned (OpenSpec.ofChange fnExactSetPieceWrong)

/-- 'laws.FnExactOnField': WHATEVER THE INPUT: true; the input reads as it did. -/
def fnExactOnFieldSpec : ChangeSpec := { name := "fnExactOnField", fn := fun _ => fun
  | [d1, d2] => { results := [.lit (.bool true)], args := [d1, d2] }
  | _ => none }
def fnExactOnFieldRow : OpenClaim := { program := "ytnlnledijpcjpao", sum := "053856e8b4f2eff1689ff15243cbaefa4c52322d14d1840ea7ea14ae64211e5c", func := "loop.example/g00486/laws.FnExactOnField", spec := "fnExactOnField", apart := false }
def FnExactOnFieldSaid : Prop := fnExactOnFieldRow.holds Try.pinned (OpenSpec.ofChange fnExactOnFieldSpec)

/-- ITS FALSE NEIGHBOUR: 'it returns false'. Refute it at one input. -/
def fnExactOnFieldWrong : ChangeSpec := { name := "fnExactOnField", fn := fun _ => fun
  | [d1, d2] => { results := [.lit (.bool false)], args := [d1, d2] }
  | _ => none }
def FnExactOnFieldWrongFalsely : Prop := fnExactOnFieldRow.holds Try.pinned (OpenSpec.ofChange fnExactOnFieldWrong)

/- THE SECOND FORM. 'bulk': how many values and letters a reading holds, each counted each time it is reached (what is shared counts as often as it is met; a slice's spare places count too). A statement '..UptoSaid' is the law's where the arguments, and the package variables that the reading takes, are together of bulk at most 1048576: NARROWER than '..Said'. Prove '..Said' where nothing that the law and all that it calls make is longer than what came in: it says more and counts as full. Else prove '..UptoSaid'. A law counts once. -/
mutual
def uptoBulk {H : Type} : DataW H → Nat
  | .lit (.string bytes) => bytes.length + 1
  | .lit _ => 1
  | .nil => 1
  | .ptr d => uptoBulk d + 1
  | .slice elems spare => uptoBulkAll elems + uptoBulkAll spare + 1
  | .agg parts => uptoBulkAll parts + 1
  | .iface _ d => uptoBulk d + 1
  | .map entries => uptoBulkEntries entries + 1
  | .held _ => 1
def uptoBulkAll {H : Type} : List (DataW H) → Nat
  | [] => 0
  | d :: r => uptoBulk d + uptoBulkAll r
def uptoBulkEntries {H : Type} : List (Lit × DataW H) → Nat
  | [] => 0
  | x :: r => uptoBulkEntry x + uptoBulkEntries r
def uptoBulkEntry {H : Type} : Lit × DataW H → Nat
  | (.string bytes, d) => bytes.length + uptoBulk d + 1
  | (_, d) => uptoBulk d + 1
 end
def uptoSmall : (H : Type) → List (DataW H) → Bool := fun _ ds => decide (uptoBulkAll ds ≤ 1048576)
def OpenSpec.upto (s : _root_.Go.ChangeSpec) : _root_.Go.OpenSpec := { _root_.Go.OpenSpec.ofChange s with cond := some uptoSmall }

/-- 'laws.FnExactStateOk', WHERE WHAT IT READS IS OF BULK AT MOST 1048576: true; the input reads as it did. -/
def fnExactStateOkUptoRow : OpenClaim := { program := "ytnlnledijpcjpao", sum := "053856e8b4f2eff1689ff15243cbaefa4c52322d14d1840ea7ea14ae64211e5c", func := "loop.example/g00486/laws.FnExactStateOk", spec := "fnExactStateOk", apart := false, narrowed := true }
def FnExactStateOkUptoSaid : Prop := fnExactStateOkUptoRow.holds Try.pinned (OpenSpec.upto fnExactStateOkSpec)

/-- 'laws.FnExactSameState', WHERE WHAT IT READS IS OF BULK AT MOST 1048576: true; the input reads as it did. -/
def fnExactSameStateUptoRow : OpenClaim := { program := "ytnlnledijpcjpao", sum := "053856e8b4f2eff1689ff15243cbaefa4c52322d14d1840ea7ea14ae64211e5c", func := "loop.example/g00486/laws.FnExactSameState", spec := "fnExactSameState", apart := false, narrowed := true }
def FnExactSameStateUptoSaid : Prop := fnExactSameStateUptoRow.holds Try.pinned (OpenSpec.upto fnExactSameStateSpec)

/-- 'laws.FnExactStateNew', WHERE WHAT IT READS IS OF BULK AT MOST 1048576: true; the input reads as it did. -/
def fnExactStateNewUptoRow : OpenClaim := { program := "ytnlnledijpcjpao", sum := "053856e8b4f2eff1689ff15243cbaefa4c52322d14d1840ea7ea14ae64211e5c", func := "loop.example/g00486/laws.FnExactStateNew", spec := "fnExactStateNew", apart := false, narrowed := true }
def FnExactStateNewUptoSaid : Prop := fnExactStateNewUptoRow.holds Try.pinned (OpenSpec.upto fnExactStateNewSpec)

/-- 'laws.FnExactPieceAt', WHERE WHAT IT READS IS OF BULK AT MOST 1048576: true; the input reads as it did. -/
def fnExactPieceAtUptoRow : OpenClaim := { program := "ytnlnledijpcjpao", sum := "053856e8b4f2eff1689ff15243cbaefa4c52322d14d1840ea7ea14ae64211e5c", func := "loop.example/g00486/laws.FnExactPieceAt", spec := "fnExactPieceAt", unfollowed := true, recurses := true, apart := false, narrowed := true }
def FnExactPieceAtUptoSaid : Prop := fnExactPieceAtUptoRow.holds Try.pinned (OpenSpec.upto fnExactPieceAtSpec)

/-- 'laws.FnExactSetPiece', WHERE WHAT IT READS IS OF BULK AT MOST 1048576: true; the input reads as it did. -/
def fnExactSetPieceUptoRow : OpenClaim := { program := "ytnlnledijpcjpao", sum := "053856e8b4f2eff1689ff15243cbaefa4c52322d14d1840ea7ea14ae64211e5c", func := "loop.example/g00486/laws.FnExactSetPiece", spec := "fnExactSetPiece", unfollowed := true, recurses := true, apart := false, narrowed := true }
def FnExactSetPieceUptoSaid : Prop := fnExactSetPieceUptoRow.holds Try.pinned (OpenSpec.upto fnExactSetPieceSpec)

/-- 'laws.FnExactOnField', WHERE WHAT IT READS IS OF BULK AT MOST 1048576: true; the input reads as it did. -/
def fnExactOnFieldUptoRow : OpenClaim := { program := "ytnlnledijpcjpao", sum := "053856e8b4f2eff1689ff15243cbaefa4c52322d14d1840ea7ea14ae64211e5c", func := "loop.example/g00486/laws.FnExactOnField", spec := "fnExactOnField", apart := false, narrowed := true }
def FnExactOnFieldUptoSaid : Prop := fnExactOnFieldUptoRow.holds Try.pinned (OpenSpec.upto fnExactOnFieldSpec)

end Rows
end Go.Proofs.Ytnlnledijpcjpao
