/-
  No cell of these rows narrows 'for every input' (looked for: loops, veiled, ifaces, maps, wideKeys, modest, calm, conditions, laid).
  DERIVED. THE GIVEN ROWS OF THIS SEAT. 6 by the template 'for every input the law returns true; each argument reads behind the call as it read before'; 0 by the template 'total and deterministic' (their statements: YtgaodfjmehofgarTotals.lean).
  GIVEN WITH THE SEED: the statements are not yours to turn. If you find one false, say at which input.
  Laid BY PROGRAM, IN A SANDBOX (cutbox-rows.mjs): the forced cells as the released guide's own fill.sh prints them over the translation c8165d7867f4a3c8… (all of the seat's roots in one cut). By AI agents, Wed Nov 11 2026. No macro, syntax, notation, axiom, sorry.
-/
import Derived.Test.YtgaodfjmehofgarChecked
import GoSem.Claim
import GoSem.ClaimJoined
import GoSem.ClaimMapViews
import Derived.JoinedTies
import Derived.KernelRfl
namespace Go.Proofs.Ytgaodfjmehofgar
/- THE CELL 'sum', in the pinned program and in every row, IS THE sha256 OF THE DUMP (.gsa) THAT YtgaodfjmehofgarProg.lean LOADS. Nothing in Lean hashes anything: it is a label: what it is worth is what the hold of that sum in a sandbox is worth. -/
noncomputable def Try.pinned : Pinned := { name := "ytgaodfjmehofgar", sum := "c8165d7867f4a3c86edda99d342c594e3dc4e93100c617169e2d75a0e4ece283", checked := Try.checked }
namespace Rows
def none {H : Type} : Left H := { results := [], args := [] }

/-- 'laws.FnExactGuardOk': WHATEVER THE INPUT: true; the input reads as it did. -/
def fnExactGuardOkSpec : ChangeSpec := { name := "fnExactGuardOk", fn := fun _ => fun
  | [d] => { results := [.lit (.bool true)], args := [d] }
  | _ => none }
def fnExactGuardOkRow : OpenClaim := { program := "ytgaodfjmehofgar", sum := "c8165d7867f4a3c86edda99d342c594e3dc4e93100c617169e2d75a0e4ece283", func := "loop.example/g00486/laws.FnExactGuardOk", spec := "fnExactGuardOk", apart := false }
def FnExactGuardOkSaid : Prop := fnExactGuardOkRow.holds Try.pinned (OpenSpec.ofChange fnExactGuardOkSpec)

/-- ITS FALSE NEIGHBOUR: 'it returns false'. Refute it at one input. -/
def fnExactGuardOkWrong : ChangeSpec := { name := "fnExactGuardOk", fn := fun _ => fun
  | [d] => { results := [.lit (.bool false)], args := [d] }
  | _ => none }
def FnExactGuardOkWrongFalsely : Prop := fnExactGuardOkRow.holds Try.pinned (OpenSpec.ofChange fnExactGuardOkWrong)

/-- 'laws.FnExactHolds': WHATEVER THE INPUT: true; the input reads as it did. -/
def fnExactHoldsSpec : ChangeSpec := { name := "fnExactHolds", fn := fun _ => fun
  | [d1, d2, d3] => { results := [.lit (.bool true)], args := [d1, d2, d3] }
  | _ => none }
def fnExactHoldsRow : OpenClaim := { program := "ytgaodfjmehofgar", sum := "c8165d7867f4a3c86edda99d342c594e3dc4e93100c617169e2d75a0e4ece283", func := "loop.example/g00486/laws.FnExactHolds", spec := "fnExactHolds", unfollowed := true, recurses := true, apart := false }
def FnExactHoldsSaid : Prop := fnExactHoldsRow.holds Try.pinned (OpenSpec.ofChange fnExactHoldsSpec)

/-- ITS FALSE NEIGHBOUR: 'it returns false'. Refute it at one input. -/
def fnExactHoldsWrong : ChangeSpec := { name := "fnExactHolds", fn := fun _ => fun
  | [d1, d2, d3] => { results := [.lit (.bool false)], args := [d1, d2, d3] }
  | _ => none }
def FnExactHoldsWrongFalsely : Prop := fnExactHoldsRow.holds Try.pinned (OpenSpec.ofChange fnExactHoldsWrong)

/-- 'laws.FnExactBentOf': WHATEVER THE INPUT: true; the input reads as it did. -/
def fnExactBentOfSpec : ChangeSpec := { name := "fnExactBentOf", fn := fun _ => fun
  | [d1, d2] => { results := [.lit (.bool true)], args := [d1, d2] }
  | _ => none }
def fnExactBentOfRow : OpenClaim := { program := "ytgaodfjmehofgar", sum := "c8165d7867f4a3c86edda99d342c594e3dc4e93100c617169e2d75a0e4ece283", func := "loop.example/g00486/laws.FnExactBentOf", spec := "fnExactBentOf", apart := false }
def FnExactBentOfSaid : Prop := fnExactBentOfRow.holds Try.pinned (OpenSpec.ofChange fnExactBentOfSpec)

/-- ITS FALSE NEIGHBOUR: 'it returns false'. Refute it at one input. -/
def fnExactBentOfWrong : ChangeSpec := { name := "fnExactBentOf", fn := fun _ => fun
  | [d1, d2] => { results := [.lit (.bool false)], args := [d1, d2] }
  | _ => none }
def FnExactBentOfWrongFalsely : Prop := fnExactBentOfRow.holds Try.pinned (OpenSpec.ofChange fnExactBentOfWrong)

/-- 'laws.FnExactStronger': WHATEVER THE INPUT: true; the input reads as it did. -/
def fnExactStrongerSpec : ChangeSpec := { name := "fnExactStronger", fn := fun _ => fun
  | [d1, d2] => { results := [.lit (.bool true)], args := [d1, d2] }
  | _ => none }
def fnExactStrongerRow : OpenClaim := { program := "ytgaodfjmehofgar", sum := "c8165d7867f4a3c86edda99d342c594e3dc4e93100c617169e2d75a0e4ece283", func := "loop.example/g00486/laws.FnExactStronger", spec := "fnExactStronger", apart := false }
def FnExactStrongerSaid : Prop := fnExactStrongerRow.holds Try.pinned (OpenSpec.ofChange fnExactStrongerSpec)

/-- ITS FALSE NEIGHBOUR: 'it returns false'. Refute it at one input. -/
def fnExactStrongerWrong : ChangeSpec := { name := "fnExactStronger", fn := fun _ => fun
  | [d1, d2] => { results := [.lit (.bool false)], args := [d1, d2] }
  | _ => none }
def FnExactStrongerWrongFalsely : Prop := fnExactStrongerRow.holds Try.pinned (OpenSpec.ofChange fnExactStrongerWrong)

/-- 'laws.FnExactActOk': WHATEVER THE INPUT: true; the input reads as it did. -/
def fnExactActOkSpec : ChangeSpec := { name := "fnExactActOk", fn := fun _ => fun
  | [d] => { results := [.lit (.bool true)], args := [d] }
  | _ => none }
def fnExactActOkRow : OpenClaim := { program := "ytgaodfjmehofgar", sum := "c8165d7867f4a3c86edda99d342c594e3dc4e93100c617169e2d75a0e4ece283", func := "loop.example/g00486/laws.FnExactActOk", spec := "fnExactActOk", unfollowed := true, recurses := true, apart := false }
def FnExactActOkSaid : Prop := fnExactActOkRow.holds Try.pinned (OpenSpec.ofChange fnExactActOkSpec)

/-- ITS FALSE NEIGHBOUR: 'it returns false'. Refute it at one input. -/
def fnExactActOkWrong : ChangeSpec := { name := "fnExactActOk", fn := fun _ => fun
  | [d] => { results := [.lit (.bool false)], args := [d] }
  | _ => none }
def FnExactActOkWrongFalsely : Prop := fnExactActOkRow.holds Try.pinned (OpenSpec.ofChange fnExactActOkWrong)

/-- 'laws.FnExactActFits': WHATEVER THE INPUT: true; the input reads as it did. -/
def fnExactActFitsSpec : ChangeSpec := { name := "fnExactActFits", fn := fun _ => fun
  | [d1, d2] => { results := [.lit (.bool true)], args := [d1, d2] }
  | _ => none }
def fnExactActFitsRow : OpenClaim := { program := "ytgaodfjmehofgar", sum := "c8165d7867f4a3c86edda99d342c594e3dc4e93100c617169e2d75a0e4ece283", func := "loop.example/g00486/laws.FnExactActFits", spec := "fnExactActFits", apart := false }
def FnExactActFitsSaid : Prop := fnExactActFitsRow.holds Try.pinned (OpenSpec.ofChange fnExactActFitsSpec)

/-- ITS FALSE NEIGHBOUR: 'it returns false'. Refute it at one input. -/
def fnExactActFitsWrong : ChangeSpec := { name := "fnExactActFits", fn := fun _ => fun
  | [d1, d2] => { results := [.lit (.bool false)], args := [d1, d2] }
  | _ => none }
def FnExactActFitsWrongFalsely : Prop := fnExactActFitsRow.holds Try.pinned (OpenSpec.ofChange fnExactActFitsWrong)

/- THE SECOND FORM. 'bulk': how many values and letters a reading holds, each counted each time it is reached (what is shared counts as often as it is met; a slice's spare places count too). A statement '..UptoSaid' is the law's where the arguments, and the package variables that the reading takes, are together of bulk at most 1048576: NARROWER than '..Said'. Prove '..Said' where nothing that the law and all that it calls make is longer than what came in: it says more and counts as full. Else prove '..UptoSaid'. A law counts once. -/
mutual
def uptoBulk {H : Type} : DataW H → Nat
  | .lit (.string bytes) => bytes.length + 1
  | .lit _ => 1
  | .nil => 1
  | .ptr d => uptoBulk d + 1
  | .slice elems spare => uptoBulkAll elems + uptoBulkAll spare + 1
  | .agg parts => uptoBulkAll parts + 1
  | .iface _ d => uptoBulk d + 1
  | .map entries => uptoBulkEntries entries + 1
  | .held _ => 1
def uptoBulkAll {H : Type} : List (DataW H) → Nat
  | [] => 0
  | d :: r => uptoBulk d + uptoBulkAll r
def uptoBulkEntries {H : Type} : List (Lit × DataW H) → Nat
  | [] => 0
  | x :: r => uptoBulkEntry x + uptoBulkEntries r
def uptoBulkEntry {H : Type} : Lit × DataW H → Nat
  | (.string bytes, d) => bytes.length + uptoBulk d + 1
  | (_, d) => uptoBulk d + 1
 end
def uptoSmall : (H : Type) → List (DataW H) → Bool := fun _ ds => decide (uptoBulkAll ds ≤ 1048576)
def OpenSpec.upto (s : _root_.Go.ChangeSpec) : _root_.Go.OpenSpec := { _root_.Go.OpenSpec.ofChange s with cond := some uptoSmall }

/-- 'laws.FnExactGuardOk', WHERE WHAT IT READS IS OF BULK AT MOST 1048576: true; the input reads as it did. -/
def fnExactGuardOkUptoRow : OpenClaim := { program := "ytgaodfjmehofgar", sum := "c8165d7867f4a3c86edda99d342c594e3dc4e93100c617169e2d75a0e4ece283", func := "loop.example/g00486/laws.FnExactGuardOk", spec := "fnExactGuardOk", apart := false, narrowed := true }
def FnExactGuardOkUptoSaid : Prop := fnExactGuardOkUptoRow.holds Try.pinned (OpenSpec.upto fnExactGuardOkSpec)

/-- 'laws.FnExactHolds', WHERE WHAT IT READS IS OF BULK AT MOST 1048576: true; the input reads as it did. -/
def fnExactHoldsUptoRow : OpenClaim := { program := "ytgaodfjmehofgar", sum := "c8165d7867f4a3c86edda99d342c594e3dc4e93100c617169e2d75a0e4ece283", func := "loop.example/g00486/laws.FnExactHolds", spec := "fnExactHolds", unfollowed := true, recurses := true, apart := false, narrowed := true }
def FnExactHoldsUptoSaid : Prop := fnExactHoldsUptoRow.holds Try.pinned (OpenSpec.upto fnExactHoldsSpec)

/-- 'laws.FnExactBentOf', WHERE WHAT IT READS IS OF BULK AT MOST 1048576: true; the input reads as it did. -/
def fnExactBentOfUptoRow : OpenClaim := { program := "ytgaodfjmehofgar", sum := "c8165d7867f4a3c86edda99d342c594e3dc4e93100c617169e2d75a0e4ece283", func := "loop.example/g00486/laws.FnExactBentOf", spec := "fnExactBentOf", apart := false, narrowed := true }
def FnExactBentOfUptoSaid : Prop := fnExactBentOfUptoRow.holds Try.pinned (OpenSpec.upto fnExactBentOfSpec)

/-- 'laws.FnExactStronger', WHERE WHAT IT READS IS OF BULK AT MOST 1048576: true; the input reads as it did. -/
def fnExactStrongerUptoRow : OpenClaim := { program := "ytgaodfjmehofgar", sum := "c8165d7867f4a3c86edda99d342c594e3dc4e93100c617169e2d75a0e4ece283", func := "loop.example/g00486/laws.FnExactStronger", spec := "fnExactStronger", apart := false, narrowed := true }
def FnExactStrongerUptoSaid : Prop := fnExactStrongerUptoRow.holds Try.pinned (OpenSpec.upto fnExactStrongerSpec)

/-- 'laws.FnExactActOk', WHERE WHAT IT READS IS OF BULK AT MOST 1048576: true; the input reads as it did. -/
def fnExactActOkUptoRow : OpenClaim := { program := "ytgaodfjmehofgar", sum := "c8165d7867f4a3c86edda99d342c594e3dc4e93100c617169e2d75a0e4ece283", func := "loop.example/g00486/laws.FnExactActOk", spec := "fnExactActOk", unfollowed := true, recurses := true, apart := false, narrowed := true }
def FnExactActOkUptoSaid : Prop := fnExactActOkUptoRow.holds Try.pinned (OpenSpec.upto fnExactActOkSpec)

/-- 'laws.FnExactActFits', WHERE WHAT IT READS IS OF BULK AT MOST 1048576: true; the input reads as it did. -/
def fnExactActFitsUptoRow : OpenClaim := { program := "ytgaodfjmehofgar", sum := "c8165d7867f4a3c86edda99d342c594e3dc4e93100c617169e2d75a0e4ece283", func := "loop.example/g00486/laws.FnExactActFits", spec := "fnExactActFits", apart := false, narrowed := true }
def FnExactActFitsUptoSaid : Prop := fnExactActFitsUptoRow.holds Try.pinned (OpenSpec.upto fnExactActFitsSpec)

end Rows
end Go.Proofs.Ytgaodfjmehofgar
