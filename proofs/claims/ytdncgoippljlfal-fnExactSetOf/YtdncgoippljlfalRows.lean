/-
  No cell of these rows narrows 'for every input' (looked for: loops, veiled, ifaces, maps, wideKeys, modest, calm, conditions, laid).
  DERIVED. THE GIVEN ROWS OF THIS SEAT. 6 by the template 'for every input the law returns true; each argument reads behind the call as it read before'; 0 by the template 'total and deterministic' (their statements: YtdncgoippljlfalTotals.lean).
  GIVEN WITH THE SEED: the statements are not yours to turn. If you find one false, say at which input.
  Laid BY PROGRAM, IN A SANDBOX (cutbox-rows.mjs): the forced cells as the released guide's own fill.sh prints them over the translation 6afc11872c7fe7a3… (all of the seat's roots in one cut). By AI agents, Wed Nov 11 2026. No macro, syntax, notation, axiom, sorry.
-/
import Derived.Test.YtdncgoippljlfalChecked
import GoSem.Claim
import GoSem.ClaimJoined
import GoSem.ClaimMapViews
import Derived.JoinedTies
import Derived.KernelRfl
namespace Go.Proofs.Ytdncgoippljlfal
/- THE CELL 'sum', in the pinned program and in every row, IS THE sha256 OF THE DUMP (.gsa) THAT YtdncgoippljlfalProg.lean LOADS. Nothing in Lean hashes anything: it is a label: what it is worth is what the hold of that sum in a sandbox is worth. -/
noncomputable def Try.pinned : Pinned := { name := "ytdncgoippljlfal", sum := "6afc11872c7fe7a356df32784de8fb85845b6a498334be92e0027e8be08bcf20", checked := Try.checked }
namespace Rows
def none {H : Type} : Left H := { results := [], args := [] }

/-- 'laws.FnExactPacked': WHATEVER THE INPUT: true; the input reads as it did. -/
def fnExactPackedSpec : ChangeSpec := { name := "fnExactPacked", fn := fun _ => fun
  | [d] => { results := [.lit (.bool true)], args := [d] }
  | _ => none }
def fnExactPackedRow : OpenClaim := { program := "ytdncgoippljlfal", sum := "6afc11872c7fe7a356df32784de8fb85845b6a498334be92e0027e8be08bcf20", func := "loop.example/g00486/laws.FnExactPacked", spec := "fnExactPacked", apart := false }
def FnExactPackedSaid : Prop := fnExactPackedRow.holds Try.pinned (OpenSpec.ofChange fnExactPackedSpec)

/-- ITS FALSE NEIGHBOUR: 'it returns false'. Refute it at one input. -/
def fnExactPackedWrong : ChangeSpec := { name := "fnExactPacked", fn := fun _ => fun
  | [d] => { results := [.lit (.bool false)], args := [d] }
  | _ => none }
def FnExactPackedWrongFalsely : Prop := fnExactPackedRow.holds Try.pinned (OpenSpec.ofChange fnExactPackedWrong)

/-- 'laws.FnExactUnpacked': WHATEVER THE INPUT: true; the input reads as it did. -/
def fnExactUnpackedSpec : ChangeSpec := { name := "fnExactUnpacked", fn := fun _ => fun
  | [d] => { results := [.lit (.bool true)], args := [d] }
  | _ => none }
def fnExactUnpackedRow : OpenClaim := { program := "ytdncgoippljlfal", sum := "6afc11872c7fe7a356df32784de8fb85845b6a498334be92e0027e8be08bcf20", func := "loop.example/g00486/laws.FnExactUnpacked", spec := "fnExactUnpacked", apart := false }
def FnExactUnpackedSaid : Prop := fnExactUnpackedRow.holds Try.pinned (OpenSpec.ofChange fnExactUnpackedSpec)

/-- ITS FALSE NEIGHBOUR: 'it returns false'. Refute it at one input. -/
def fnExactUnpackedWrong : ChangeSpec := { name := "fnExactUnpacked", fn := fun _ => fun
  | [d] => { results := [.lit (.bool false)], args := [d] }
  | _ => none }
def FnExactUnpackedWrongFalsely : Prop := fnExactUnpackedRow.holds Try.pinned (OpenSpec.ofChange fnExactUnpackedWrong)

/-- 'laws.FnExactSetOf': WHATEVER THE INPUT: true; the input reads as it did. -/
def fnExactSetOfSpec : ChangeSpec := { name := "fnExactSetOf", fn := fun _ => fun
  | [d] => { results := [.lit (.bool true)], args := [d] }
  | _ => none }
def fnExactSetOfRow : OpenClaim := { program := "ytdncgoippljlfal", sum := "6afc11872c7fe7a356df32784de8fb85845b6a498334be92e0027e8be08bcf20", func := "loop.example/g00486/laws.FnExactSetOf", spec := "fnExactSetOf", unfollowed := true, recurses := true, apart := false }
def FnExactSetOfSaid : Prop := fnExactSetOfRow.holds Try.pinned (OpenSpec.ofChange fnExactSetOfSpec)

/-- ITS FALSE NEIGHBOUR: 'it returns false'. Refute it at one input. -/
def fnExactSetOfWrong : ChangeSpec := { name := "fnExactSetOf", fn := fun _ => fun
  | [d] => { results := [.lit (.bool false)], args := [d] }
  | _ => none }
def FnExactSetOfWrongFalsely : Prop := fnExactSetOfRow.holds Try.pinned (OpenSpec.ofChange fnExactSetOfWrong)

/-- 'laws.FnExactHas': WHATEVER THE INPUT: true; the input reads as it did. -/
def fnExactHasSpec : ChangeSpec := { name := "fnExactHas", fn := fun _ => fun
  | [d1, d2] => { results := [.lit (.bool true)], args := [d1, d2] }
  | _ => none }
def fnExactHasRow : OpenClaim := { program := "ytdncgoippljlfal", sum := "6afc11872c7fe7a356df32784de8fb85845b6a498334be92e0027e8be08bcf20", func := "loop.example/g00486/laws.FnExactHas", spec := "fnExactHas", apart := false }
def FnExactHasSaid : Prop := fnExactHasRow.holds Try.pinned (OpenSpec.ofChange fnExactHasSpec)

/-- ITS FALSE NEIGHBOUR: 'it returns false'. Refute it at one input. -/
def fnExactHasWrong : ChangeSpec := { name := "fnExactHas", fn := fun _ => fun
  | [d1, d2] => { results := [.lit (.bool false)], args := [d1, d2] }
  | _ => none }
def FnExactHasWrongFalsely : Prop := fnExactHasRow.holds Try.pinned (OpenSpec.ofChange fnExactHasWrong)

/-- 'laws.FnExactWith': WHATEVER THE INPUT: true; the input reads as it did. -/
def fnExactWithSpec : ChangeSpec := { name := "fnExactWith", fn := fun _ => fun
  | [d1, d2] => { results := [.lit (.bool true)], args := [d1, d2] }
  | _ => none }
def fnExactWithRow : OpenClaim := { program := "ytdncgoippljlfal", sum := "6afc11872c7fe7a356df32784de8fb85845b6a498334be92e0027e8be08bcf20", func := "loop.example/g00486/laws.FnExactWith", spec := "fnExactWith", unfollowed := true, recurses := true, apart := false }
def FnExactWithSaid : Prop := fnExactWithRow.holds Try.pinned (OpenSpec.ofChange fnExactWithSpec)

/-- ITS FALSE NEIGHBOUR: 'it returns false'. Refute it at one input. -/
def fnExactWithWrong : ChangeSpec := { name := "fnExactWith", fn := fun _ => fun
  | [d1, d2] => { results := [.lit (.bool false)], args := [d1, d2] }
  | _ => none }
def FnExactWithWrongFalsely : Prop := fnExactWithRow.holds Try.pinned (OpenSpec.ofChange fnExactWithWrong)

/-- 'laws.FnExactWithout': WHATEVER THE INPUT: true; the input reads as it did. -/
def fnExactWithoutSpec : ChangeSpec := { name := "fnExactWithout", fn := fun _ => fun
  | [d1, d2] => { results := [.lit (.bool true)], args := [d1, d2] }
  | _ => none }
def fnExactWithoutRow : OpenClaim := { program := "ytdncgoippljlfal", sum := "6afc11872c7fe7a356df32784de8fb85845b6a498334be92e0027e8be08bcf20", func := "loop.example/g00486/laws.FnExactWithout", spec := "fnExactWithout", unfollowed := true, recurses := true, apart := false }
def FnExactWithoutSaid : Prop := fnExactWithoutRow.holds Try.pinned (OpenSpec.ofChange fnExactWithoutSpec)

/-- ITS FALSE NEIGHBOUR: 'it returns false'. Refute it at one input. -/
def fnExactWithoutWrong : ChangeSpec := { name := "fnExactWithout", fn := fun _ => fun
  | [d1, d2] => { results := [.lit (.bool false)], args := [d1, d2] }
  | _ => none }
def FnExactWithoutWrongFalsely : Prop := fnExactWithoutRow.holds Try.pinned (OpenSpec.ofChange fnExactWithoutWrong)

/- THE SECOND FORM. 'bulk': how many values and letters a reading holds, each counted each time it is reached (what is shared counts as often as it is met; a slice's spare places count too). A statement '..UptoSaid' is the law's where the arguments, and the package variables that the reading takes, are together of bulk at most 1048576: NARROWER than '..Said'. Prove '..Said' where nothing that the law and all that it calls make is longer than what came in: it says more and counts as full. Else prove '..UptoSaid'. A law counts once. -/
mutual
def uptoBulk {H : Type} : DataW H → Nat
  | .lit (.string bytes) => bytes.length + 1
  | .lit _ => 1
  | .nil => 1
  | .ptr d => uptoBulk d + 1
  | .slice elems spare => uptoBulkAll elems + uptoBulkAll spare + 1
  | .agg parts => uptoBulkAll parts + 1
  | .iface _ d => uptoBulk d + 1
  | .map entries => uptoBulkEntries entries + 1
  | .held _ => 1
def uptoBulkAll {H : Type} : List (DataW H) → Nat
  | [] => 0
  | d :: r => uptoBulk d + uptoBulkAll r
def uptoBulkEntries {H : Type} : List (Lit × DataW H) → Nat
  | [] => 0
  | x :: r => uptoBulkEntry x + uptoBulkEntries r
def uptoBulkEntry {H : Type} : Lit × DataW H → Nat
  | (.string bytes, d) => bytes.length + uptoBulk d + 1
  | (_, d) => uptoBulk d + 1
 end
def uptoSmall : (H : Type) → List (DataW H) → Bool := fun _ ds => decide (uptoBulkAll ds ≤ 1048576)
def OpenSpec.upto (s : _root_.Go.ChangeSpec) : _root_.Go.OpenSpec := { _root_.Go.OpenSpec.ofChange s with cond := some uptoSmall }

/-- 'laws.FnExactPacked', WHERE WHAT IT READS IS OF BULK AT MOST 1048576: true; the input reads as it did. -/
def fnExactPackedUptoRow : OpenClaim := { program := "ytdncgoippljlfal", sum := "6afc11872c7fe7a356df32784de8fb85845b6a498334be92e0027e8be08bcf20", func := "loop.example/g00486/laws.FnExactPacked", spec := "fnExactPacked", apart := false, narrowed := true }
def FnExactPackedUptoSaid : Prop := fnExactPackedUptoRow.holds Try.pinned (OpenSpec.upto fnExactPackedSpec)

/-- 'laws.FnExactUnpacked', WHERE WHAT IT READS IS OF BULK AT MOST 1048576: true; the input reads as it did. -/
def fnExactUnpackedUptoRow : OpenClaim := { program := "ytdncgoippljlfal", sum := "6afc11872c7fe7a356df32784de8fb85845b6a498334be92e0027e8be08bcf20", func := "loop.example/g00486/laws.FnExactUnpacked", spec := "fnExactUnpacked", apart := false, narrowed := true }
def FnExactUnpackedUptoSaid : Prop := fnExactUnpackedUptoRow.holds Try.pinned (OpenSpec.upto fnExactUnpackedSpec)

/-- 'laws.FnExactSetOf', WHERE WHAT IT READS IS OF BULK AT MOST 1048576: true; the input reads as it did. -/
def fnExactSetOfUptoRow : OpenClaim := { program := "ytdncgoippljlfal", sum := "6afc11872c7fe7a356df32784de8fb85845b6a498334be92e0027e8be08bcf20", func := "loop.example/g00486/laws.FnExactSetOf", spec := "fnExactSetOf", unfollowed := true, recurses := true, apart := false, narrowed := true }
def FnExactSetOfUptoSaid : Prop := fnExactSetOfUptoRow.holds Try.pinned (OpenSpec.upto fnExactSetOfSpec)

/-- 'laws.FnExactHas', WHERE WHAT IT READS IS OF BULK AT MOST 1048576: true; the input reads as it did. -/
def fnExactHasUptoRow : OpenClaim := { program := "ytdncgoippljlfal", sum := "6afc11872c7fe7a356df32784de8fb85845b6a498334be92e0027e8be08bcf20", func := "loop.example/g00486/laws.FnExactHas", spec := "fnExactHas", apart := false, narrowed := true }
def FnExactHasUptoSaid : Prop := fnExactHasUptoRow.holds Try.pinned (OpenSpec.upto fnExactHasSpec)

/-- 'laws.FnExactWith', WHERE WHAT IT READS IS OF BULK AT MOST 1048576: true; the input reads as it did. -/
def fnExactWithUptoRow : OpenClaim := { program := "ytdncgoippljlfal", sum := "6afc11872c7fe7a356df32784de8fb85845b6a498334be92e0027e8be08bcf20", func := "loop.example/g00486/laws.FnExactWith", spec := "fnExactWith", unfollowed := true, recurses := true, apart := false, narrowed := true }
def FnExactWithUptoSaid : Prop := fnExactWithUptoRow.holds Try.pinned (OpenSpec.upto fnExactWithSpec)

/-- 'laws.FnExactWithout', WHERE WHAT IT READS IS OF BULK AT MOST 1048576: true; the input reads as it did. -/
def fnExactWithoutUptoRow : OpenClaim := { program := "ytdncgoippljlfal", sum := "6afc11872c7fe7a356df32784de8fb85845b6a498334be92e0027e8be08bcf20", func := "loop.example/g00486/laws.FnExactWithout", spec := "fnExactWithout", unfollowed := true, recurses := true, apart := false, narrowed := true }
def FnExactWithoutUptoSaid : Prop := fnExactWithoutUptoRow.holds Try.pinned (OpenSpec.upto fnExactWithoutSpec)

end Rows
end Go.Proofs.Ytdncgoippljlfal
