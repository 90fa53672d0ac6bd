/-
  No cell of these rows narrows 'for every input' (looked for: loops, veiled, ifaces, maps, wideKeys, modest, calm, conditions, laid).
  DERIVED. THE GIVEN ROWS OF THIS SEAT. 6 by the template 'for every input the law returns true; each argument reads behind the call as it read before'; 0 by the template 'total and deterministic' (their statements: YtnlnledijpcjpabTotals.lean).
  GIVEN WITH THE SEED: the statements are not yours to turn. If you find one false, say at which input.
  Laid BY PROGRAM, IN A SANDBOX (cutbox-rows.mjs): the forced cells as the released guide's own fill.sh prints them over the translation 993092fd1cb4a57a… (all of the seat's roots in one cut). By AI agents, Wed Nov 11 2026. No macro, syntax, notation, axiom, sorry.
-/
import Derived.Test.YtnlnledijpcjpabChecked
import GoSem.Claim
import GoSem.ClaimJoined
import GoSem.ClaimMapViews
import Derived.JoinedTies
import Derived.KernelRfl
namespace Go.Proofs.Ytnlnledijpcjpab
/- THE CELL 'sum', in the pinned program and in every row, IS THE sha256 OF THE DUMP (.gsa) THAT YtnlnledijpcjpabProg.lean LOADS. Nothing in Lean hashes anything: it is a label: what it is worth is what the hold of that sum in a sandbox is worth. -/
noncomputable def Try.pinned : Pinned := { name := "ytnlnledijpcjpab", sum := "993092fd1cb4a57adf7d43cde0260e97c229202937a2038d7810d63268db40ee", checked := Try.checked }
namespace Rows
def none {H : Type} : Left H := { results := [], args := [] }

/-- 'laws.FnSetSums': WHATEVER THE INPUT: true; the input reads as it did. -/
def fnSetSumsSpec : ChangeSpec := { name := "fnSetSums", fn := fun _ => fun
  | [d] => { results := [.lit (.bool true)], args := [d] }
  | _ => none }
def fnSetSumsRow : OpenClaim := { program := "ytnlnledijpcjpab", sum := "993092fd1cb4a57adf7d43cde0260e97c229202937a2038d7810d63268db40ee", func := "loop.example/g00486/laws.FnSetSums", spec := "fnSetSums", unfollowed := true, recurses := true, apart := false }
def FnSetSumsSaid : Prop := fnSetSumsRow.holds Try.pinned (OpenSpec.ofChange fnSetSumsSpec)

/-- ITS FALSE NEIGHBOUR: 'it returns false'. Refute it at one input. -/
def fnSetSumsWrong : ChangeSpec := { name := "fnSetSums", fn := fun _ => fun
  | [d] => { results := [.lit (.bool false)], args := [d] }
  | _ => none }
def FnSetSumsWrongFalsely : Prop := fnSetSumsRow.holds Try.pinned (OpenSpec.ofChange fnSetSumsWrong)

/-- 'laws.FnPieces': WHATEVER THE INPUT: true; the input reads as it did. -/
def fnPiecesSpec : ChangeSpec := { name := "fnPieces", fn := fun _ => fun
  | [d] => { results := [.lit (.bool true)], args := [d] }
  | _ => none }
def fnPiecesRow : OpenClaim := { program := "ytnlnledijpcjpab", sum := "993092fd1cb4a57adf7d43cde0260e97c229202937a2038d7810d63268db40ee", func := "loop.example/g00486/laws.FnPieces", spec := "fnPieces", apart := false }
def FnPiecesSaid : Prop := fnPiecesRow.holds Try.pinned (OpenSpec.ofChange fnPiecesSpec)

/-- ITS FALSE NEIGHBOUR: 'it returns false'. Refute it at one input. -/
def fnPiecesWrong : ChangeSpec := { name := "fnPieces", fn := fun _ => fun
  | [d] => { results := [.lit (.bool false)], args := [d] }
  | _ => none }
def FnPiecesWrongFalsely : Prop := fnPiecesRow.holds Try.pinned (OpenSpec.ofChange fnPiecesWrong)

/-- 'laws.FnPieceBytes': WHATEVER THE INPUT: true; the input reads as it did. -/
def fnPieceBytesSpec : ChangeSpec := { name := "fnPieceBytes", fn := fun _ => fun
  | [d] => { results := [.lit (.bool true)], args := [d] }
  | _ => none }
def fnPieceBytesRow : OpenClaim := { program := "ytnlnledijpcjpab", sum := "993092fd1cb4a57adf7d43cde0260e97c229202937a2038d7810d63268db40ee", func := "loop.example/g00486/laws.FnPieceBytes", spec := "fnPieceBytes", apart := false }
def FnPieceBytesSaid : Prop := fnPieceBytesRow.holds Try.pinned (OpenSpec.ofChange fnPieceBytesSpec)

/-- ITS FALSE NEIGHBOUR: 'it returns false'. Refute it at one input. -/
def fnPieceBytesWrong : ChangeSpec := { name := "fnPieceBytes", fn := fun _ => fun
  | [d] => { results := [.lit (.bool false)], args := [d] }
  | _ => none }
def FnPieceBytesWrongFalsely : Prop := fnPieceBytesRow.holds Try.pinned (OpenSpec.ofChange fnPieceBytesWrong)

/-- 'laws.FnStates': WHATEVER THE INPUT: true; the input reads as it did. -/
def fnStatesSpec : ChangeSpec := { name := "fnStates", fn := fun _ => fun
  | [d] => { results := [.lit (.bool true)], args := [d] }
  | _ => none }
def fnStatesRow : OpenClaim := { program := "ytnlnledijpcjpab", sum := "993092fd1cb4a57adf7d43cde0260e97c229202937a2038d7810d63268db40ee", func := "loop.example/g00486/laws.FnStates", spec := "fnStates", unfollowed := true, recurses := true, apart := false }
def FnStatesSaid : Prop := fnStatesRow.holds Try.pinned (OpenSpec.ofChange fnStatesSpec)

/-- ITS FALSE NEIGHBOUR: 'it returns false'. Refute it at one input. -/
def fnStatesWrong : ChangeSpec := { name := "fnStates", fn := fun _ => fun
  | [d] => { results := [.lit (.bool false)], args := [d] }
  | _ => none }
def FnStatesWrongFalsely : Prop := fnStatesRow.holds Try.pinned (OpenSpec.ofChange fnStatesWrong)

/-- 'laws.FnStateBytes': WHATEVER THE INPUT: true; the input reads as it did. -/
def fnStateBytesSpec : ChangeSpec := { name := "fnStateBytes", fn := fun _ => fun
  | [d] => { results := [.lit (.bool true)], args := [d] }
  | _ => none }
def fnStateBytesRow : OpenClaim := { program := "ytnlnledijpcjpab", sum := "993092fd1cb4a57adf7d43cde0260e97c229202937a2038d7810d63268db40ee", func := "loop.example/g00486/laws.FnStateBytes", spec := "fnStateBytes", apart := false }
def FnStateBytesSaid : Prop := fnStateBytesRow.holds Try.pinned (OpenSpec.ofChange fnStateBytesSpec)

/-- ITS FALSE NEIGHBOUR: 'it returns false'. Refute it at one input. -/
def fnStateBytesWrong : ChangeSpec := { name := "fnStateBytes", fn := fun _ => fun
  | [d] => { results := [.lit (.bool false)], args := [d] }
  | _ => none }
def FnStateBytesWrongFalsely : Prop := fnStateBytesRow.holds Try.pinned (OpenSpec.ofChange fnStateBytesWrong)

/-- 'laws.FnSetPieces': WHATEVER THE INPUT: true; the input reads as it did. -/
def fnSetPiecesSpec : ChangeSpec := { name := "fnSetPieces", fn := fun _ => fun
  | [d] => { results := [.lit (.bool true)], args := [d] }
  | _ => none }
def fnSetPiecesRow : OpenClaim := { program := "ytnlnledijpcjpab", sum := "993092fd1cb4a57adf7d43cde0260e97c229202937a2038d7810d63268db40ee", func := "loop.example/g00486/laws.FnSetPieces", spec := "fnSetPieces", unfollowed := true, recurses := true, apart := false }
def FnSetPiecesSaid : Prop := fnSetPiecesRow.holds Try.pinned (OpenSpec.ofChange fnSetPiecesSpec)

/-- ITS FALSE NEIGHBOUR: 'it returns false'. Refute it at one input. -/
def fnSetPiecesWrong : ChangeSpec := { name := "fnSetPieces", fn := fun _ => fun
  | [d] => { results := [.lit (.bool false)], args := [d] }
  | _ => none }
def FnSetPiecesWrongFalsely : Prop := fnSetPiecesRow.holds Try.pinned (OpenSpec.ofChange fnSetPiecesWrong)

/- THE SECOND FORM. 'bulk': how many values and letters a reading holds, each counted each time it is reached (what is shared counts as often as it is met; a slice's spare places count too). A statement '..UptoSaid' is the law's where the arguments, and the package variables that the reading takes, are together of bulk at most 1048576: NARROWER than '..Said'. Prove '..Said' where nothing that the law and all that it calls make is longer than what came in: it says more and counts as full. Else prove '..UptoSaid'. A law counts once. -/
mutual
def uptoBulk {H : Type} : DataW H → Nat
  | .lit (.string bytes) => bytes.length + 1
  | .lit _ => 1
  | .nil => 1
  | .ptr d => uptoBulk d + 1
  | .slice elems spare => uptoBulkAll elems + uptoBulkAll spare + 1
  | .agg parts => uptoBulkAll parts + 1
  | .iface _ d => uptoBulk d + 1
  | .map entries => uptoBulkEntries entries + 1
  | .held _ => 1
def uptoBulkAll {H : Type} : List (DataW H) → Nat
  | [] => 0
  | d :: r => uptoBulk d + uptoBulkAll r
def uptoBulkEntries {H : Type} : List (Lit × DataW H) → Nat
  | [] => 0
  | x :: r => uptoBulkEntry x + uptoBulkEntries r
def uptoBulkEntry {H : Type} : Lit × DataW H → Nat
  | (.string bytes, d) => bytes.length + uptoBulk d + 1
  | (_, d) => uptoBulk d + 1
 end
def uptoSmall : (H : Type) → List (DataW H) → Bool := fun _ ds => decide (uptoBulkAll ds ≤ 1048576)
def OpenSpec.upto (s : _root_.Go.ChangeSpec) : _root_.Go.OpenSpec := { _root_.Go.OpenSpec.ofChange s with cond := some uptoSmall }

/-- 'laws.FnSetSums', WHERE WHAT IT READS IS OF BULK AT MOST 1048576: true; the input reads as it did. -/
def fnSetSumsUptoRow : OpenClaim := { program := "ytnlnledijpcjpab", sum := "993092fd1cb4a57adf7d43cde0260e97c229202937a2038d7810d63268db40ee", func := "loop.example/g00486/laws.FnSetSums", spec := "fnSetSums", unfollowed := true, recurses := true, apart := false, narrowed := true }
def FnSetSumsUptoSaid : Prop := fnSetSumsUptoRow.holds Try.pinned (OpenSpec.upto fnSetSumsSpec)

/-- 'laws.FnPieces', WHERE WHAT IT READS IS OF BULK AT MOST 1048576: true; the input reads as it did. -/
def fnPiecesUptoRow : OpenClaim := { program := "ytnlnledijpcjpab", sum := "993092fd1cb4a57adf7d43cde0260e97c229202937a2038d7810d63268db40ee", func := "loop.example/g00486/laws.FnPieces", spec := "fnPieces", apart := false, narrowed := true }
def FnPiecesUptoSaid : Prop := fnPiecesUptoRow.holds Try.pinned (OpenSpec.upto fnPiecesSpec)

/-- 'laws.FnPieceBytes', WHERE WHAT IT READS IS OF BULK AT MOST 1048576: true; the input reads as it did. -/
def fnPieceBytesUptoRow : OpenClaim := { program := "ytnlnledijpcjpab", sum := "993092fd1cb4a57adf7d43cde0260e97c229202937a2038d7810d63268db40ee", func := "loop.example/g00486/laws.FnPieceBytes", spec := "fnPieceBytes", apart := false, narrowed := true }
def FnPieceBytesUptoSaid : Prop := fnPieceBytesUptoRow.holds Try.pinned (OpenSpec.upto fnPieceBytesSpec)

/-- 'laws.FnStates', WHERE WHAT IT READS IS OF BULK AT MOST 1048576: true; the input reads as it did. -/
def fnStatesUptoRow : OpenClaim := { program := "ytnlnledijpcjpab", sum := "993092fd1cb4a57adf7d43cde0260e97c229202937a2038d7810d63268db40ee", func := "loop.example/g00486/laws.FnStates", spec := "fnStates", unfollowed := true, recurses := true, apart := false, narrowed := true }
def FnStatesUptoSaid : Prop := fnStatesUptoRow.holds Try.pinned (OpenSpec.upto fnStatesSpec)

/-- 'laws.FnStateBytes', WHERE WHAT IT READS IS OF BULK AT MOST 1048576: true; the input reads as it did. -/
def fnStateBytesUptoRow : OpenClaim := { program := "ytnlnledijpcjpab", sum := "993092fd1cb4a57adf7d43cde0260e97c229202937a2038d7810d63268db40ee", func := "loop.example/g00486/laws.FnStateBytes", spec := "fnStateBytes", apart := false, narrowed := true }
def FnStateBytesUptoSaid : Prop := fnStateBytesUptoRow.holds Try.pinned (OpenSpec.upto fnStateBytesSpec)

/-- 'laws.FnSetPieces', WHERE WHAT IT READS IS OF BULK AT MOST 1048576: true; the input reads as it did. -/
def fnSetPiecesUptoRow : OpenClaim := { program := "ytnlnledijpcjpab", sum := "993092fd1cb4a57adf7d43cde0260e97c229202937a2038d7810d63268db40ee", func := "loop.example/g00486/laws.FnSetPieces", spec := "fnSetPieces", unfollowed := true, recurses := true, apart := false, narrowed := true }
def FnSetPiecesUptoSaid : Prop := fnSetPiecesUptoRow.holds Try.pinned (OpenSpec.upto fnSetPiecesSpec)

end Rows
end Go.Proofs.Ytnlnledijpcjpab
