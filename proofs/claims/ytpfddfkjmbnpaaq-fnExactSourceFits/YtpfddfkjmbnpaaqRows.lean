/-
  No cell of these rows narrows 'for every input' (looked for: loops, veiled, ifaces, maps, wideKeys, modest, calm, conditions, laid).
  DERIVED. THE GIVEN ROWS OF THIS SEAT. 4 by the template 'for every input the law returns true; each argument reads behind the call as it read before'; 0 by the template 'total and deterministic' (their statements: YtpfddfkjmbnpaaqTotals.lean).
  GIVEN WITH THE SEED: the statements are not yours to turn. If you find one false, say at which input.
  Laid BY PROGRAM, IN A SANDBOX (cutbox-rows.mjs): the forced cells as the released guide's own fill.sh prints them over the translation 844869c271d21dfe… (all of the seat's roots in one cut). By AI agents, Wed Nov 11 2026. No macro, syntax, notation, axiom, sorry.
-/
import Derived.Test.YtpfddfkjmbnpaaqChecked
import GoSem.Claim
import GoSem.ClaimJoined
import GoSem.ClaimMapViews
import Derived.JoinedTies
import Derived.KernelRfl
namespace Go.Proofs.Ytpfddfkjmbnpaaq
/- THE CELL 'sum', in the pinned program and in every row, IS THE sha256 OF THE DUMP (.gsa) THAT YtpfddfkjmbnpaaqProg.lean LOADS. Nothing in Lean hashes anything: it is a label: what it is worth is what the hold of that sum in a sandbox is worth. -/
noncomputable def Try.pinned : Pinned := { name := "ytpfddfkjmbnpaaq", sum := "844869c271d21dfefd81b6f3e290ed2ae4345212d65a31cd048afde879e9024c", checked := Try.checked }
namespace Rows
def none {H : Type} : Left H := { results := [], args := [] }

/-- 'laws.FnExactPatOk': WHATEVER THE INPUT: true; the input reads as it did. -/
def fnExactPatOkSpec : ChangeSpec := { name := "fnExactPatOk", fn := fun _ => fun
  | [d] => { results := [.lit (.bool true)], args := [d] }
  | _ => none }
def fnExactPatOkRow : OpenClaim := { program := "ytpfddfkjmbnpaaq", sum := "844869c271d21dfefd81b6f3e290ed2ae4345212d65a31cd048afde879e9024c", func := "loop.example/g00486/laws.FnExactPatOk", spec := "fnExactPatOk", apart := false }
def FnExactPatOkSaid : Prop := fnExactPatOkRow.holds Try.pinned (OpenSpec.ofChange fnExactPatOkSpec)

/-- ITS FALSE NEIGHBOUR: 'it returns false'. Refute it at one input. -/
def fnExactPatOkWrong : ChangeSpec := { name := "fnExactPatOk", fn := fun _ => fun
  | [d] => { results := [.lit (.bool false)], args := [d] }
  | _ => none }
def FnExactPatOkWrongFalsely : Prop := fnExactPatOkRow.holds Try.pinned (OpenSpec.ofChange fnExactPatOkWrong)

/-- 'laws.FnExactSourceFits': WHATEVER THE INPUT: true; the input reads as it did. -/
def fnExactSourceFitsSpec : ChangeSpec := { name := "fnExactSourceFits", fn := fun _ => fun
  | [d1, d2, d3] => { results := [.lit (.bool true)], args := [d1, d2, d3] }
  | _ => none }
def fnExactSourceFitsRow : OpenClaim := { program := "ytpfddfkjmbnpaaq", sum := "844869c271d21dfefd81b6f3e290ed2ae4345212d65a31cd048afde879e9024c", func := "loop.example/g00486/laws.FnExactSourceFits", spec := "fnExactSourceFits", unfollowed := true, recurses := true, apart := false }
def FnExactSourceFitsSaid : Prop := fnExactSourceFitsRow.holds Try.pinned (OpenSpec.ofChange fnExactSourceFitsSpec)

/-- ITS FALSE NEIGHBOUR: 'it returns false'. Refute it at one input. -/
def fnExactSourceFitsWrong : ChangeSpec := { name := "fnExactSourceFits", fn := fun _ => fun
  | [d1, d2, d3] => { results := [.lit (.bool false)], args := [d1, d2, d3] }
  | _ => none }
def FnExactSourceFitsWrongFalsely : Prop := fnExactSourceFitsRow.holds Try.pinned (OpenSpec.ofChange fnExactSourceFitsWrong)

/-- 'laws.FnExactPatFits': WHATEVER THE INPUT: true; the input reads as it did. -/
def fnExactPatFitsSpec : ChangeSpec := { name := "fnExactPatFits", fn := fun _ => fun
  | [d1, d2, d3, d4] => { results := [.lit (.bool true)], args := [d1, d2, d3, d4] }
  | _ => none }
def fnExactPatFitsRow : OpenClaim := { program := "ytpfddfkjmbnpaaq", sum := "844869c271d21dfefd81b6f3e290ed2ae4345212d65a31cd048afde879e9024c", func := "loop.example/g00486/laws.FnExactPatFits", spec := "fnExactPatFits", unfollowed := true, recurses := true, apart := false }
def FnExactPatFitsSaid : Prop := fnExactPatFitsRow.holds Try.pinned (OpenSpec.ofChange fnExactPatFitsSpec)

/-- ITS FALSE NEIGHBOUR: 'it returns false'. Refute it at one input. -/
def fnExactPatFitsWrong : ChangeSpec := { name := "fnExactPatFits", fn := fun _ => fun
  | [d1, d2, d3, d4] => { results := [.lit (.bool false)], args := [d1, d2, d3, d4] }
  | _ => none }
def FnExactPatFitsWrongFalsely : Prop := fnExactPatFitsRow.holds Try.pinned (OpenSpec.ofChange fnExactPatFitsWrong)

/-- 'laws.FnExactNarrower': WHATEVER THE INPUT: true; the input reads as it did. -/
def fnExactNarrowerSpec : ChangeSpec := { name := "fnExactNarrower", fn := fun _ => fun
  | [d1, d2] => { results := [.lit (.bool true)], args := [d1, d2] }
  | _ => none }
def fnExactNarrowerRow : OpenClaim := { program := "ytpfddfkjmbnpaaq", sum := "844869c271d21dfefd81b6f3e290ed2ae4345212d65a31cd048afde879e9024c", func := "loop.example/g00486/laws.FnExactNarrower", spec := "fnExactNarrower", apart := false }
def FnExactNarrowerSaid : Prop := fnExactNarrowerRow.holds Try.pinned (OpenSpec.ofChange fnExactNarrowerSpec)

/-- ITS FALSE NEIGHBOUR: 'it returns false'. Refute it at one input. -/
def fnExactNarrowerWrong : ChangeSpec := { name := "fnExactNarrower", fn := fun _ => fun
  | [d1, d2] => { results := [.lit (.bool false)], args := [d1, d2] }
  | _ => none }
def FnExactNarrowerWrongFalsely : Prop := fnExactNarrowerRow.holds Try.pinned (OpenSpec.ofChange fnExactNarrowerWrong)

/- THE SECOND FORM. 'bulk': how many values and letters a reading holds, each counted each time it is reached (what is shared counts as often as it is met; a slice's spare places count too). A statement '..UptoSaid' is the law's where the arguments, and the package variables that the reading takes, are together of bulk at most 1048576: NARROWER than '..Said'. Prove '..Said' where nothing that the law and all that it calls make is longer than what came in: it says more and counts as full. Else prove '..UptoSaid'. A law counts once. -/
mutual
def uptoBulk {H : Type} : DataW H → Nat
  | .lit (.string bytes) => bytes.length + 1
  | .lit _ => 1
  | .nil => 1
  | .ptr d => uptoBulk d + 1
  | .slice elems spare => uptoBulkAll elems + uptoBulkAll spare + 1
  | .agg parts => uptoBulkAll parts + 1
  | .iface _ d => uptoBulk d + 1
  | .map entries => uptoBulkEntries entries + 1
  | .held _ => 1
def uptoBulkAll {H : Type} : List (DataW H) → Nat
  | [] => 0
  | d :: r => uptoBulk d + uptoBulkAll r
def uptoBulkEntries {H : Type} : List (Lit × DataW H) → Nat
  | [] => 0
  | x :: r => uptoBulkEntry x + uptoBulkEntries r
def uptoBulkEntry {H : Type} : Lit × DataW H → Nat
  | (.string bytes, d) => bytes.length + uptoBulk d + 1
  | (_, d) => uptoBulk d + 1
 end
def uptoSmall : (H : Type) → List (DataW H) → Bool := fun _ ds => decide (uptoBulkAll ds ≤ 1048576)
def OpenSpec.upto (s : _root_.Go.ChangeSpec) : _root_.Go.OpenSpec := { _root_.Go.OpenSpec.ofChange s with cond := some uptoSmall }

/-- 'laws.FnExactPatOk', WHERE WHAT IT READS IS OF BULK AT MOST 1048576: true; the input reads as it did. -/
def fnExactPatOkUptoRow : OpenClaim := { program := "ytpfddfkjmbnpaaq", sum := "844869c271d21dfefd81b6f3e290ed2ae4345212d65a31cd048afde879e9024c", func := "loop.example/g00486/laws.FnExactPatOk", spec := "fnExactPatOk", apart := false, narrowed := true }
def FnExactPatOkUptoSaid : Prop := fnExactPatOkUptoRow.holds Try.pinned (OpenSpec.upto fnExactPatOkSpec)

/-- 'laws.FnExactSourceFits', WHERE WHAT IT READS IS OF BULK AT MOST 1048576: true; the input reads as it did. -/
def fnExactSourceFitsUptoRow : OpenClaim := { program := "ytpfddfkjmbnpaaq", sum := "844869c271d21dfefd81b6f3e290ed2ae4345212d65a31cd048afde879e9024c", func := "loop.example/g00486/laws.FnExactSourceFits", spec := "fnExactSourceFits", unfollowed := true, recurses := true, apart := false, narrowed := true }
def FnExactSourceFitsUptoSaid : Prop := fnExactSourceFitsUptoRow.holds Try.pinned (OpenSpec.upto fnExactSourceFitsSpec)

/-- 'laws.FnExactPatFits', WHERE WHAT IT READS IS OF BULK AT MOST 1048576: true; the input reads as it did. -/
def fnExactPatFitsUptoRow : OpenClaim := { program := "ytpfddfkjmbnpaaq", sum := "844869c271d21dfefd81b6f3e290ed2ae4345212d65a31cd048afde879e9024c", func := "loop.example/g00486/laws.FnExactPatFits", spec := "fnExactPatFits", unfollowed := true, recurses := true, apart := false, narrowed := true }
def FnExactPatFitsUptoSaid : Prop := fnExactPatFitsUptoRow.holds Try.pinned (OpenSpec.upto fnExactPatFitsSpec)

/-- 'laws.FnExactNarrower', WHERE WHAT IT READS IS OF BULK AT MOST 1048576: true; the input reads as it did. -/
def fnExactNarrowerUptoRow : OpenClaim := { program := "ytpfddfkjmbnpaaq", sum := "844869c271d21dfefd81b6f3e290ed2ae4345212d65a31cd048afde879e9024c", func := "loop.example/g00486/laws.FnExactNarrower", spec := "fnExactNarrower", apart := false, narrowed := true }
def FnExactNarrowerUptoSaid : Prop := fnExactNarrowerUptoRow.holds Try.pinned (OpenSpec.upto fnExactNarrowerSpec)

end Rows
end Go.Proofs.Ytpfddfkjmbnpaaq
