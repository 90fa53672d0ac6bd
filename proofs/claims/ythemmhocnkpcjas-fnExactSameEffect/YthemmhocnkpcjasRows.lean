/-
  No cell of these rows narrows 'for every input' (looked for: loops, veiled, ifaces, maps, wideKeys, modest, calm, conditions, laid).
  DERIVED. THE GIVEN ROWS OF THIS SEAT. 5 by the template 'for every input the law returns true; each argument reads behind the call as it read before'; 0 by the template 'total and deterministic' (their statements: YthemmhocnkpcjasTotals.lean).
  GIVEN WITH THE SEED: the statements are not yours to turn. If you find one false, say at which input.
  Laid BY PROGRAM, IN A SANDBOX (cutbox-rows.mjs): the forced cells as the released guide's own fill.sh prints them over the translation 16a49f2aacb32cde… (all of the seat's roots in one cut). By AI agents, Wed Nov 11 2026. No macro, syntax, notation, axiom, sorry.
-/
import Derived.Test.YthemmhocnkpcjasChecked
import GoSem.Claim
import GoSem.ClaimJoined
import GoSem.ClaimMapViews
import Derived.JoinedTies
import Derived.KernelRfl
namespace Go.Proofs.Ythemmhocnkpcjas
/- THE CELL 'sum', in the pinned program and in every row, IS THE sha256 OF THE DUMP (.gsa) THAT YthemmhocnkpcjasProg.lean LOADS. Nothing in Lean hashes anything: it is a label: what it is worth is what the hold of that sum in a sandbox is worth. -/
noncomputable def Try.pinned : Pinned := { name := "ythemmhocnkpcjas", sum := "16a49f2aacb32cde88e72df1074ccdc855f2d97c44c3354b9b03999cb2af7957", checked := Try.checked }
namespace Rows
def none {H : Type} : Left H := { results := [], args := [] }

/-- 'laws.FnExactAmount': WHATEVER THE INPUT: true; the input reads as it did. -/
def fnExactAmountSpec : ChangeSpec := { name := "fnExactAmount", fn := fun _ => fun
  | [d1, d2] => { results := [.lit (.bool true)], args := [d1, d2] }
  | _ => none }
def fnExactAmountRow : OpenClaim := { program := "ythemmhocnkpcjas", sum := "16a49f2aacb32cde88e72df1074ccdc855f2d97c44c3354b9b03999cb2af7957", func := "loop.example/g00486/laws.FnExactAmount", spec := "fnExactAmount", apart := false }
def FnExactAmountSaid : Prop := fnExactAmountRow.holds Try.pinned (OpenSpec.ofChange fnExactAmountSpec)

/-- ITS FALSE NEIGHBOUR: 'it returns false'. Refute it at one input. -/
def fnExactAmountWrong : ChangeSpec := { name := "fnExactAmount", fn := fun _ => fun
  | [d1, d2] => { results := [.lit (.bool false)], args := [d1, d2] }
  | _ => none }
def FnExactAmountWrongFalsely : Prop := fnExactAmountRow.holds Try.pinned (OpenSpec.ofChange fnExactAmountWrong)

/-- 'laws.FnExactParts': WHATEVER THE INPUT: true; the input reads as it did. -/
def fnExactPartsSpec : ChangeSpec := { name := "fnExactParts", fn := fun _ => fun
  | [d1, d2] => { results := [.lit (.bool true)], args := [d1, d2] }
  | _ => none }
def fnExactPartsRow : OpenClaim := { program := "ythemmhocnkpcjas", sum := "16a49f2aacb32cde88e72df1074ccdc855f2d97c44c3354b9b03999cb2af7957", func := "loop.example/g00486/laws.FnExactParts", spec := "fnExactParts", apart := false }
def FnExactPartsSaid : Prop := fnExactPartsRow.holds Try.pinned (OpenSpec.ofChange fnExactPartsSpec)

/-- ITS FALSE NEIGHBOUR: 'it returns false'. Refute it at one input. -/
def fnExactPartsWrong : ChangeSpec := { name := "fnExactParts", fn := fun _ => fun
  | [d1, d2] => { results := [.lit (.bool false)], args := [d1, d2] }
  | _ => none }
def FnExactPartsWrongFalsely : Prop := fnExactPartsRow.holds Try.pinned (OpenSpec.ofChange fnExactPartsWrong)

/-- 'laws.FnExactEffectOk': WHATEVER THE INPUT: true; the input reads as it did. -/
def fnExactEffectOkSpec : ChangeSpec := { name := "fnExactEffectOk", fn := fun _ => fun
  | [d] => { results := [.lit (.bool true)], args := [d] }
  | _ => none }
def fnExactEffectOkRow : OpenClaim := { program := "ythemmhocnkpcjas", sum := "16a49f2aacb32cde88e72df1074ccdc855f2d97c44c3354b9b03999cb2af7957", func := "loop.example/g00486/laws.FnExactEffectOk", spec := "fnExactEffectOk", unfollowed := true, recurses := true, apart := false }
def FnExactEffectOkSaid : Prop := fnExactEffectOkRow.holds Try.pinned (OpenSpec.ofChange fnExactEffectOkSpec)

/-- ITS FALSE NEIGHBOUR: 'it returns false'. Refute it at one input. -/
def fnExactEffectOkWrong : ChangeSpec := { name := "fnExactEffectOk", fn := fun _ => fun
  | [d] => { results := [.lit (.bool false)], args := [d] }
  | _ => none }
def FnExactEffectOkWrongFalsely : Prop := fnExactEffectOkRow.holds Try.pinned (OpenSpec.ofChange fnExactEffectOkWrong)

/-- 'laws.FnExactSameEffect': WHATEVER THE INPUT: true; the input reads as it did. -/
def fnExactSameEffectSpec : ChangeSpec := { name := "fnExactSameEffect", fn := fun _ => fun
  | [d1, d2] => { results := [.lit (.bool true)], args := [d1, d2] }
  | _ => none }
def fnExactSameEffectRow : OpenClaim := { program := "ythemmhocnkpcjas", sum := "16a49f2aacb32cde88e72df1074ccdc855f2d97c44c3354b9b03999cb2af7957", func := "loop.example/g00486/laws.FnExactSameEffect", spec := "fnExactSameEffect", apart := false }
def FnExactSameEffectSaid : Prop := fnExactSameEffectRow.holds Try.pinned (OpenSpec.ofChange fnExactSameEffectSpec)

/-- ITS FALSE NEIGHBOUR: 'it returns false'. Refute it at one input. -/
def fnExactSameEffectWrong : ChangeSpec := { name := "fnExactSameEffect", fn := fun _ => fun
  | [d1, d2] => { results := [.lit (.bool false)], args := [d1, d2] }
  | _ => none }
def FnExactSameEffectWrongFalsely : Prop := fnExactSameEffectRow.holds Try.pinned (OpenSpec.ofChange fnExactSameEffectWrong)

/-- 'laws.FnExactLives': WHATEVER THE INPUT: true; the input reads as it did. -/
def fnExactLivesSpec : ChangeSpec := { name := "fnExactLives", fn := fun _ => fun
  | [d1, d2] => { results := [.lit (.bool true)], args := [d1, d2] }
  | _ => none }
def fnExactLivesRow : OpenClaim := { program := "ythemmhocnkpcjas", sum := "16a49f2aacb32cde88e72df1074ccdc855f2d97c44c3354b9b03999cb2af7957", func := "loop.example/g00486/laws.FnExactLives", spec := "fnExactLives", apart := false }
def FnExactLivesSaid : Prop := fnExactLivesRow.holds Try.pinned (OpenSpec.ofChange fnExactLivesSpec)

/-- ITS FALSE NEIGHBOUR: 'it returns false'. Refute it at one input. -/
def fnExactLivesWrong : ChangeSpec := { name := "fnExactLives", fn := fun _ => fun
  | [d1, d2] => { results := [.lit (.bool false)], args := [d1, d2] }
  | _ => none }
def FnExactLivesWrongFalsely : Prop := fnExactLivesRow.holds Try.pinned (OpenSpec.ofChange fnExactLivesWrong)

/- THE SECOND FORM. 'bulk': how many values and letters a reading holds, each counted each time it is reached (what is shared counts as often as it is met; a slice's spare places count too). A statement '..UptoSaid' is the law's where the arguments, and the package variables that the reading takes, are together of bulk at most 1048576: NARROWER than '..Said'. Prove '..Said' where nothing that the law and all that it calls make is longer than what came in: it says more and counts as full. Else prove '..UptoSaid'. A law counts once. -/
mutual
def uptoBulk {H : Type} : DataW H → Nat
  | .lit (.string bytes) => bytes.length + 1
  | .lit _ => 1
  | .nil => 1
  | .ptr d => uptoBulk d + 1
  | .slice elems spare => uptoBulkAll elems + uptoBulkAll spare + 1
  | .agg parts => uptoBulkAll parts + 1
  | .iface _ d => uptoBulk d + 1
  | .map entries => uptoBulkEntries entries + 1
  | .held _ => 1
def uptoBulkAll {H : Type} : List (DataW H) → Nat
  | [] => 0
  | d :: r => uptoBulk d + uptoBulkAll r
def uptoBulkEntries {H : Type} : List (Lit × DataW H) → Nat
  | [] => 0
  | x :: r => uptoBulkEntry x + uptoBulkEntries r
def uptoBulkEntry {H : Type} : Lit × DataW H → Nat
  | (.string bytes, d) => bytes.length + uptoBulk d + 1
  | (_, d) => uptoBulk d + 1
 end
def uptoSmall : (H : Type) → List (DataW H) → Bool := fun _ ds => decide (uptoBulkAll ds ≤ 1048576)
def OpenSpec.upto (s : _root_.Go.ChangeSpec) : _root_.Go.OpenSpec := { _root_.Go.OpenSpec.ofChange s with cond := some uptoSmall }

/-- 'laws.FnExactAmount', WHERE WHAT IT READS IS OF BULK AT MOST 1048576: true; the input reads as it did. -/
def fnExactAmountUptoRow : OpenClaim := { program := "ythemmhocnkpcjas", sum := "16a49f2aacb32cde88e72df1074ccdc855f2d97c44c3354b9b03999cb2af7957", func := "loop.example/g00486/laws.FnExactAmount", spec := "fnExactAmount", apart := false, narrowed := true }
def FnExactAmountUptoSaid : Prop := fnExactAmountUptoRow.holds Try.pinned (OpenSpec.upto fnExactAmountSpec)

/-- 'laws.FnExactParts', WHERE WHAT IT READS IS OF BULK AT MOST 1048576: true; the input reads as it did. -/
def fnExactPartsUptoRow : OpenClaim := { program := "ythemmhocnkpcjas", sum := "16a49f2aacb32cde88e72df1074ccdc855f2d97c44c3354b9b03999cb2af7957", func := "loop.example/g00486/laws.FnExactParts", spec := "fnExactParts", apart := false, narrowed := true }
def FnExactPartsUptoSaid : Prop := fnExactPartsUptoRow.holds Try.pinned (OpenSpec.upto fnExactPartsSpec)

/-- 'laws.FnExactEffectOk', WHERE WHAT IT READS IS OF BULK AT MOST 1048576: true; the input reads as it did. -/
def fnExactEffectOkUptoRow : OpenClaim := { program := "ythemmhocnkpcjas", sum := "16a49f2aacb32cde88e72df1074ccdc855f2d97c44c3354b9b03999cb2af7957", func := "loop.example/g00486/laws.FnExactEffectOk", spec := "fnExactEffectOk", unfollowed := true, recurses := true, apart := false, narrowed := true }
def FnExactEffectOkUptoSaid : Prop := fnExactEffectOkUptoRow.holds Try.pinned (OpenSpec.upto fnExactEffectOkSpec)

/-- 'laws.FnExactSameEffect', WHERE WHAT IT READS IS OF BULK AT MOST 1048576: true; the input reads as it did. -/
def fnExactSameEffectUptoRow : OpenClaim := { program := "ythemmhocnkpcjas", sum := "16a49f2aacb32cde88e72df1074ccdc855f2d97c44c3354b9b03999cb2af7957", func := "loop.example/g00486/laws.FnExactSameEffect", spec := "fnExactSameEffect", apart := false, narrowed := true }
def FnExactSameEffectUptoSaid : Prop := fnExactSameEffectUptoRow.holds Try.pinned (OpenSpec.upto fnExactSameEffectSpec)

/-- 'laws.FnExactLives', WHERE WHAT IT READS IS OF BULK AT MOST 1048576: true; the input reads as it did. -/
def fnExactLivesUptoRow : OpenClaim := { program := "ythemmhocnkpcjas", sum := "16a49f2aacb32cde88e72df1074ccdc855f2d97c44c3354b9b03999cb2af7957", func := "loop.example/g00486/laws.FnExactLives", spec := "fnExactLives", apart := false, narrowed := true }
def FnExactLivesUptoSaid : Prop := fnExactLivesUptoRow.holds Try.pinned (OpenSpec.upto fnExactLivesSpec)

end Rows
end Go.Proofs.Ythemmhocnkpcjas
