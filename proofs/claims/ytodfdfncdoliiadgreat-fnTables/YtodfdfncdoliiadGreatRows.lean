/-
  No cell of these rows narrows 'for every input' (looked for: loops, veiled, ifaces, maps, wideKeys, modest, calm, conditions, laid).
  DERIVED. THE GIVEN ROWS OF THIS SEAT. 3 by the template 'for every input the law returns true; each argument reads behind the call as it read before'; 0 by the template 'total and deterministic' (their statements: YtodfdfncdoliiadGreatTotals.lean).
  GIVEN WITH THE SEED: the statements are not yours to turn. If you find one false, say at which input.
  Laid BY PROGRAM, IN A SANDBOX (cutbox-rows.mjs): the forced cells as the released guide's own fill.sh prints them over the translation be3fc459c4a031b8… (all of the seat's roots in one cut). By AI agents, Wed Nov 11 2026. No macro, syntax, notation, axiom, sorry.
-/
import Derived.Test.YtodfdfncdoliiadGreatChecked
import GoSem.Claim
import GoSem.ClaimJoined
import GoSem.ClaimMapViews
import Derived.JoinedTies
import Derived.KernelRfl
namespace Go.Proofs.YtodfdfncdoliiadGreat
/- THE CELL 'sum', in the pinned program and in every row, IS THE sha256 OF THE DUMP (.gsa) THAT YtodfdfncdoliiadGreatProg.lean LOADS. Nothing in Lean hashes anything: it is a label: what it is worth is what the hold of that sum in a sandbox is worth. -/
noncomputable def Tryz.pinned : Pinned := { name := "ytodfdfncdoliiadgreat", sum := "be3fc459c4a031b8300056aaa9735e06d7204a5924455f2e5322829460913a1f", checked := Tryz.checked }
namespace Rows
def none {H : Type} : Left H := { results := [], args := [] }

/-- 'laws.FnEffects': WHATEVER THE INPUT: true; the input reads as it did. -/
def fnEffectsSpec : ChangeSpec := { name := "fnEffects", fn := fun _ => fun
  | [d] => { results := [.lit (.bool true)], args := [d] }
  | _ => none }
def fnEffectsRow : OpenClaim := { program := "ytodfdfncdoliiadgreat", sum := "be3fc459c4a031b8300056aaa9735e06d7204a5924455f2e5322829460913a1f", func := "loop.example/g00486/laws.FnEffects", spec := "fnEffects", unfollowed := true, recurses := true, plainKeys := false, apart := false }
def FnEffectsSaid : Prop := fnEffectsRow.holds Tryz.pinned (OpenSpec.ofChange fnEffectsSpec)

/-- ITS FALSE NEIGHBOUR: 'it returns false'. Refute it at one input. -/
def fnEffectsWrong : ChangeSpec := { name := "fnEffects", fn := fun _ => fun
  | [d] => { results := [.lit (.bool false)], args := [d] }
  | _ => none }
def FnEffectsWrongFalsely : Prop := fnEffectsRow.holds Tryz.pinned (OpenSpec.ofChange fnEffectsWrong)

/-- 'laws.FnTables': WHATEVER THE INPUT: true; the input reads as it did. -/
def fnTablesSpec : ChangeSpec := { name := "fnTables", fn := fun _ => fun
  | [d] => { results := [.lit (.bool true)], args := [d] }
  | _ => none }
def fnTablesRow : OpenClaim := { program := "ytodfdfncdoliiadgreat", sum := "be3fc459c4a031b8300056aaa9735e06d7204a5924455f2e5322829460913a1f", func := "loop.example/g00486/laws.FnTables", spec := "fnTables", unfollowed := true, recurses := true, plainKeys := false, apart := false }
def FnTablesSaid : Prop := fnTablesRow.holds Tryz.pinned (OpenSpec.ofChange fnTablesSpec)

/-- ITS FALSE NEIGHBOUR: 'it returns false'. Refute it at one input. -/
def fnTablesWrong : ChangeSpec := { name := "fnTables", fn := fun _ => fun
  | [d] => { results := [.lit (.bool false)], args := [d] }
  | _ => none }
def FnTablesWrongFalsely : Prop := fnTablesRow.holds Tryz.pinned (OpenSpec.ofChange fnTablesWrong)

/-- 'laws.FnInstalls': WHATEVER THE INPUT: true; the input reads as it did. -/
def fnInstallsSpec : ChangeSpec := { name := "fnInstalls", fn := fun _ => fun
  | [d] => { results := [.lit (.bool true)], args := [d] }
  | _ => none }
def fnInstallsRow : OpenClaim := { program := "ytodfdfncdoliiadgreat", sum := "be3fc459c4a031b8300056aaa9735e06d7204a5924455f2e5322829460913a1f", func := "loop.example/g00486/laws.FnInstalls", spec := "fnInstalls", inPlace := ["slices.overlaps[loop.example/g00486/impl.mark]"], unfollowed := true, recurses := true, plainKeys := false, apart := false }
def FnInstallsSaid : Prop := fnInstallsRow.holds Tryz.pinned (OpenSpec.ofChange fnInstallsSpec)

/-- ITS FALSE NEIGHBOUR: 'it returns false'. Refute it at one input. -/
def fnInstallsWrong : ChangeSpec := { name := "fnInstalls", fn := fun _ => fun
  | [d] => { results := [.lit (.bool false)], args := [d] }
  | _ => none }
def FnInstallsWrongFalsely : Prop := fnInstallsRow.holds Tryz.pinned (OpenSpec.ofChange fnInstallsWrong)

/- THE SECOND FORM. 'bulk': how many values and letters a reading holds, each counted each time it is reached (what is shared counts as often as it is met; a slice's spare places count too). A statement '..UptoSaid' is the law's where the arguments, and the package variables that the reading takes, are together of bulk at most 1048576: NARROWER than '..Said'. Prove '..Said' where nothing that the law and all that it calls make is longer than what came in: it says more and counts as full. Else prove '..UptoSaid'. A law counts once. -/
mutual
def uptoBulk {H : Type} : DataW H → Nat
  | .lit (.string bytes) => bytes.length + 1
  | .lit _ => 1
  | .nil => 1
  | .ptr d => uptoBulk d + 1
  | .slice elems spare => uptoBulkAll elems + uptoBulkAll spare + 1
  | .agg parts => uptoBulkAll parts + 1
  | .iface _ d => uptoBulk d + 1
  | .map entries => uptoBulkEntries entries + 1
  | .held _ => 1
def uptoBulkAll {H : Type} : List (DataW H) → Nat
  | [] => 0
  | d :: r => uptoBulk d + uptoBulkAll r
def uptoBulkEntries {H : Type} : List (Lit × DataW H) → Nat
  | [] => 0
  | x :: r => uptoBulkEntry x + uptoBulkEntries r
def uptoBulkEntry {H : Type} : Lit × DataW H → Nat
  | (.string bytes, d) => bytes.length + uptoBulk d + 1
  | (_, d) => uptoBulk d + 1
 end
def uptoSmall : (H : Type) → List (DataW H) → Bool := fun _ ds => decide (uptoBulkAll ds ≤ 1048576)
def OpenSpec.upto (s : _root_.Go.ChangeSpec) : _root_.Go.OpenSpec := { _root_.Go.OpenSpec.ofChange s with cond := some uptoSmall }

/-- 'laws.FnEffects', WHERE WHAT IT READS IS OF BULK AT MOST 1048576: true; the input reads as it did. -/
def fnEffectsUptoRow : OpenClaim := { program := "ytodfdfncdoliiadgreat", sum := "be3fc459c4a031b8300056aaa9735e06d7204a5924455f2e5322829460913a1f", func := "loop.example/g00486/laws.FnEffects", spec := "fnEffects", unfollowed := true, recurses := true, plainKeys := false, apart := false, narrowed := true }
def FnEffectsUptoSaid : Prop := fnEffectsUptoRow.holds Tryz.pinned (OpenSpec.upto fnEffectsSpec)

/-- 'laws.FnTables', WHERE WHAT IT READS IS OF BULK AT MOST 1048576: true; the input reads as it did. -/
def fnTablesUptoRow : OpenClaim := { program := "ytodfdfncdoliiadgreat", sum := "be3fc459c4a031b8300056aaa9735e06d7204a5924455f2e5322829460913a1f", func := "loop.example/g00486/laws.FnTables", spec := "fnTables", unfollowed := true, recurses := true, plainKeys := false, apart := false, narrowed := true }
def FnTablesUptoSaid : Prop := fnTablesUptoRow.holds Tryz.pinned (OpenSpec.upto fnTablesSpec)

/-- 'laws.FnInstalls', WHERE WHAT IT READS IS OF BULK AT MOST 1048576: true; the input reads as it did. -/
def fnInstallsUptoRow : OpenClaim := { program := "ytodfdfncdoliiadgreat", sum := "be3fc459c4a031b8300056aaa9735e06d7204a5924455f2e5322829460913a1f", func := "loop.example/g00486/laws.FnInstalls", spec := "fnInstalls", inPlace := ["slices.overlaps[loop.example/g00486/impl.mark]"], unfollowed := true, recurses := true, plainKeys := false, apart := false, narrowed := true }
def FnInstallsUptoSaid : Prop := fnInstallsUptoRow.holds Tryz.pinned (OpenSpec.upto fnInstallsSpec)

end Rows
end Go.Proofs.YtodfdfncdoliiadGreat
