/-
  No cell of these rows narrows 'for every input' (looked for: loops, veiled, ifaces, maps, wideKeys, modest, calm, conditions, laid).
  DERIVED. THE GIVEN ROWS OF THIS SEAT. 5 by the template 'for every input the law returns true; each argument reads behind the call as it read before'; 0 by the template 'total and deterministic' (their statements: YteipohpfaofchabGreatTotals.lean).
  GIVEN WITH THE SEED: the statements are not yours to turn. If you find one false, say at which input.
  Laid BY PROGRAM, IN A SANDBOX (cutbox-rows.mjs): the forced cells as the released guide's own fill.sh prints them over the translation 01044e4ee14b7e80… (all of the seat's roots in one cut). By AI agents, Wed Nov 11 2026. No macro, syntax, notation, axiom, sorry.
-/
import Derived.Test.YteipohpfaofchabGreatChecked
import GoSem.Claim
import GoSem.ClaimJoined
import GoSem.ClaimMapViews
import Derived.JoinedTies
import Derived.KernelRfl
namespace Go.Proofs.YteipohpfaofchabGreat
/- THE CELL 'sum', in the pinned program and in every row, IS THE sha256 OF THE DUMP (.gsa) THAT YteipohpfaofchabGreatProg.lean LOADS. Nothing in Lean hashes anything: it is a label: what it is worth is what the hold of that sum in a sandbox is worth. -/
noncomputable def Tryz.pinned : Pinned := { name := "yteipohpfaofchabgreat", sum := "01044e4ee14b7e80a2309c09c461920a5ba525ca85b9782ec156c8bdd930b544", checked := Tryz.checked }
namespace Rows
def none {H : Type} : Left H := { results := [], args := [] }

/-- 'custoslaw03.TableCuts': WHATEVER THE INPUT: true; the input reads as it did. -/
def tableCutsSpec : ChangeSpec := { name := "tableCuts", fn := fun _ => fun
  | [d1, d2] => { results := [.lit (.bool true)], args := [d1, d2] }
  | _ => none }
def tableCutsRow : OpenClaim := { program := "yteipohpfaofchabgreat", sum := "01044e4ee14b7e80a2309c09c461920a5ba525ca85b9782ec156c8bdd930b544", func := "custos/custoslaw03.TableCuts", spec := "tableCuts", inPlace := ["internal/bytealg.abigen_runtime_cmpstring"], unfollowed := true, recurses := true, plainKeys := false, apart := false }
def TableCutsSaid : Prop := tableCutsRow.holds Tryz.pinned (OpenSpec.ofChange tableCutsSpec)

/-- ITS FALSE NEIGHBOUR: 'it returns false'. Refute it at one input. -/
def tableCutsWrong : ChangeSpec := { name := "tableCuts", fn := fun _ => fun
  | [d1, d2] => { results := [.lit (.bool false)], args := [d1, d2] }
  | _ => none }
def TableCutsWrongFalsely : Prop := tableCutsRow.holds Tryz.pinned (OpenSpec.ofChange tableCutsWrong)

/-- 'custoslaw03.TableRenames': WHATEVER THE INPUT: true; the input reads as it did. -/
def tableRenamesSpec : ChangeSpec := { name := "tableRenames", fn := fun _ => fun
  | [d1, d2, d3] => { results := [.lit (.bool true)], args := [d1, d2, d3] }
  | _ => none }
def tableRenamesRow : OpenClaim := { program := "yteipohpfaofchabgreat", sum := "01044e4ee14b7e80a2309c09c461920a5ba525ca85b9782ec156c8bdd930b544", func := "custos/custoslaw03.TableRenames", spec := "tableRenames", inPlace := ["internal/bytealg.abigen_runtime_cmpstring"], unfollowed := true, recurses := true, plainKeys := false, apart := false }
def TableRenamesSaid : Prop := tableRenamesRow.holds Tryz.pinned (OpenSpec.ofChange tableRenamesSpec)

/-- ITS FALSE NEIGHBOUR: 'it returns false'. Refute it at one input. -/
def tableRenamesWrong : ChangeSpec := { name := "tableRenames", fn := fun _ => fun
  | [d1, d2, d3] => { results := [.lit (.bool false)], args := [d1, d2, d3] }
  | _ => none }
def TableRenamesWrongFalsely : Prop := tableRenamesRow.holds Tryz.pinned (OpenSpec.ofChange tableRenamesWrong)

/-- 'custoslaw03.TableAlgebra': WHATEVER THE INPUT: true; the input reads as it did. -/
def tableAlgebraSpec : ChangeSpec := { name := "tableAlgebra", fn := fun _ => fun
  | [d1, d2, d3] => { results := [.lit (.bool true)], args := [d1, d2, d3] }
  | _ => none }
def tableAlgebraRow : OpenClaim := { program := "yteipohpfaofchabgreat", sum := "01044e4ee14b7e80a2309c09c461920a5ba525ca85b9782ec156c8bdd930b544", func := "custos/custoslaw03.TableAlgebra", spec := "tableAlgebra", inPlace := ["internal/bytealg.abigen_runtime_cmpstring"], unfollowed := true, recurses := true, plainKeys := false, apart := false }
def TableAlgebraSaid : Prop := tableAlgebraRow.holds Tryz.pinned (OpenSpec.ofChange tableAlgebraSpec)

/-- ITS FALSE NEIGHBOUR: 'it returns false'. Refute it at one input. -/
def tableAlgebraWrong : ChangeSpec := { name := "tableAlgebra", fn := fun _ => fun
  | [d1, d2, d3] => { results := [.lit (.bool false)], args := [d1, d2, d3] }
  | _ => none }
def TableAlgebraWrongFalsely : Prop := tableAlgebraRow.holds Tryz.pinned (OpenSpec.ofChange tableAlgebraWrong)

/-- 'custoslaw03.TableApart': WHATEVER THE INPUT: true; the input reads as it did. -/
def tableApartSpec : ChangeSpec := { name := "tableApart", fn := fun _ => fun
  | [d1, d2] => { results := [.lit (.bool true)], args := [d1, d2] }
  | _ => none }
def tableApartRow : OpenClaim := { program := "yteipohpfaofchabgreat", sum := "01044e4ee14b7e80a2309c09c461920a5ba525ca85b9782ec156c8bdd930b544", func := "custos/custoslaw03.TableApart", spec := "tableApart", inPlace := ["internal/bytealg.abigen_runtime_cmpstring"], unfollowed := true, recurses := true, plainKeys := false, apart := false }
def TableApartSaid : Prop := tableApartRow.holds Tryz.pinned (OpenSpec.ofChange tableApartSpec)

/-- ITS FALSE NEIGHBOUR: 'it returns false'. Refute it at one input. -/
def tableApartWrong : ChangeSpec := { name := "tableApart", fn := fun _ => fun
  | [d1, d2] => { results := [.lit (.bool false)], args := [d1, d2] }
  | _ => none }
def TableApartWrongFalsely : Prop := tableApartRow.holds Tryz.pinned (OpenSpec.ofChange tableApartWrong)

/-- 'custoslaw03.TableRows': WHATEVER THE INPUT: true; the input reads as it did. -/
def tableRowsSpec : ChangeSpec := { name := "tableRows", fn := fun _ => fun
  | [d1, d2, d3] => { results := [.lit (.bool true)], args := [d1, d2, d3] }
  | _ => none }
def tableRowsRow : OpenClaim := { program := "yteipohpfaofchabgreat", sum := "01044e4ee14b7e80a2309c09c461920a5ba525ca85b9782ec156c8bdd930b544", func := "custos/custoslaw03.TableRows", spec := "tableRows", inPlace := ["internal/bytealg.abigen_runtime_cmpstring"], unfollowed := true, recurses := true, plainKeys := false, apart := false }
def TableRowsSaid : Prop := tableRowsRow.holds Tryz.pinned (OpenSpec.ofChange tableRowsSpec)

/-- ITS FALSE NEIGHBOUR: 'it returns false'. Refute it at one input. -/
def tableRowsWrong : ChangeSpec := { name := "tableRows", fn := fun _ => fun
  | [d1, d2, d3] => { results := [.lit (.bool false)], args := [d1, d2, d3] }
  | _ => none }
def TableRowsWrongFalsely : Prop := tableRowsRow.holds Tryz.pinned (OpenSpec.ofChange tableRowsWrong)

/- THE SECOND FORM. 'bulk': how many values and letters a reading holds, each counted each time it is reached (what is shared counts as often as it is met; a slice's spare places count too). A statement '..UptoSaid' is the law's where the arguments, and the package variables that the reading takes, are together of bulk at most 1048576: NARROWER than '..Said'. Prove '..Said' where nothing that the law and all that it calls make is longer than what came in: it says more and counts as full. Else prove '..UptoSaid'. A law counts once. -/
mutual
def uptoBulk {H : Type} : DataW H → Nat
  | .lit (.string bytes) => bytes.length + 1
  | .lit _ => 1
  | .nil => 1
  | .ptr d => uptoBulk d + 1
  | .slice elems spare => uptoBulkAll elems + uptoBulkAll spare + 1
  | .agg parts => uptoBulkAll parts + 1
  | .iface _ d => uptoBulk d + 1
  | .map entries => uptoBulkEntries entries + 1
  | .held _ => 1
def uptoBulkAll {H : Type} : List (DataW H) → Nat
  | [] => 0
  | d :: r => uptoBulk d + uptoBulkAll r
def uptoBulkEntries {H : Type} : List (Lit × DataW H) → Nat
  | [] => 0
  | x :: r => uptoBulkEntry x + uptoBulkEntries r
def uptoBulkEntry {H : Type} : Lit × DataW H → Nat
  | (.string bytes, d) => bytes.length + uptoBulk d + 1
  | (_, d) => uptoBulk d + 1
 end
def uptoSmall : (H : Type) → List (DataW H) → Bool := fun _ ds => decide (uptoBulkAll ds ≤ 1048576)
def OpenSpec.upto (s : _root_.Go.ChangeSpec) : _root_.Go.OpenSpec := { _root_.Go.OpenSpec.ofChange s with cond := some uptoSmall }

/-- 'custoslaw03.TableCuts', WHERE WHAT IT READS IS OF BULK AT MOST 1048576: true; the input reads as it did. -/
def tableCutsUptoRow : OpenClaim := { program := "yteipohpfaofchabgreat", sum := "01044e4ee14b7e80a2309c09c461920a5ba525ca85b9782ec156c8bdd930b544", func := "custos/custoslaw03.TableCuts", spec := "tableCuts", inPlace := ["internal/bytealg.abigen_runtime_cmpstring"], unfollowed := true, recurses := true, plainKeys := false, apart := false, narrowed := true }
def TableCutsUptoSaid : Prop := tableCutsUptoRow.holds Tryz.pinned (OpenSpec.upto tableCutsSpec)

/-- 'custoslaw03.TableRenames', WHERE WHAT IT READS IS OF BULK AT MOST 1048576: true; the input reads as it did. -/
def tableRenamesUptoRow : OpenClaim := { program := "yteipohpfaofchabgreat", sum := "01044e4ee14b7e80a2309c09c461920a5ba525ca85b9782ec156c8bdd930b544", func := "custos/custoslaw03.TableRenames", spec := "tableRenames", inPlace := ["internal/bytealg.abigen_runtime_cmpstring"], unfollowed := true, recurses := true, plainKeys := false, apart := false, narrowed := true }
def TableRenamesUptoSaid : Prop := tableRenamesUptoRow.holds Tryz.pinned (OpenSpec.upto tableRenamesSpec)

/-- 'custoslaw03.TableAlgebra', WHERE WHAT IT READS IS OF BULK AT MOST 1048576: true; the input reads as it did. -/
def tableAlgebraUptoRow : OpenClaim := { program := "yteipohpfaofchabgreat", sum := "01044e4ee14b7e80a2309c09c461920a5ba525ca85b9782ec156c8bdd930b544", func := "custos/custoslaw03.TableAlgebra", spec := "tableAlgebra", inPlace := ["internal/bytealg.abigen_runtime_cmpstring"], unfollowed := true, recurses := true, plainKeys := false, apart := false, narrowed := true }
def TableAlgebraUptoSaid : Prop := tableAlgebraUptoRow.holds Tryz.pinned (OpenSpec.upto tableAlgebraSpec)

/-- 'custoslaw03.TableApart', WHERE WHAT IT READS IS OF BULK AT MOST 1048576: true; the input reads as it did. -/
def tableApartUptoRow : OpenClaim := { program := "yteipohpfaofchabgreat", sum := "01044e4ee14b7e80a2309c09c461920a5ba525ca85b9782ec156c8bdd930b544", func := "custos/custoslaw03.TableApart", spec := "tableApart", inPlace := ["internal/bytealg.abigen_runtime_cmpstring"], unfollowed := true, recurses := true, plainKeys := false, apart := false, narrowed := true }
def TableApartUptoSaid : Prop := tableApartUptoRow.holds Tryz.pinned (OpenSpec.upto tableApartSpec)

/-- 'custoslaw03.TableRows', WHERE WHAT IT READS IS OF BULK AT MOST 1048576: true; the input reads as it did. -/
def tableRowsUptoRow : OpenClaim := { program := "yteipohpfaofchabgreat", sum := "01044e4ee14b7e80a2309c09c461920a5ba525ca85b9782ec156c8bdd930b544", func := "custos/custoslaw03.TableRows", spec := "tableRows", inPlace := ["internal/bytealg.abigen_runtime_cmpstring"], unfollowed := true, recurses := true, plainKeys := false, apart := false, narrowed := true }
def TableRowsUptoSaid : Prop := tableRowsUptoRow.holds Tryz.pinned (OpenSpec.upto tableRowsSpec)

end Rows
end Go.Proofs.YteipohpfaofchabGreat
