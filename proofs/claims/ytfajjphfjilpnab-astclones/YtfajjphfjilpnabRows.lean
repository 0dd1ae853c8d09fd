/-
  NARROWER THAN 'FOR EVERY INPUT', by the rows' own cells (each row's printed sentence says how): AstSames: loops · AstClones: loops · AstWhole: loops.
  DERIVED. THE GIVEN ROWS OF THIS SEAT. 3 by the template 'for every input the law returns true; each argument reads behind the call as it read before'; 0 by the template 'total and deterministic' (their statements: YtfajjphfjilpnabTotals.lean).
  GIVEN WITH THE SEED: the statements are not yours to turn. If you find one false, say at which input.
  Laid BY PROGRAM, IN A SANDBOX (cutbox-rows.mjs): the forced cells as the released guide's own fill.sh prints them over the translation 93d25ba850a39e02… (all of the seat's roots in one cut). By AI agents, Wed Nov 11 2026. No macro, syntax, notation, axiom, sorry.
-/
import Derived.Test.YtfajjphfjilpnabChecked
import GoSem.Claim
import GoSem.ClaimJoined
import GoSem.ClaimMapViews
import Derived.JoinedTies
import Derived.KernelRfl
namespace Go.Proofs.Ytfajjphfjilpnab
/- THE CELL 'sum', in the pinned program and in every row, IS THE sha256 OF THE DUMP (.gsa) THAT YtfajjphfjilpnabProg.lean LOADS. Nothing in Lean hashes anything: it is a label: what it is worth is what the hold of that sum in a sandbox is worth. -/
noncomputable def Try.pinned : Pinned := { name := "ytfajjphfjilpnab", sum := "93d25ba850a39e023fa59d7d5de6e61c3a7d802d115873112116463b3293f85d", checked := Try.checked }
namespace Rows
def none {H : Type} : Left H := { results := [], args := [] }

/-- 'custoslaw06.AstSames': WHATEVER THE INPUT: true; the input reads as it did. -/
def astSamesSpec : ChangeSpec := { name := "astSames", fn := fun _ => fun
  | [d1, d2] => { results := [.lit (.bool true)], args := [d1, d2] }
  | _ => none }
def astSamesRow : OpenClaim := { program := "ytfajjphfjilpnab", sum := "93d25ba850a39e023fa59d7d5de6e61c3a7d802d115873112116463b3293f85d", func := "custos/custoslaw06.AstSames", spec := "astSames", unfollowed := true, recurses := true, loops := true, apart := false }
def AstSamesSaid : Prop := astSamesRow.holds Try.pinned (OpenSpec.ofChange astSamesSpec)

/-- ITS FALSE NEIGHBOUR: 'it returns false'. Refute it at one input. -/
def astSamesWrong : ChangeSpec := { name := "astSames", fn := fun _ => fun
  | [d1, d2] => { results := [.lit (.bool false)], args := [d1, d2] }
  | _ => none }
def AstSamesWrongFalsely : Prop := astSamesRow.holds Try.pinned (OpenSpec.ofChange astSamesWrong)

/-- 'custoslaw06.AstClones': WHATEVER THE INPUT: true; the input reads as it did. -/
def astClonesSpec : ChangeSpec := { name := "astClones", fn := fun _ => fun
  | [d] => { results := [.lit (.bool true)], args := [d] }
  | _ => none }
def astClonesRow : OpenClaim := { program := "ytfajjphfjilpnab", sum := "93d25ba850a39e023fa59d7d5de6e61c3a7d802d115873112116463b3293f85d", func := "custos/custoslaw06.AstClones", spec := "astClones", unfollowed := true, recurses := true, loops := true, apart := false }
def AstClonesSaid : Prop := astClonesRow.holds Try.pinned (OpenSpec.ofChange astClonesSpec)

/-- ITS FALSE NEIGHBOUR: 'it returns false'. Refute it at one input. -/
def astClonesWrong : ChangeSpec := { name := "astClones", fn := fun _ => fun
  | [d] => { results := [.lit (.bool false)], args := [d] }
  | _ => none }
def AstClonesWrongFalsely : Prop := astClonesRow.holds Try.pinned (OpenSpec.ofChange astClonesWrong)

/-- 'custoslaw06.AstWhole': WHATEVER THE INPUT: true; the input reads as it did. -/
def astWholeSpec : ChangeSpec := { name := "astWhole", fn := fun _ => fun
  | [d] => { results := [.lit (.bool true)], args := [d] }
  | _ => none }
def astWholeRow : OpenClaim := { program := "ytfajjphfjilpnab", sum := "93d25ba850a39e023fa59d7d5de6e61c3a7d802d115873112116463b3293f85d", func := "custos/custoslaw06.AstWhole", spec := "astWhole", unfollowed := true, recurses := true, loops := true, apart := false }
def AstWholeSaid : Prop := astWholeRow.holds Try.pinned (OpenSpec.ofChange astWholeSpec)

/-- ITS FALSE NEIGHBOUR: 'it returns false'. Refute it at one input. -/
def astWholeWrong : ChangeSpec := { name := "astWhole", fn := fun _ => fun
  | [d] => { results := [.lit (.bool false)], args := [d] }
  | _ => none }
def AstWholeWrongFalsely : Prop := astWholeRow.holds Try.pinned (OpenSpec.ofChange astWholeWrong)

/- THE SECOND FORM. 'bulk': how many values and letters a reading holds, each counted each time it is reached (what is shared counts as often as it is met; a slice's spare places count too). A statement '..UptoSaid' is the law's where the arguments, and the package variables that the reading takes, are together of bulk at most 1048576: NARROWER than '..Said'. Prove '..Said' where nothing that the law and all that it calls make is longer than what came in: it says more and counts as full. Else prove '..UptoSaid'. A law counts once. -/
mutual
def uptoBulk {H : Type} : DataW H → Nat
  | .lit (.string bytes) => bytes.length + 1
  | .lit _ => 1
  | .nil => 1
  | .ptr d => uptoBulk d + 1
  | .slice elems spare => uptoBulkAll elems + uptoBulkAll spare + 1
  | .agg parts => uptoBulkAll parts + 1
  | .iface _ d => uptoBulk d + 1
  | .map entries => uptoBulkEntries entries + 1
  | .held _ => 1
def uptoBulkAll {H : Type} : List (DataW H) → Nat
  | [] => 0
  | d :: r => uptoBulk d + uptoBulkAll r
def uptoBulkEntries {H : Type} : List (Lit × DataW H) → Nat
  | [] => 0
  | x :: r => uptoBulkEntry x + uptoBulkEntries r
def uptoBulkEntry {H : Type} : Lit × DataW H → Nat
  | (.string bytes, d) => bytes.length + uptoBulk d + 1
  | (_, d) => uptoBulk d + 1
 end
def uptoSmall : (H : Type) → List (DataW H) → Bool := fun _ ds => decide (uptoBulkAll ds ≤ 1048576)
def OpenSpec.upto (s : _root_.Go.ChangeSpec) : _root_.Go.OpenSpec := { _root_.Go.OpenSpec.ofChange s with cond := some uptoSmall }

/-- 'custoslaw06.AstSames', WHERE WHAT IT READS IS OF BULK AT MOST 1048576: true; the input reads as it did. -/
def astSamesUptoRow : OpenClaim := { program := "ytfajjphfjilpnab", sum := "93d25ba850a39e023fa59d7d5de6e61c3a7d802d115873112116463b3293f85d", func := "custos/custoslaw06.AstSames", spec := "astSames", unfollowed := true, recurses := true, loops := true, apart := false, narrowed := true }
def AstSamesUptoSaid : Prop := astSamesUptoRow.holds Try.pinned (OpenSpec.upto astSamesSpec)

/-- 'custoslaw06.AstClones', WHERE WHAT IT READS IS OF BULK AT MOST 1048576: true; the input reads as it did. -/
def astClonesUptoRow : OpenClaim := { program := "ytfajjphfjilpnab", sum := "93d25ba850a39e023fa59d7d5de6e61c3a7d802d115873112116463b3293f85d", func := "custos/custoslaw06.AstClones", spec := "astClones", unfollowed := true, recurses := true, loops := true, apart := false, narrowed := true }
def AstClonesUptoSaid : Prop := astClonesUptoRow.holds Try.pinned (OpenSpec.upto astClonesSpec)

/-- 'custoslaw06.AstWhole', WHERE WHAT IT READS IS OF BULK AT MOST 1048576: true; the input reads as it did. -/
def astWholeUptoRow : OpenClaim := { program := "ytfajjphfjilpnab", sum := "93d25ba850a39e023fa59d7d5de6e61c3a7d802d115873112116463b3293f85d", func := "custos/custoslaw06.AstWhole", spec := "astWhole", unfollowed := true, recurses := true, loops := true, apart := false, narrowed := true }
def AstWholeUptoSaid : Prop := astWholeUptoRow.holds Try.pinned (OpenSpec.upto astWholeSpec)

end Rows
end Go.Proofs.Ytfajjphfjilpnab
