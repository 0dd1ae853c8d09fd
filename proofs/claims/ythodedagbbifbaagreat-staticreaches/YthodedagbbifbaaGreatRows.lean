/-
  NARROWER THAN 'FOR EVERY INPUT', by the rows' own cells (each row's printed sentence says how): StaticChecks: loops · StaticCases: loops · StaticAnds: loops · StaticReaches: loops · StaticCloses: loops · StaticOrs: loops.
  DERIVED. THE GIVEN ROWS OF THIS SEAT. 6 by the template 'for every input the law returns true; each argument reads behind the call as it read before'; 0 by the template 'total and deterministic' (their statements: YthodedagbbifbaaGreatTotals.lean).
  GIVEN WITH THE SEED: the statements are not yours to turn. If you find one false, say at which input.
  Laid BY PROGRAM, IN A SANDBOX (cutbox-rows.mjs): the forced cells as the released guide's own fill.sh prints them over the translation e2110ff8843a6910… (all of the seat's roots in one cut). By AI agents, Wed Nov 11 2026. No macro, syntax, notation, axiom, sorry.
-/
import Derived.Test.YthodedagbbifbaaGreatChecked
import GoSem.Claim
import GoSem.ClaimJoined
import GoSem.ClaimMapViews
import Derived.JoinedTies
import Derived.KernelRfl
namespace Go.Proofs.YthodedagbbifbaaGreat
/- THE CELL 'sum', in the pinned program and in every row, IS THE sha256 OF THE DUMP (.gsa) THAT YthodedagbbifbaaGreatProg.lean LOADS. Nothing in Lean hashes anything: it is a label: what it is worth is what the hold of that sum in a sandbox is worth. -/
noncomputable def Tryz.pinned : Pinned := { name := "ythodedagbbifbaagreat", sum := "e2110ff8843a6910ece7d3fe064311ab3ad6f52af1d6a6a7eb13f2cdeddc557b", checked := Tryz.checked }
namespace Rows
def none {H : Type} : Left H := { results := [], args := [] }

/-- 'custoslaw10.StaticChecks': WHATEVER THE INPUT: true; the input reads as it did. -/
def staticChecksSpec : ChangeSpec := { name := "staticChecks", fn := fun _ => fun
  | [d] => { results := [.lit (.bool true)], args := [d] }
  | _ => none }
def staticChecksRow : OpenClaim := { program := "ythodedagbbifbaagreat", sum := "e2110ff8843a6910ece7d3fe064311ab3ad6f52af1d6a6a7eb13f2cdeddc557b", func := "custos/custoslaw10.StaticChecks", spec := "staticChecks", unfollowed := true, recurses := true, loops := true, apart := false }
def StaticChecksSaid : Prop := staticChecksRow.holds Tryz.pinned (OpenSpec.ofChange staticChecksSpec)

/-- ITS FALSE NEIGHBOUR: 'it returns false'. Refute it at one input. -/
def staticChecksWrong : ChangeSpec := { name := "staticChecks", fn := fun _ => fun
  | [d] => { results := [.lit (.bool false)], args := [d] }
  | _ => none }
def StaticChecksWrongFalsely : Prop := staticChecksRow.holds Tryz.pinned (OpenSpec.ofChange staticChecksWrong)

/-- 'custoslaw10.StaticCases': WHATEVER THE INPUT: true; the input reads as it did. -/
def staticCasesSpec : ChangeSpec := { name := "staticCases", fn := fun _ => fun
  | [d1, d2] => { results := [.lit (.bool true)], args := [d1, d2] }
  | _ => none }
def staticCasesRow : OpenClaim := { program := "ythodedagbbifbaagreat", sum := "e2110ff8843a6910ece7d3fe064311ab3ad6f52af1d6a6a7eb13f2cdeddc557b", func := "custos/custoslaw10.StaticCases", spec := "staticCases", unfollowed := true, recurses := true, loops := true, apart := false }
def StaticCasesSaid : Prop := staticCasesRow.holds Tryz.pinned (OpenSpec.ofChange staticCasesSpec)

/-- ITS FALSE NEIGHBOUR: 'it returns false'. Refute it at one input. -/
def staticCasesWrong : ChangeSpec := { name := "staticCases", fn := fun _ => fun
  | [d1, d2] => { results := [.lit (.bool false)], args := [d1, d2] }
  | _ => none }
def StaticCasesWrongFalsely : Prop := staticCasesRow.holds Tryz.pinned (OpenSpec.ofChange staticCasesWrong)

/-- 'custoslaw10.StaticAnds': WHATEVER THE INPUT: true; the input reads as it did. -/
def staticAndsSpec : ChangeSpec := { name := "staticAnds", fn := fun _ => fun
  | [d1, d2] => { results := [.lit (.bool true)], args := [d1, d2] }
  | _ => none }
def staticAndsRow : OpenClaim := { program := "ythodedagbbifbaagreat", sum := "e2110ff8843a6910ece7d3fe064311ab3ad6f52af1d6a6a7eb13f2cdeddc557b", func := "custos/custoslaw10.StaticAnds", spec := "staticAnds", unfollowed := true, recurses := true, loops := true, apart := false }
def StaticAndsSaid : Prop := staticAndsRow.holds Tryz.pinned (OpenSpec.ofChange staticAndsSpec)

/-- ITS FALSE NEIGHBOUR: 'it returns false'. Refute it at one input. -/
def staticAndsWrong : ChangeSpec := { name := "staticAnds", fn := fun _ => fun
  | [d1, d2] => { results := [.lit (.bool false)], args := [d1, d2] }
  | _ => none }
def StaticAndsWrongFalsely : Prop := staticAndsRow.holds Tryz.pinned (OpenSpec.ofChange staticAndsWrong)

/-- 'custoslaw10.StaticReaches': WHATEVER THE INPUT: true; the input reads as it did. -/
def staticReachesSpec : ChangeSpec := { name := "staticReaches", fn := fun _ => fun
  | [d1, d2] => { results := [.lit (.bool true)], args := [d1, d2] }
  | _ => none }
def staticReachesRow : OpenClaim := { program := "ythodedagbbifbaagreat", sum := "e2110ff8843a6910ece7d3fe064311ab3ad6f52af1d6a6a7eb13f2cdeddc557b", func := "custos/custoslaw10.StaticReaches", spec := "staticReaches", unfollowed := true, recurses := true, loops := true, apart := false }
def StaticReachesSaid : Prop := staticReachesRow.holds Tryz.pinned (OpenSpec.ofChange staticReachesSpec)

/-- ITS FALSE NEIGHBOUR: 'it returns false'. Refute it at one input. -/
def staticReachesWrong : ChangeSpec := { name := "staticReaches", fn := fun _ => fun
  | [d1, d2] => { results := [.lit (.bool false)], args := [d1, d2] }
  | _ => none }
def StaticReachesWrongFalsely : Prop := staticReachesRow.holds Tryz.pinned (OpenSpec.ofChange staticReachesWrong)

/-- 'custoslaw10.StaticCloses': WHATEVER THE INPUT: true; the input reads as it did. -/
def staticClosesSpec : ChangeSpec := { name := "staticCloses", fn := fun _ => fun
  | [d] => { results := [.lit (.bool true)], args := [d] }
  | _ => none }
def staticClosesRow : OpenClaim := { program := "ythodedagbbifbaagreat", sum := "e2110ff8843a6910ece7d3fe064311ab3ad6f52af1d6a6a7eb13f2cdeddc557b", func := "custos/custoslaw10.StaticCloses", spec := "staticCloses", unfollowed := true, recurses := true, loops := true, apart := false }
def StaticClosesSaid : Prop := staticClosesRow.holds Tryz.pinned (OpenSpec.ofChange staticClosesSpec)

/-- ITS FALSE NEIGHBOUR: 'it returns false'. Refute it at one input. -/
def staticClosesWrong : ChangeSpec := { name := "staticCloses", fn := fun _ => fun
  | [d] => { results := [.lit (.bool false)], args := [d] }
  | _ => none }
def StaticClosesWrongFalsely : Prop := staticClosesRow.holds Tryz.pinned (OpenSpec.ofChange staticClosesWrong)

/-- 'custoslaw10.StaticOrs': WHATEVER THE INPUT: true; the input reads as it did. -/
def staticOrsSpec : ChangeSpec := { name := "staticOrs", fn := fun _ => fun
  | [d1, d2] => { results := [.lit (.bool true)], args := [d1, d2] }
  | _ => none }
def staticOrsRow : OpenClaim := { program := "ythodedagbbifbaagreat", sum := "e2110ff8843a6910ece7d3fe064311ab3ad6f52af1d6a6a7eb13f2cdeddc557b", func := "custos/custoslaw10.StaticOrs", spec := "staticOrs", unfollowed := true, recurses := true, loops := true, apart := false }
def StaticOrsSaid : Prop := staticOrsRow.holds Tryz.pinned (OpenSpec.ofChange staticOrsSpec)

/-- ITS FALSE NEIGHBOUR: 'it returns false'. Refute it at one input. -/
def staticOrsWrong : ChangeSpec := { name := "staticOrs", fn := fun _ => fun
  | [d1, d2] => { results := [.lit (.bool false)], args := [d1, d2] }
  | _ => none }
def StaticOrsWrongFalsely : Prop := staticOrsRow.holds Tryz.pinned (OpenSpec.ofChange staticOrsWrong)

/- THE SECOND FORM. 'bulk': how many values and letters a reading holds, each counted each time it is reached (what is shared counts as often as it is met; a slice's spare places count too). A statement '..UptoSaid' is the law's where the arguments, and the package variables that the reading takes, are together of bulk at most 1048576: NARROWER than '..Said'. Prove '..Said' where nothing that the law and all that it calls make is longer than what came in: it says more and counts as full. Else prove '..UptoSaid'. A law counts once. -/
mutual
def uptoBulk {H : Type} : DataW H → Nat
  | .lit (.string bytes) => bytes.length + 1
  | .lit _ => 1
  | .nil => 1
  | .ptr d => uptoBulk d + 1
  | .slice elems spare => uptoBulkAll elems + uptoBulkAll spare + 1
  | .agg parts => uptoBulkAll parts + 1
  | .iface _ d => uptoBulk d + 1
  | .map entries => uptoBulkEntries entries + 1
  | .held _ => 1
def uptoBulkAll {H : Type} : List (DataW H) → Nat
  | [] => 0
  | d :: r => uptoBulk d + uptoBulkAll r
def uptoBulkEntries {H : Type} : List (Lit × DataW H) → Nat
  | [] => 0
  | x :: r => uptoBulkEntry x + uptoBulkEntries r
def uptoBulkEntry {H : Type} : Lit × DataW H → Nat
  | (.string bytes, d) => bytes.length + uptoBulk d + 1
  | (_, d) => uptoBulk d + 1
 end
def uptoSmall : (H : Type) → List (DataW H) → Bool := fun _ ds => decide (uptoBulkAll ds ≤ 1048576)
def OpenSpec.upto (s : _root_.Go.ChangeSpec) : _root_.Go.OpenSpec := { _root_.Go.OpenSpec.ofChange s with cond := some uptoSmall }

/-- 'custoslaw10.StaticChecks', WHERE WHAT IT READS IS OF BULK AT MOST 1048576: true; the input reads as it did. -/
def staticChecksUptoRow : OpenClaim := { program := "ythodedagbbifbaagreat", sum := "e2110ff8843a6910ece7d3fe064311ab3ad6f52af1d6a6a7eb13f2cdeddc557b", func := "custos/custoslaw10.StaticChecks", spec := "staticChecks", unfollowed := true, recurses := true, loops := true, apart := false, narrowed := true }
def StaticChecksUptoSaid : Prop := staticChecksUptoRow.holds Tryz.pinned (OpenSpec.upto staticChecksSpec)

/-- 'custoslaw10.StaticCases', WHERE WHAT IT READS IS OF BULK AT MOST 1048576: true; the input reads as it did. -/
def staticCasesUptoRow : OpenClaim := { program := "ythodedagbbifbaagreat", sum := "e2110ff8843a6910ece7d3fe064311ab3ad6f52af1d6a6a7eb13f2cdeddc557b", func := "custos/custoslaw10.StaticCases", spec := "staticCases", unfollowed := true, recurses := true, loops := true, apart := false, narrowed := true }
def StaticCasesUptoSaid : Prop := staticCasesUptoRow.holds Tryz.pinned (OpenSpec.upto staticCasesSpec)

/-- 'custoslaw10.StaticAnds', WHERE WHAT IT READS IS OF BULK AT MOST 1048576: true; the input reads as it did. -/
def staticAndsUptoRow : OpenClaim := { program := "ythodedagbbifbaagreat", sum := "e2110ff8843a6910ece7d3fe064311ab3ad6f52af1d6a6a7eb13f2cdeddc557b", func := "custos/custoslaw10.StaticAnds", spec := "staticAnds", unfollowed := true, recurses := true, loops := true, apart := false, narrowed := true }
def StaticAndsUptoSaid : Prop := staticAndsUptoRow.holds Tryz.pinned (OpenSpec.upto staticAndsSpec)

/-- 'custoslaw10.StaticReaches', WHERE WHAT IT READS IS OF BULK AT MOST 1048576: true; the input reads as it did. -/
def staticReachesUptoRow : OpenClaim := { program := "ythodedagbbifbaagreat", sum := "e2110ff8843a6910ece7d3fe064311ab3ad6f52af1d6a6a7eb13f2cdeddc557b", func := "custos/custoslaw10.StaticReaches", spec := "staticReaches", unfollowed := true, recurses := true, loops := true, apart := false, narrowed := true }
def StaticReachesUptoSaid : Prop := staticReachesUptoRow.holds Tryz.pinned (OpenSpec.upto staticReachesSpec)

/-- 'custoslaw10.StaticCloses', WHERE WHAT IT READS IS OF BULK AT MOST 1048576: true; the input reads as it did. -/
def staticClosesUptoRow : OpenClaim := { program := "ythodedagbbifbaagreat", sum := "e2110ff8843a6910ece7d3fe064311ab3ad6f52af1d6a6a7eb13f2cdeddc557b", func := "custos/custoslaw10.StaticCloses", spec := "staticCloses", unfollowed := true, recurses := true, loops := true, apart := false, narrowed := true }
def StaticClosesUptoSaid : Prop := staticClosesUptoRow.holds Tryz.pinned (OpenSpec.upto staticClosesSpec)

/-- 'custoslaw10.StaticOrs', WHERE WHAT IT READS IS OF BULK AT MOST 1048576: true; the input reads as it did. -/
def staticOrsUptoRow : OpenClaim := { program := "ythodedagbbifbaagreat", sum := "e2110ff8843a6910ece7d3fe064311ab3ad6f52af1d6a6a7eb13f2cdeddc557b", func := "custos/custoslaw10.StaticOrs", spec := "staticOrs", unfollowed := true, recurses := true, loops := true, apart := false, narrowed := true }
def StaticOrsUptoSaid : Prop := staticOrsUptoRow.holds Tryz.pinned (OpenSpec.upto staticOrsSpec)

end Rows
end Go.Proofs.YthodedagbbifbaaGreat
