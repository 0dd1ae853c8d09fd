/- What syntaxNumbers_holds needs besides. -/
import Derived.Test.YticnfeolbfmgfaaGreatDoorNumbers01
import Derived.ProofKit
import Derived.OpenShut
import Derived.Lib.SmallJoins
import Derived.Deep.Slices
namespace Go.Proofs.YticnfeolbfmgfaaGreatDoor
open Go.Joins Go.ChangeShapes Go.WideShapes Go.ChangeAt Go.RowKit Go.Deep
set_option linter.unusedVariables false
set_option maxRecDepth 100000
instance :Inhabited Tm:=⟨.mk 0 ⟨#[]⟩ ⟨0,0,0,⟨#[]⟩⟩ []⟩
instance :Inhabited Fm:=⟨.mk 0 ⟨#[]⟩ 0 [] [] 0 0 false [] []⟩
instance :Inhabited Rx:=⟨.mk 0 [] []⟩
end Go.Proofs.YticnfeolbfmgfaaGreatDoor
