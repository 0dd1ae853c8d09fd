/- Events, and a point, that came in. -/
import Derived.Test.YticmebamclacaaaGreatDoorZ03
import Derived.ProofKit
import Derived.OpenShut
import Derived.Lib.SmallJoins
import Derived.Deep.Slices

namespace Go.Proofs.YticmebamclacaaaGreatDoor
open Go.Joins Go.ChangeShapes Go.WideShapes Go.ChangeAt Go.RowKit Go.Deep
set_option linter.unusedVariables false
set_option maxRecDepth 100000

instance : Inhabited Dec := ⟨⟨⟨#[]⟩, []⟩⟩

end Go.Proofs.YticmebamclacaaaGreatDoor

namespace Go.Proofs.YticmebamclacaaaGreatDoor
open Go.Joins Go.ChangeShapes Go.WideShapes Go.ChangeAt Go.RowKit Go.Deep
set_option linter.unusedVariables false
set_option maxRecDepth 100000

instance : Inhabited Val := ⟨⟨0, 0, 0, ⟨#[]⟩⟩⟩
instance : Inhabited Evt := ⟨⟨⟨#[]⟩, []⟩⟩

end Go.Proofs.YticmebamclacaaaGreatDoor
