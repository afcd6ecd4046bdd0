/- How arguments are opened, for the laws' frames. -/
import Derived.Test.YtlkhkhdacgeicaaGreatDoorAccountNoneZ5
import Derived.Test.YtlkhkhdacgeicaaGreatDoorRows
import Derived.WalkKit
import Derived.ProofKit
import Derived.OpenShut
import Derived.ChangeOld
import Derived.Below
import Derived.Carry
import Derived.SizedLaws
import Derived.Lib.SmallJoins
namespace Go.Proofs.YtlkhkhdacgeicaaGreatDoor
open Go.ChangeShapes Go.WideShapes Go.ChangeAt Go.RowKit Go.Joins
theorem own : ownKnob Tryz.prog.godebug = none := by kernel_rfl
end Go.Proofs.YtlkhkhdacgeicaaGreatDoor
