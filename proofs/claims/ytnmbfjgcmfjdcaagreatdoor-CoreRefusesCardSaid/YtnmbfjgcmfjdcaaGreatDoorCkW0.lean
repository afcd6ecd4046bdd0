/- The program follows its mixed orders. -/
import Derived.Test.YtnmbfjgcmfjdcaaGreatDoorProg
import Derived.WalkKit
namespace Go.Proofs.YtnmbfjgcmfjdcaaGreatDoor
open Go Go.RowKit
theorem mixed:Tryz.prog.follows .mixedOrders=true:=by kernel_rfl
end Go.Proofs.YtnmbfjgcmfjdcaaGreatDoor
