/- The closed laws of the layers set and settle, by the checker. -/
import Derived.Test.YtegohmeapamoaaaGreatDoorSettleNoneZ20
import Derived.Test.YtegohmeapamoaaaGreatDoorTxt
namespace Go.Proofs.YtegohmeapamoaaaGreatDoor
open Go Go.RowKit Ck
theorem Senone.law (w : World) (_ : Tab10 w.heap.size w) : Calls Tryz.prog 13 #[] w (Ans (.bool true) w) :=
  (holds_hook (n := 3000) mixed setHook_ok (knownC aw17a known0) (by kernel_rfl) : True' Tryz.prog 13) w
end Go.Proofs.YtegohmeapamoaaaGreatDoor
