/- The closed law of the layer table, by the checker. -/
import Derived.Test.YtegohmeapamoaaaGreatDoorTableNoneZ32
import Derived.Test.YtegohmeapamoaaaGreatDoorTxt
namespace Go.Proofs.YtegohmeapamoaaaGreatDoor
open Go Go.RowKit Ck
theorem Tnone.law (w : World) (_ : Tab10 w.heap.size w) : Calls Tryz.prog 9 #[] w (Ans (.bool true) w) :=
  (holds_hook (n := 3000) mixed allHook_ok (knownC aw20a known0) (by kernel_rfl) : True' Tryz.prog 9) w
end Go.Proofs.YtegohmeapamoaaaGreatDoor
