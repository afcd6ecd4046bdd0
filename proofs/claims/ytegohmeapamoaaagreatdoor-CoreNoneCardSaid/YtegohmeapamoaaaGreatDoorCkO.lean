/- The closed law of the layer core, by the checker. -/
import Derived.Test.YtegohmeapamoaaaGreatDoorCkV
import Derived.Test.YtegohmeapamoaaaGreatDoorTxt
namespace Go.Proofs.YtegohmeapamoaaaGreatDoor
open Go Go.RowKit Ck
theorem Cnone.law (w : World) (_ : Tab10 w.heap.size w) : Calls Tryz.prog 14 #[] w (Ans (.bool true) w) :=
  (holds_hook (n := 3000) mixed allHook_ok (knownC aw18a known0) (by kernel_rfl) : True' Tryz.prog 14) w
end Go.Proofs.YtegohmeapamoaaaGreatDoor
