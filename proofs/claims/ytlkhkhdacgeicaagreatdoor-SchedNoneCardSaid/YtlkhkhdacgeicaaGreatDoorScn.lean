/- The closed law of the layer sched, by the checker. -/
import Derived.Test.YtlkhkhdacgeicaaGreatDoorSchedNoneZ33
import Derived.Test.YtlkhkhdacgeicaaGreatDoorTxt
namespace Go.Proofs.YtlkhkhdacgeicaaGreatDoor
open Go Go.RowKit Ck
theorem Scnone.law (w : World) (_ : Tab10 w.heap.size w) : Calls Tryz.prog 3 #[] w (Ans (.bool true) w) :=
  (holds_hook (n := 3000) mixed allHook_ok (knownC aw21a known0) (by kernel_rfl) : True' Tryz.prog 3) w
end Go.Proofs.YtlkhkhdacgeicaaGreatDoor
