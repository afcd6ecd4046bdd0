/- The closed law of the layer account, by the checker. -/
import Derived.Test.YtlkhkhdacgeicaaGreatDoorAccountNoneZ34
import Derived.Test.YtlkhkhdacgeicaaGreatDoorTxt
namespace Go.Proofs.YtlkhkhdacgeicaaGreatDoor
open Go Go.RowKit Ck
theorem Acnone.law (w : World) (_ : Tab10 w.heap.size w) : Calls Tryz.prog 4 #[] w (Ans (.bool true) w) :=
  (holds_hook (n := 3000) mixed allHook_ok (knownC aw22a known0) (by kernel_rfl) : True' Tryz.prog 4) w
end Go.Proofs.YtlkhkhdacgeicaaGreatDoor
