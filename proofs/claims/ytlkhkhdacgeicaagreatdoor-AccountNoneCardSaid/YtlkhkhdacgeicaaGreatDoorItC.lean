/- The law of layer 5: the chapter's example; which items are near. -/
import Derived.Test.YtlkhkhdacgeicaaGreatDoorAccountNoneZ14
import Derived.Test.YtlkhkhdacgeicaaGreatDoorAccountNoneZ11
import Derived.Test.YtlkhkhdacgeicaaGreatDoorAccountNoneZ5
import Derived.Test.YtlkhkhdacgeicaaGreatDoorAccountNoneZ12
import Derived.Test.YtlkhkhdacgeicaaGreatDoorOpen
import Derived.Deep.LoopGhost
import Derived.OpenShut
namespace Go.Proofs.YtlkhkhdacgeicaaGreatDoor
open Go.RowKit
theorem Cs.alloc_new6 (w : World) (t : TypeId) (vs : List Value) : Cs (w.alloc (.cells vs.toArray t)) w.heap.size vs := fun i v hv => by
  refine ⟨?_, by simp [go_sem]⟩
  rw [World.cell?_alloc_new]
  simpa using hv
end Go.Proofs.YtlkhkhdacgeicaaGreatDoor
