/- Texts of LimitsRise's proof, together. -/
import Derived.Test.YtegohmeapamoaaaGreatDoorLimitsRiseZ10
import Derived.Test.YtegohmeapamoaaaGreatDoorLimitsRiseZ7
import Derived.Test.YtegohmeapamoaaaGreatDoorRdu
import Derived.Test.YtegohmeapamoaaaGreatDoorLimitsRiseZ8
import Derived.Test.YtegohmeapamoaaaGreatDoorOpen
import Derived.Deep.LoopGhost
import Derived.OpenShut
namespace Go.Proofs.YtegohmeapamoaaaGreatDoor
/- The law of layer 5: the chapter's example; which items are near. -/
section
open Go.RowKit
theorem Cs.alloc_new6 (w : World) (t : TypeId) (vs : List Value) : Cs (w.alloc (.cells vs.toArray t)) w.heap.size vs := fun i v hv => by
  refine ⟨?_, by simp [go_sem]⟩
  rw [World.cell?_alloc_new]
  simpa using hv
end

/- PosBack: the walk. -/
section
open Go.RowKit
/-- A slice of two positions that was just laid. -/
theorem RdP.new2 (w : World) (t : TypeId) (a b c d e f : Int) : RdP (w.alloc (.cells #[.int .u64 a, .int .u32 b, .int .u32 c, .int .u64 d, .int .u32 e, .int .u32 f] t)) (some ⟨w.heap.size, 0, none⟩) 2 [(a, b, c), (d, e, f)] :=
  ⟨rfl, fun _ _ => ⟨_, 0, rfl, by simp, fun j hj => by
    rcases j with _ | _ | j
    · simp [go_sem]
    · simp [go_sem]
    · omega⟩⟩
end

end Go.Proofs.YtegohmeapamoaaaGreatDoor
