/- Variables of several cells: stored whole. Means compared. -/
import Derived.Test.YtegohmeapamoaaaGreatDoorSetNoneZ5
import Derived.Test.YtegohmeapamoaaaGreatDoorSetNoneZ10
import Derived.Test.YtegohmeapamoaaaGreatDoorKnuth
import Derived.Test.YtegohmeapamoaaaGreatDoorSetNoneZ8
import Derived.Test.YtegohmeapamoaaaGreatDoorOpen
import Derived.Test.YtegohmeapamoaaaGreatDoorCs
import Derived.Deep.RegionHeld3
import Derived.Deep.QuietTactic
import Derived.BigQuiet
import Derived.Test.YtegohmeapamoaaaGreatDoorRows
import Derived.WalkKit
import Derived.WalkSpells
import Derived.Shelf.Bits.Mul64
import Derived.Shelf.Small.Bits
import Derived.Deep.LoopGhost
import Derived.Deep.CutBlock
import Derived.Deep.DeepCutAuto
import Derived.Deep.MidRow
import Derived.OpenShut
import Derived.OrdersHeld
import Derived.Deep.RegionHeld
import Derived.StillTail
namespace Go.Proofs.YtegohmeapamoaaaGreatDoor
open Go.RowKit
def pcells (p : P3) : List Value := [.int .u64 p.1, .int .u32 p.2.1, .int .u32 p.2.2]
theorem P3.at {w : World} {g : Nat} (p : P3) (h : Cs w g (pcells p)) : w.cell? ⟨g, 0, none⟩ = some (.int .u64 p.1) ∧ w.cell? ⟨g, 1, none⟩ = some (.int .u32 p.2.1) ∧ w.cell? ⟨g, 2, none⟩ = some (.int .u32 p.2.2) := ⟨h.at0, h.at1, h.at2⟩
end Go.Proofs.YtegohmeapamoaaaGreatDoor
