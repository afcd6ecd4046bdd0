/- The contracts of the document's answer for layer 1, continued: digits, numbers of 64 bits. -/
import Derived.Test.YtegohmeapamoaaaGreatDoorBits
import Derived.Test.YtegohmeapamoaaaGreatDoorBig
import Derived.Deep.LoopGhost
import Derived.Deep.QuietTactic
import Derived.BigQuiet
namespace Go.Proofs.YtegohmeapamoaaaGreatDoor
open Go.RowKit
/-- Digit number i; 0 beyond the last. -/
def dg (zs : List Int) (i : Nat) : Int := zs.getD i 0
end Go.Proofs.YtegohmeapamoaaaGreatDoor
