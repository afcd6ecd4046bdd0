import Derived.Test.YtdkfpmlamfeenaaGreatDoorBits
import Derived.Test.YtdkfpmlamfeenaaGreatDoorBig
import Derived.Deep.LoopGhost
import Derived.Deep.QuietTactic
import Derived.BigQuiet
namespace Go.Proofs.YtdkfpmlamfeenaaGreatDoor
open Go.RowKit
def dg (zs : List Int) (i : Nat) : Int := zs.getD i 0
end Go.Proofs.YtdkfpmlamfeenaaGreatDoor
