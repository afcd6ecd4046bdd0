import Derived.Test.YtjndmmcjobbcbaaGreatDoorBits
import Derived.Test.YtjndmmcjobbcbaaGreatDoorBig
import Derived.Deep.LoopGhost
import Derived.Deep.QuietTactic
import Derived.BigQuiet
namespace Go.Proofs.YtjndmmcjobbcbaaGreatDoor
open Go.RowKit
def dg (zs : List Int) (i : Nat) : Int := zs.getD i 0
end Go.Proofs.YtjndmmcjobbcbaaGreatDoor
