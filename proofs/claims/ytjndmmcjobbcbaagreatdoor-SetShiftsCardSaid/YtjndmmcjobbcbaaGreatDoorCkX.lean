/- The example of the layer of sets, by the checker with its hook for a set's requests. -/
import Derived.Test.YtjndmmcjobbcbaaGreatDoorCkW
import Derived.Test.YtjndmmcjobbcbaaGreatDoorCkJ
namespace Go.Proofs.YtjndmmcjobbcbaaGreatDoor
open Go Go.RowKit Ck
theorem aw15A : True' Tryz.prog 91 := holds_sound (n := 3000) mixed (knownC aw14 known0) (by kernel_rfl)
theorem aw16a : True' Tryz.prog 45 := holds_hook (n := 3000) mixed setHook_ok (knownC aw15A known0) (by kernel_rfl)
end Go.Proofs.YtjndmmcjobbcbaaGreatDoor
