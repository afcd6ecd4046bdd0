/- Texts of SettleShifts's proof, together. -/
import Derived.Test.YtjchnkmolhgpmaaGreatDoorCkW
import Derived.Test.YtjchnkmolhgpmaaGreatDoorCkJ
namespace Go.Proofs.YtjchnkmolhgpmaaGreatDoor
/- The example of the layer of sets, by the checker with its hook for a set's requests. -/
section
open Go Go.RowKit Ck
theorem aw15A : True' Tryz.prog 95 := holds_sound (n := 3000) mixed (knownC aw14 known0) (by kernel_rfl)
theorem aw16a : True' Tryz.prog 56 := holds_hook (n := 3000) mixed setHook_ok (knownC aw15A known0) (by kernel_rfl)
theorem aw16A : True' Tryz.prog 25 := holds_hook (n := 3000) mixed setHook_ok (knownC aw16a known0) (by kernel_rfl)
end

/- The example of the layer settle, by the checker. -/
section
open Go Go.RowKit Ck
theorem aw17a : True' Tryz.prog 6 := holds_hook (n := 3000) mixed setHook_ok (knownC aw16A known0) (by kernel_rfl)
end

end Go.Proofs.YtjchnkmolhgpmaaGreatDoor
