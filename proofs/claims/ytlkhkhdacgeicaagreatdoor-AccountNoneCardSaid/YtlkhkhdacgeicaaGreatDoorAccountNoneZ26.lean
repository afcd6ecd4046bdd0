/- Texts of AccountNone's proof, together. -/
import Derived.Test.YtlkhkhdacgeicaaGreatDoorCkW
import Derived.Test.YtlkhkhdacgeicaaGreatDoorCkJ
namespace Go.Proofs.YtlkhkhdacgeicaaGreatDoor
/- The example of the layer of sets, by the checker with its hook for a set's requests. -/
section
open Go Go.RowKit Ck
theorem aw15A : True' Tryz.prog 285 := holds_sound (n := 3000) mixed (knownC aw14 known0) (by kernel_rfl)
theorem aw16a : True' Tryz.prog 278 := holds_hook (n := 3000) mixed setHook_ok (knownC aw15A known0) (by kernel_rfl)
theorem aw16A : True' Tryz.prog 268 := holds_hook (n := 3000) mixed setHook_ok (knownC aw16a known0) (by kernel_rfl)
end

/- The example of the layer settle, by the checker. -/
section
open Go Go.RowKit Ck
theorem aw17a : True' Tryz.prog 262 := holds_hook (n := 3000) mixed setHook_ok (knownC aw16A known0) (by kernel_rfl)
theorem aw17A : True' Tryz.prog 251 := holds_hook (n := 3000) mixed setHook_ok (knownC aw17a known0) (by kernel_rfl)
end

end Go.Proofs.YtlkhkhdacgeicaaGreatDoor
