import Derived.Test.YtbcepkfdlaioaaaGreatRdu
import Derived.Test.YtbcepkfdlaioaaaGreatDtreePlaysZ0
import Derived.Test.YtbcepkfdlaioaaaGreatRows
import Derived.Deep.LoopGhost
import Derived.Deep.RegionHeld3
import Derived.Deep.QuietTactic
import Derived.BigQuiet
import Derived.OpenShut
namespace Go.Proofs.YtbcepkfdlaioaaaGreat
open Go.RowKit
set_option maxHeartbeats 400000 in
theorem Vtime.add (t d : Int) (w : World) :
  Calls Tryz.prog 118 #[.int .u64 t, .int .i64 d] w fun e w' => e = .returned (.int .u64 (adv t d)) ∧ Below w.heap.size w w' := by
 have E := hid (show IntKind.u64.wrap (t + IntKind.u64.wrap d) = adv t d by unfold adv; rw [IntKind.wrap_u64, IntKind.wrap_u64]; omega)
 go_enter Tryz.func118, Tryz.ntmps118
 go_wp2
 go_ret
 exact ⟨by rw [← E.out]; rfl, Below.refl _ _⟩
set_option maxHeartbeats 400000 in
theorem Vtime.since (t u : Int) (w : World) :
  Calls Tryz.prog 30 #[.int .u64 t, .int .u64 u] w fun e w' => e = .returned (.int .i64 (dif t u)) ∧ Below w.heap.size w w' := by
 have E := hid (show wrap64 (IntKind.u64.wrap (t - u)) = dif t u by rw [IntKind.wrap_u64]; unfold dif wrap64; omega)
 go_enter Tryz.func30, Tryz.ntmps30
 go_wp2
 go_ret
 exact ⟨by rw [← E.out]; rfl, Below.refl _ _⟩
end Go.Proofs.YtbcepkfdlaioaaaGreat
