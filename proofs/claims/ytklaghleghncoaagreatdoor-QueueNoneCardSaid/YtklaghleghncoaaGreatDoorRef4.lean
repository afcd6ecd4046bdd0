/- The contracts of the document's answer for layer 4: positions, their distances, which is ahead. -/
import Derived.Test.YtklaghleghncoaaGreatDoorRefB
import Derived.Test.YtklaghleghncoaaGreatDoorQueueNoneZ0
import Derived.Test.YtklaghleghncoaaGreatDoorQueueNoneZ25
import Derived.Test.YtklaghleghncoaaGreatDoorQueueNoneZ7
import Derived.Test.YtklaghleghncoaaGreatDoorQueueNoneZ10
import Derived.Deep.CutBlock
import Derived.Deep.DeepCutAuto
namespace Go.Proofs.YtklaghleghncoaaGreatDoor
open Go.RowKit
set_option maxHeartbeats 1000000 in
theorem Law4.of (t r v : Int) (w : World) : Calls Tryz.prog 8 #[.agg #[.int .u64 t, .int .u32 r, .int .u32 v]] w (Ans (.agg #[.int .u64 t, .int .u32 r, .int .u32 v]) w) := by
  go_enter Tryz.func8, Tryz.ntmps8
  go_wp2_with fail
  refine bodyPost_ret (v := .agg #[.int .u64 t, .int .u32 r, .int .u32 v]) (by simp [results, Tryz.results8, go_sem]) rfl ⟨rfl, ?_⟩
  exact ((Below.refl _ _).alloc (Nat.le_refl _) _).alloc (by simp) _
end Go.Proofs.YtklaghleghncoaaGreatDoor
