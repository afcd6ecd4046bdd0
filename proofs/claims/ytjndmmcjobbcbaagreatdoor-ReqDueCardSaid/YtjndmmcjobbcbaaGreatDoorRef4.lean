import Derived.Test.YtjndmmcjobbcbaaGreatDoorRefB
import Derived.Test.YtjndmmcjobbcbaaGreatDoorReqDueZ0
import Derived.Test.YtjndmmcjobbcbaaGreatDoorReqDueZ19
import Derived.Test.YtjndmmcjobbcbaaGreatDoorReqDueZ7
import Derived.Test.YtjndmmcjobbcbaaGreatDoorReqDueZ10
import Derived.Deep.CutBlock
import Derived.Deep.DeepCutAuto
namespace Go.Proofs.YtjndmmcjobbcbaaGreatDoor
open Go.RowKit
set_option maxHeartbeats 1000000 in
theorem Law4.of (t r v : Int) (w : World) : Calls Tryz.prog 29 #[.agg #[.int .u64 t, .int .u32 r, .int .u32 v]] w (Ans (.agg #[.int .u64 t, .int .u32 r, .int .u32 v]) w) := by
  go_enter Tryz.func29, Tryz.ntmps29
  go_wp2_with fail
  refine bodyPost_ret (v := .agg #[.int .u64 t, .int .u32 r, .int .u32 v]) (by simp [results, Tryz.results29, go_sem]) rfl ⟨rfl, ?_⟩
  exact ((Below.refl _ _).alloc (Nat.le_refl _) _).alloc (by simp) _
end Go.Proofs.YtjndmmcjobbcbaaGreatDoor
