/- The chapter's example of layer 4, as the laws ask it; how a position is opened. -/
import Derived.Test.YthmilhhihcmdhaaGreatDoorWeighBackZ10
import Derived.Test.YthmilhhihcmdhaaGreatDoorWeighBackZ8
import Derived.Test.YthmilhhihcmdhaaGreatDoorVturns
import Derived.Test.YthmilhhihcmdhaaGreatDoorOpen
namespace Go.Proofs.YthmilhhihcmdhaaGreatDoor
open Go.ChangeShapes Go.WideShapes Go.ChangeAt Go.RowKit Go.Joins
theorem Law2.Awake (w : World) : Calls Tryz.prog 186 #[] w (Ans (.bool true) w) := by
  go_enter Tryz.func186, Tryz.ntmps186
  go_wp2_with (go_at_call 190; refine (Law2.awake _).mono ?_; rintro e w' ⟨rfl, hb⟩)
  go_ret
  exact ⟨rfl, hb⟩
theorem Law3.Awake (w : World) : Calls Tryz.prog 187 #[] w (Ans (.bool true) w) := by
  go_enter Tryz.func187, Tryz.ntmps187
  go_wp2_with (go_at_call 191; refine (Law3.awake _).mono ?_; rintro e w' ⟨rfl, hb⟩)
  go_ret
  exact ⟨rfl, hb⟩
set_option maxHeartbeats 2000000 in
theorem Law4.awake (w : World) : Calls Tryz.prog 167 #[] w (Ans (.bool true) w) := by
  go_enter Tryz.func167, Tryz.ntmps167
  go_wp2_with fail
  refine (Pos.move_yes 5 0 3 7 (by decide) (by decide) (by decide) (by decide) (by unfold AtOk; decide) _).mono ?_
  have E1 : adv 5 ((7 + 0) / 3) = 7 := by decide
  have E2 : ((7 + 0) % 3 : Int) = 1 := by decide
  rw [E1, E2]
  clear E1 E2
  rintro e w1 ⟨rfl, hb1⟩
  have H1 := hid (show Cs _ _ [.int .u64 7, .int .u32 1, .int .u32 3] from Cs.new3 w1 29 (.int .u64 7) (.int .u32 1) (.int .u32 3))
  have B1 := hid (hb1.alloc hb1.size (.cells #[.int .u64 7, .int .u32 1, .int .u32 3] 29))
  clear hb1
  go_wp2_with fail
  refine (Law2.Awake _).mono ?_
  rintro e w2 ⟨rfl, hb2⟩
  have B2 := hid (below_on B1.out hb2)
  have H2 := hid (H1.out.below hb2)
  clear hb2
  go_wp2_with fail
  refine (Law3.Awake _).mono ?_
  rintro e w3 ⟨rfl, hb3⟩
  have B3 := hid (below_on B2.out hb3)
  have H3 := H2.out.below hb3
  have x0 := H3.at0
  have x1 := H3.at1
  have x2 := H3.at2
  clear hb3 H3
  go_wp2
  go_ret
  exact ⟨rfl, B3.out⟩
end Go.Proofs.YthmilhhihcmdhaaGreatDoor
