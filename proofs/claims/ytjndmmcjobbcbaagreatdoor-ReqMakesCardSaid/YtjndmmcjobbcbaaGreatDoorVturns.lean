import Derived.Test.YtjndmmcjobbcbaaGreatDoorReqMakesZ8
import Derived.Test.YtjndmmcjobbcbaaGreatDoorOpen
namespace Go.Proofs.YtjndmmcjobbcbaaGreatDoor
open Go.RowKit
set_option maxHeartbeats 1000000 in
theorem Law3.awake (w : World) : Calls Tryz.prog 323 #[] w fun e w' => e = .returned (.bool true) ∧ Below w.heap.size w w' := by
 go_enter Tryz.func323, Tryz.ntmps323
 go_wp2_with fail
 refine (Law1.Awake _).mono ?_
 rintro e w1 ⟨rfl, hb1⟩
 go_wp2_with fail
 refine (Vtime.since 2 18446744073709551615 _).mono ?_
 rintro e w2 ⟨rfl, hb2⟩
 have E : dif 2 18446744073709551615 = 3 := by decide
 rw [E]
 clear E
 go_wp2
 go_ret
 exact ⟨rfl, below_on hb1 hb2⟩
theorem RdU.new1 (k : IntKind) (w : World) (t : TypeId) (x : Int) : RdU k (w.alloc (.cells #[.int k x] t)) (some ⟨w.heap.size, 0, none⟩) 1 [x] :=
 ⟨rfl, fun _ _ => ⟨_, 0, rfl, by simp, fun j hj => by
  rcases j with _ | j
  ·simp
  ·omega⟩⟩
end Go.Proofs.YtjndmmcjobbcbaaGreatDoor
