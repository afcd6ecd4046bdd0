import Derived.Test.YtbcepkfdlaioaaaGreatDtreePlaysZ8
import Derived.Test.YtbcepkfdlaioaaaGreatOpen
namespace Go.Proofs.YtbcepkfdlaioaaaGreat
open Go.RowKit
set_option maxHeartbeats 1000000 in
theorem Law3.awake (w : World) : Calls Tryz.prog 109 #[] w fun e w' => e = .returned (.bool true) ∧ Below w.heap.size w w' := by
 go_enter Tryz.func109, Tryz.ntmps109
 go_wp2_with fail
 refine (Law1.Awake _).mono ?_
 rintro e w1 ⟨rfl, hb1⟩
 go_wp2_with fail
 refine (Vtime.since 2 18446744073709551615 _).mono ?_
 rintro e w2 ⟨rfl, hb2⟩
 have E : dif 2 18446744073709551615 = 3 := by decide
 rw [E]
 clear E
 go_wp2
 go_ret
 exact ⟨rfl, below_on hb1 hb2⟩
end Go.Proofs.YtbcepkfdlaioaaaGreat
