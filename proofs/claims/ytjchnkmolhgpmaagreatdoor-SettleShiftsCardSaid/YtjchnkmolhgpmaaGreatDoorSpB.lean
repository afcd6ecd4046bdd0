import Derived.Test.YtjchnkmolhgpmaaGreatDoorSettleShiftsZ30
import Derived.Test.YtjchnkmolhgpmaaGreatDoorSettleShiftsZ32
import Derived.Test.YtjchnkmolhgpmaaGreatDoorItV
namespace Go.Proofs.YtjchnkmolhgpmaaGreatDoor
open Go.RowKit
set_option maxHeartbeats 2000000 in
theorem Span.within (base : Int) (A : Option Addr) (n c : Nat) (l : List It) (w : World) (hr : RdI w A n l) (hn : n ≤ 1000000) :
  Calls Tryz.prog 137 #[.int .u64 base, .slice A n c] w (Ans (.bool (withinI base l)) w) := by
 have HR := hid hr;clear hr;go_enter Tryz.func137, Tryz.ntmps137;go_wp2_with fail;refine (Item.spread base A n c l _ HR.out hn).mono ?_;rintro e w1 ⟨rfl, hb⟩;have HB := hid hb;clear hb;go_wp2_with fail;go_ret
 exact ⟨rfl, HB.out⟩
end Go.Proofs.YtjchnkmolhgpmaaGreatDoor
