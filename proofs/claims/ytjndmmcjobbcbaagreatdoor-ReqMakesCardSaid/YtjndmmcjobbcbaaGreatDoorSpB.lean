import Derived.Test.YtjndmmcjobbcbaaGreatDoorReqMakesZ38
import Derived.Test.YtjndmmcjobbcbaaGreatDoorReqMakesZ24
import Derived.Test.YtjndmmcjobbcbaaGreatDoorItV
namespace Go.Proofs.YtjndmmcjobbcbaaGreatDoor
open Go.RowKit
set_option maxHeartbeats 2000000 in
theorem Span.within (base : Int) (A : Option Addr) (n c : Nat) (l : List It) (w : World) (hr : RdI w A n l) (hn : n ≤ 1000000) :
  Calls Tryz.prog 121 #[.int .u64 base, .slice A n c] w (Ans (.bool (withinI base l)) w) := by
 have HR := hid hr
 clear hr
 go_enter Tryz.func121, Tryz.ntmps121
 go_wp2_with fail
 refine (Item.spread base A n c l _ HR.out hn).mono ?_
 rintro e w1 ⟨rfl, hb⟩
 have HB := hid hb
 clear hb
 go_wp2_with fail
 go_ret
 exact ⟨rfl, HB.out⟩
theorem room_wrap (base : Int) (l : List It) : IntKind.u64.wrap (4611686018427387904 - min (spreadI base l) 4611686018427387904) = roomI base l := by
 have := room_bd base l
 unfold roomI at *
 rw [IntKind.wrap_u64]; omega
set_option maxHeartbeats 2000000 in
theorem Span.room (base : Int) (A : Option Addr) (n c : Nat) (l : List It) (w : World) (hr : RdI w A n l) (hn : n ≤ 1000000) :
  Calls Tryz.prog 160 #[.int .u64 base, .slice A n c] w (Ans (.int .u64 (roomI base l)) w) := by
 have HR := hid hr
 have E := hid (room_wrap base l)
 clear hr
 go_enter Tryz.func160, Tryz.ntmps160
 go_wp2_with fail
 refine (Item.spread base A n c l _ HR.out hn).mono ?_
 rintro e w1 ⟨rfl, hb⟩
 have HB := hid hb
 clear hb
 by_cases h : spreadI base l < 4611686018427387904
 ·have e1 : min (spreadI base l) 4611686018427387904 = spreadI base l := by omega
  have E1 := hid e1
  clear e1
  go_wp2_with fail
  go_ret
  exact ⟨by rw [← E.out, E1.out]; rfl, HB.out⟩
 ·have e1 : min (spreadI base l) 4611686018427387904 = 4611686018427387904 := by omega
  have E1 := hid e1
  clear e1
  go_wp2_with fail
  go_ret
  exact ⟨by rw [← E.out, E1.out]; rfl, HB.out⟩
theorem ex13 : roomI 0 [] = 4611686018427387904 ∧ withinI 0 [⟨0, 0, 0, 0, 4611686018427387905, 0, 0⟩] = false := by constructor <;> decide
end Go.Proofs.YtjndmmcjobbcbaaGreatDoor
