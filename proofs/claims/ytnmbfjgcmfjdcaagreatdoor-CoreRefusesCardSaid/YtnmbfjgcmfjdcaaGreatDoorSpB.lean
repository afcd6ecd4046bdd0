import Derived.Test.YtnmbfjgcmfjdcaaGreatDoorCoreRefusesZ36
import Derived.Test.YtnmbfjgcmfjdcaaGreatDoorItV
namespace Go.Proofs.YtnmbfjgcmfjdcaaGreatDoor
open Go.RowKit
set_option maxHeartbeats 2000000 in
theorem Span.within (base:Int) (A:Option Addr) (n c:Nat) (l:List It) (w:World) (hr:uk w A n l) (hn:n≤1000000):
  Calls Tryz.prog 146 #[.int .u64 base, .slice A n c] w (aV (.bool (fD base l)) w):=by
 have HR:=aa hr;clear hr;go_enter Tryz.func146,Tryz.ntmps146;go_wp2_with fail
 refine(Item.spread base A n c l _ HR.out hn).mono ?_;rintro e w1 ⟨rfl,hb⟩;have HB:=aa hb;clear hb;go_wp2_with fail
 go_ret;exact⟨rfl,HB.out⟩
end Go.Proofs.YtnmbfjgcmfjdcaaGreatDoor
