import Derived.Test.YtnmbfjgcmfjdcaaGreatDoorCoreRefusesZ1
import Derived.Test.YtnmbfjgcmfjdcaaGreatDoorRows
import Derived.Deep.LoopGhost
import Derived.Deep.RegionHeld3
import Derived.Deep.QuietTactic
import Derived.BigQuiet
import Derived.OpenShut
namespace Go.Proofs.YtnmbfjgcmfjdcaaGreatDoor
open Go.RowKit
set_option maxHeartbeats 400000 in
theorem uW.add (t d:Int) (w:World):
  Calls Tryz.prog 104 #[.int .u64 t, .int .i64 d] w fun e w'=>e= .returned (.int .u64 (il t d))∧Below w w w':=by
 have E:=aa (show IntKind.u64.wrap (t+IntKind.u64.wrap d)=il t d by unfold il;rw[IntKind.wrap_u64,IntKind.wrap_u64];omega);go_enter Tryz.func104,Tryz.ntmps104;go_wp2
 go_ret;exact⟨by rw[←E.out];rfl,Below.refl _ _⟩
set_option maxHeartbeats 400000 in
theorem uW.since (t u:Int) (w:World):
  Calls Tryz.prog 127 #[.int .u64 t, .int .u64 u] w fun e w'=>e= .returned (.int .i64 (aH t u))∧Below w w w':=by
 have E:=aa (show wrap64 (IntKind.u64.wrap (t-u))=aH t u by rw[IntKind.wrap_u64];unfold aH wrap64;omega);go_enter Tryz.func127,Tryz.ntmps127;go_wp2
 go_ret;exact⟨by rw[←E.out];rfl,Below.refl _ _⟩
end Go.Proofs.YtnmbfjgcmfjdcaaGreatDoor
