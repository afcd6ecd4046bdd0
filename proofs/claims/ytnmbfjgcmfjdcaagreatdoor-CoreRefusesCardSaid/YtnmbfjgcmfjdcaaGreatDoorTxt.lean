import Derived.Test.YtnmbfjgcmfjdcaaGreatDoorCoreRefusesZ0
import Derived.Test.YtnmbfjgcmfjdcaaGreatDoorRows
import Derived.WalkKit
import Derived.WalkSpells
import Derived.Shelf.Lay
import Derived.Shelf.LaysM
import Derived.Shelf.Strconv.Itoa1
import Derived.Shelf.Strconv.Itoa2
import Derived.Lib.Walk
import Derived.Lib.ItoaWalk
import Derived.Lib.ItoaMem
import Derived.Lib.AppendIntMem
namespace Go.Proofs.YtnmbfjgcmfjdcaaGreatDoor
open Go.RowKit Go.Shelf Go.Sort Go.Lib
def Tryz.laysM284_ren:Go.Shelf.Ren:=⟨fun|284=>236|129=>143|317=>249|318=>250|n=>n,fun|53=>22|3=>3|212=>275|0=>0|4=>4|46=>154|5=>5|9=>9|n=>n,fun|17=>2|n=>n⟩
theorem Tryz.aai:Go.Proofs.LaysM.n284 Tryz.prog Tryz.laysM284_ren:=open Go.Proofs.Tryz in{mixed:=by kernel_rfl,f129:=func143.trans (congrArg some ae),f284:=func236.trans (congrArg some ae),f317:=func249.trans (congrArg some ae),f318:=func250.trans (congrArg some ae),t0:=underlying0,a0:=isAgg0,z0:=sizeOf0,v0:=zeroValue0,t3:=underlying3,a3:=isAgg3,z3:=sizeOf3,v3:=zeroValue3,t4:=underlying4,a4:=isAgg4,z4:=sizeOf4,v4:=zeroValue4,t5:=underlying5,a5:=isAgg5,z5:=sizeOf5,v5:=zeroValue5,t9:=underlying9,a9:=isAgg9,z9:=sizeOf9,v9:=zeroValue9,t46:=underlying154,a46:=isAgg154,z46:=sizeOf154,v46:=zeroValue154,t53:=underlying22,a53:=isAgg22,z53:=sizeOf22,v53:=zeroValue22,t212:=underlying275,a212:=isAgg275,z212:=sizeOf275,v212:=zeroValue275,g17:=by kernel_rfl,i0:=by kernel_rfl,i3:=by kernel_rfl,i4:=by kernel_rfl,i5:=by kernel_rfl,i9:=by kernel_rfl,i46:=by kernel_rfl,i53:=by kernel_rfl,i212:=by kernel_rfl,m17:=by kernel_rfl}
abbrev Gw (B:Nat) (w:World):Prop:=Lib.TabBelow Tryz.prog B w "internal/strconv.uint64pow10" .u64 Lib.pow10Tab
theorem Gw.of {w:World} (h:Lib.TabIs Tryz.prog w "internal/strconv.uint64pow10" .u64 Lib.pow10Tab):Gw w.heap.size w:=Lib.tabBelow_of_tabIs h
end Go.Proofs.YtnmbfjgcmfjdcaaGreatDoor
