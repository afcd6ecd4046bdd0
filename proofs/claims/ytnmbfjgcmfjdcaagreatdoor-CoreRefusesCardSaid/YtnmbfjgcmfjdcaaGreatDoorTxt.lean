import Derived.Test.YtnmbfjgcmfjdcaaGreatDoorCoreRefusesZ0
import Derived.Test.YtnmbfjgcmfjdcaaGreatDoorRows
import Derived.WalkKit
import Derived.WalkSpells
import Derived.Shelf.Lay
import Derived.Shelf.LaysM
import Derived.Shelf.Strconv.Itoa1
import Derived.Shelf.Strconv.Itoa2
import Derived.Lib.Walk
import Derived.Lib.ItoaWalk
import Derived.Lib.ItoaMem
import Derived.Lib.AppendIntMem
namespace Go.Proofs.YtnmbfjgcmfjdcaaGreatDoor
open Go.RowKit Go.Shelf Go.Sort Go.Lib
abbrev Gw (B:Nat) (w:World):Prop:=Lib.TabBelow Tryz.prog B w "internal/strconv.uint64pow10" .u64 Lib.pow10Tab
theorem Gw.of {w:World} (h:Lib.TabIs Tryz.prog w "internal/strconv.uint64pow10" .u64 Lib.pow10Tab):Gw w.heap.size w:=Lib.tabBelow_of_tabIs h
end Go.Proofs.YtnmbfjgcmfjdcaaGreatDoor
