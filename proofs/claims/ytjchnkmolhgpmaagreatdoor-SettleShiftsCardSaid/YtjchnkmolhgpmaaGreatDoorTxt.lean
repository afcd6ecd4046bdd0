import Derived.Test.YtjchnkmolhgpmaaGreatDoorRows
import Derived.WalkKit
import Derived.WalkSpells
import Derived.Shelf.Lay
import Derived.Shelf.LaysM
import Derived.Shelf.Strconv.Itoa1
import Derived.Shelf.Strconv.Itoa2
import Derived.Lib.Walk
import Derived.Lib.ItoaWalk
import Derived.Lib.ItoaMem
import Derived.Lib.AppendIntMem
namespace Go.Proofs.YtjchnkmolhgpmaaGreatDoor
open Go.RowKit Go.Shelf Go.Sort Go.Lib
def Tryz.laysM284_ren : Go.Shelf.Ren := ⟨fun | 284 => 278 | 129 => 179 | 317 => 291 | 318 => 292 | n => n, fun | 53 => 22 | 3 => 3 | 212 => 339 | 0 => 0 | 4 => 4 | 46 => 200 | 5 => 5 | 9 => 9 | n => n, fun | 17 => 2 | n => n⟩
theorem Tryz.laysM284 : Go.Proofs.LaysM.n284 Tryz.prog Tryz.laysM284_ren := open Go.Proofs.Tryz in { mixed := by kernel_rfl, f129 := func179.trans (congrArg some (by kernel_rfl)), f284 := func278.trans (congrArg some (by kernel_rfl)), f317 := func291.trans (congrArg some (by kernel_rfl)), f318 := func292.trans (congrArg some (by kernel_rfl)), t0 := underlying0, a0 := isAgg0, z0 := sizeOf0, v0 := zeroValue0, t3 := underlying3, a3 := isAgg3, z3 := sizeOf3, v3 := zeroValue3, t4 := underlying4, a4 := isAgg4, z4 := sizeOf4, v4 := zeroValue4, t5 := underlying5, a5 := isAgg5, z5 := sizeOf5, v5 := zeroValue5, t9 := underlying9, a9 := isAgg9, z9 := sizeOf9, v9 := zeroValue9, t46 := underlying200, a46 := isAgg200, z46 := sizeOf200, v46 := zeroValue200, t53 := underlying22, a53 := isAgg22, z53 := sizeOf22, v53 := zeroValue22, t212 := underlying339, a212 := isAgg339, z212 := sizeOf339, v212 := zeroValue339, g17 := by kernel_rfl, i0 := by kernel_rfl, i3 := by kernel_rfl, i4 := by kernel_rfl, i5 := by kernel_rfl, i9 := by kernel_rfl, i46 := by kernel_rfl, i53 := by kernel_rfl, i212 := by kernel_rfl, m17 := by kernel_rfl }
abbrev Tab10 (B : Nat) (w : World) : Prop := Lib.TabBelow Tryz.prog B w "internal/strconv.uint64pow10" .u64 Lib.pow10Tab
theorem Tab10.of {w : World} (h : Lib.TabIs Tryz.prog w "internal/strconv.uint64pow10" .u64 Lib.pow10Tab) : Tab10 w.heap.size w := Lib.tabBelow_of_tabIs h
end Go.Proofs.YtjchnkmolhgpmaaGreatDoor
