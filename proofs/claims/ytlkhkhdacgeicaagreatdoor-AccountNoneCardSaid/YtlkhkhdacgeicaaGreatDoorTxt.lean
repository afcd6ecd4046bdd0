/- strconv.FormatUint at base 10, over one translation: its answer is the decimal numeral. -/
import Derived.Test.YtlkhkhdacgeicaaGreatDoorRows
import Derived.WalkKit
import Derived.WalkSpells
import Derived.Shelf.Lay
import Derived.Shelf.LaysM
import Derived.Shelf.Strconv.Itoa1
import Derived.Shelf.Strconv.Itoa2
import Derived.Lib.Walk
import Derived.Lib.ItoaWalk
import Derived.Lib.ItoaMem
import Derived.Lib.AppendIntMem
namespace Go.Proofs.YtlkhkhdacgeicaaGreatDoor
open Go.RowKit Go.Shelf Go.Sort Go.Lib
def Tryz.laysM284_ren : Go.Shelf.Ren := ⟨fun | 284 => 325 | 129 => 218 | 317 => 337 | 318 => 338 | n => n, fun | 53 => 27 | 3 => 3 | 212 => 357 | 0 => 0 | 4 => 4 | 46 => 134 | 5 => 5 | 9 => 9 | n => n, fun | 17 => 2 | n => n⟩
theorem Tryz.laysM284 : Go.Proofs.LaysM.n284 Tryz.prog Tryz.laysM284_ren := open Go.Proofs.Tryz in { mixed := by kernel_rfl, f129 := func218.trans (congrArg some (by kernel_rfl)), f284 := func325.trans (congrArg some (by kernel_rfl)), f317 := func337.trans (congrArg some (by kernel_rfl)), f318 := func338.trans (congrArg some (by kernel_rfl)), t0 := underlying0, a0 := isAgg0, z0 := sizeOf0, v0 := zeroValue0, t3 := underlying3, a3 := isAgg3, z3 := sizeOf3, v3 := zeroValue3, t4 := underlying4, a4 := isAgg4, z4 := sizeOf4, v4 := zeroValue4, t5 := underlying5, a5 := isAgg5, z5 := sizeOf5, v5 := zeroValue5, t9 := underlying9, a9 := isAgg9, z9 := sizeOf9, v9 := zeroValue9, t46 := underlying134, a46 := isAgg134, z46 := sizeOf134, v46 := zeroValue134, t53 := underlying27, a53 := isAgg27, z53 := sizeOf27, v53 := zeroValue27, t212 := underlying357, a212 := isAgg357, z212 := sizeOf357, v212 := zeroValue357, g17 := by kernel_rfl, i0 := by kernel_rfl, i3 := by kernel_rfl, i4 := by kernel_rfl, i5 := by kernel_rfl, i9 := by kernel_rfl, i46 := by kernel_rfl, i53 := by kernel_rfl, i212 := by kernel_rfl, m17 := by kernel_rfl }
/-- The table of the powers of ten stays while nothing below B turns. -/
abbrev Tab10 (B : Nat) (w : World) : Prop := Lib.TabBelow Tryz.prog B w "internal/strconv.uint64pow10" .u64 Lib.pow10Tab
theorem Tab10.of {w : World} (h : Lib.TabIs Tryz.prog w "internal/strconv.uint64pow10" .u64 Lib.pow10Tab) : Tab10 w.heap.size w := Lib.tabBelow_of_tabIs h
theorem Tab10.on {B : Nat} {w w' : World} (h : Tab10 B w) (hb : Below B w w') : Tab10 B w' := fun _ hw => h _ (hb.trans hw)
theorem Tab10.at2 {w0 w : World} (h : Tab10 w0.heap.size w0) (hb : Below w0.heap.size w0 w) : Tab10 w.heap.size w := Tab10.of (h.on hb).here
end Go.Proofs.YtlkhkhdacgeicaaGreatDoor
