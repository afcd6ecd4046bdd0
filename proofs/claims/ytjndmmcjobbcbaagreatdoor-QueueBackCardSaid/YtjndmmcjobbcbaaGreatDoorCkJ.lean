/- The checker's hook for maps' clones; both hooks. -/
import Derived.Test.YtjndmmcjobbcbaaGreatDoorQueueBackZ13
import Derived.Test.YtjndmmcjobbcbaaGreatDoorItF
import Derived.Test.YtjndmmcjobbcbaaGreatDoorQueueBackZ9
import Derived.Test.YtjndmmcjobbcbaaGreatDoorCkF
import Derived.Shelf.SlMaps.Clone
import Derived.Shelf.SlSortCmp.WholeK
import Derived.Shelf.Small.Bits
import Derived.Shelf.SlSortCmp.InsertionK
import Derived.Lib.Small
import Derived.Lib.Walk
import Derived.Lib.SlKeysI
import Derived.Shelf.SlIter.Collect
import Derived.Deep.WholeRow
import Derived.Sort.OwnSorted
import Derived.Shelf.GgSortFunc.RowK
import Derived.Shelf.GgSortFunc.InsertionK
namespace Go.Proofs.YtjndmmcjobbcbaaGreatDoor.Ck
open Go Go.RowKit
set_option maxRecDepth 100000 in
set_option maxHeartbeats 2000000 in
theorem mapsCloneI (b : Nat) (es : Array MapEntry) (ck : Nat) (w : World) (hb : w.heap[b]? = some (.map es ck)) :
    Calls Tryz.prog 70 #[.map (some b)] w fun e w' => e = .returned (.map (some w.heap.size)) ∧ w' = w.alloc (.map es ck) := by
  have hq := fun w => run_eql_map_nil_sl (P := Tryz.prog) w 128 _ _ (some b) Tryz.underlying128
  go_enter Tryz.func70, Tryz.ntmps70
  go_wp2
  rw [run_callFunc_extern Tryz.func123 (by kernel_rfl) (by kernel_rfl) (by kernel_rfl) (e := Extern.MapsClone.clone) (by kernel_rfl), run_maps_clone_sl w 128 hb]
  simp only [Result.andThen]
  rw [Oper.upon_value]
  go_wp2
  rw [run_typeAssert_map_sl _ 128 _ _ _ _ Tryz.underlying128]
  simp only [Result.andThen]
  rw [Oper.upon_value]
  go_wp2
  go_ret
  exact ⟨rfl, rfl⟩
end Go.Proofs.YtjndmmcjobbcbaaGreatDoor.Ck
