import Derived.Test.YtjndmmcjobbcbaaGreatDoorQueueBackZ13
import Derived.Test.YtjndmmcjobbcbaaGreatDoorItF
import Derived.Test.YtjndmmcjobbcbaaGreatDoorQueueBackZ9
import Derived.Test.YtjndmmcjobbcbaaGreatDoorMpA
import Derived.Test.YtjndmmcjobbcbaaGreatDoorQueueBackZ36
import Derived.Test.YtjndmmcjobbcbaaGreatDoorRbM
import Derived.Test.YtjndmmcjobbcbaaGreatDoorQueueBackZ26
import Derived.Test.YtjndmmcjobbcbaaGreatDoorOpenI
import Derived.Test.YtjndmmcjobbcbaaGreatDoorOpenQ
import Derived.Test.YtjndmmcjobbcbaaGreatDoorOpenN
import Derived.Test.YtjndmmcjobbcbaaGreatDoorQueueBackZ32
import Derived.Shelf.SlSortCmp.WholeK
import Derived.Shelf.Small.Bits
import Derived.Shelf.SlSortCmp.InsertionK
import Derived.Lib.Small
import Derived.Lib.Walk
import Derived.Lib.SlKeysI
import Derived.Shelf.SlIter.Collect
import Derived.Deep.WholeRow
import Derived.Sort.OwnSorted
import Derived.Shelf.GgSortFunc.RowK
import Derived.Shelf.GgSortFunc.InsertionK
import Derived.Deep.AppendLies
import Derived.Deep.MidRow
import Derived.Deep.SlicePairs
namespace Go.Proofs.YtjndmmcjobbcbaaGreatDoor
open Go.RowKit
theorem lesI_ins {a : It} {L : List It} (h : ∀ y ∈ L, y.i ≠ a.i) : lesI a.i (insI a L) = L := by
  unfold lesI insI
  have e : ∀ A : List It, (∀ y ∈ A, y.i ≠ a.i) → A.filter (fun y => !(y.i == a.i)) = A := fun A hA => List.filter_eq_self.2 (fun y hy => by simpa using hA y hy)
  rw [List.filter_append, List.filter_cons_of_neg (by simp), e _ (fun y hy => h y (List.takeWhile_sublist _ |>.subset hy)), e _ (fun y hy => h y (List.dropWhile_sublist _ |>.subset hy)), List.takeWhile_append_dropWhile]
end Go.Proofs.YtjndmmcjobbcbaaGreatDoor
