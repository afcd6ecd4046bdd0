import Derived.Test.YtjndmmcjobbcbaaGreatDoorSeO
import Derived.Test.YtjndmmcjobbcbaaGreatDoorSeF
import Derived.Test.YtjndmmcjobbcbaaGreatDoorQueueBackZ13
import Derived.Test.YtjndmmcjobbcbaaGreatDoorItF
import Derived.Test.YtjndmmcjobbcbaaGreatDoorQueueBackZ9
import Derived.Test.YtjndmmcjobbcbaaGreatDoorMpA
import Derived.Test.YtjndmmcjobbcbaaGreatDoorQueueBackZ36
import Derived.Test.YtjndmmcjobbcbaaGreatDoorCkW
import Derived.Test.YtjndmmcjobbcbaaGreatDoorCkJ
import Derived.Test.YtjndmmcjobbcbaaGreatDoorTxt
import Derived.Shelf.SlSortCmp.WholeK
import Derived.Shelf.Small.Bits
import Derived.Shelf.SlSortCmp.InsertionK
import Derived.Lib.Small
import Derived.Lib.Walk
import Derived.Lib.SlKeysI
import Derived.Shelf.SlIter.Collect
import Derived.Deep.WholeRow
import Derived.Sort.OwnSorted
import Derived.Shelf.GgSortFunc.RowK
import Derived.Shelf.GgSortFunc.InsertionK
namespace Go.Proofs.YtjndmmcjobbcbaaGreatDoor
open Go.RowKit
theorem first_same {b : Int} {l : List It} (h : Qok b l) {x y : It} (hx : IsBest x (l.filter (fun y => (qM b l).elig y.pp))) (hy : IsBest y (l.filter (fun y => (qM b l).elig y.pp))) : x = y := by
  obtain ⟨T, hn⟩ := h.nar
  exact bestQ_one (T := T) (fun a ha => hn a (List.mem_filter.1 ha).1) (List.Nodup.sublist (List.filter_sublist.map _) h.ids) hx hy
end Go.Proofs.YtjndmmcjobbcbaaGreatDoor
