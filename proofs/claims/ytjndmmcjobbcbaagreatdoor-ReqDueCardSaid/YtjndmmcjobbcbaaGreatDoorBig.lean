import Derived.Test.YtjndmmcjobbcbaaGreatDoorReqDueZ0
import Derived.Laws.OwnMore
import Derived.Deep.AppendLies
namespace Go.Proofs.YtjndmmcjobbcbaaGreatDoor
open Go.RowKit
theorem cell_alloc {w : World} {b o : Nat} {v : Value} (obj : Obj) (h : w.cell? ⟨b, o, none⟩ = some v) : (w.alloc obj).cell? ⟨b, o, none⟩ = some v :=
  (World.cell?_alloc_lt w obj ⟨b, o, none⟩ (World.block_lt_of_cell? w _ h)).trans h
end Go.Proofs.YtjndmmcjobbcbaaGreatDoor
