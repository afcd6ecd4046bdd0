/- Plain facts on wide numbers: nothing of the program. -/
import Derived.WalkKit
import Derived.Deep.Draws
namespace Go.Proofs.Ytmomigklglnmkaa
open Go.RowKit
theorem hid {p : Prop} (h : p) : RowKit.Hid p := h
/-- A cell that is there is there behind a call that writes nothing that was there. -/
theorem keep1 {w w' : World} {b o : Nat} {v : Value} (hb : Below w.heap.size w w') (h : w.cell? ⟨b, o, none⟩ = some v) : w'.cell? ⟨b, o, none⟩ = some v :=
  (hb.cell (p := ⟨b, o, none⟩) (World.block_lt_of_cell? w _ h)).trans h
end Go.Proofs.Ytmomigklglnmkaa
