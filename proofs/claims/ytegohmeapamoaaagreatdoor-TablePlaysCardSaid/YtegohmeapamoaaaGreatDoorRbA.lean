/- The tree of numbers: what a thing counts, and two beside one another. -/
import Derived.Test.YtegohmeapamoaaaGreatDoorRefC
import Derived.Test.YtegohmeapamoaaaGreatDoorCs
import Derived.Test.YtegohmeapamoaaaGreatDoorRdu
import Derived.Test.YtegohmeapamoaaaGreatDoorTablePlaysZ13
namespace Go.Proofs.YtegohmeapamoaaaGreatDoor
open Go.RowKit
/-- A slice that reads as a list, not empty, in a block that is no node's. -/
def Sl (w : World) (v : Value) (L : List Int) : Prop := ∃ (s cap : Nat), v = .slice (some ⟨s, 0, none⟩) L.length cap ∧ 0 < L.length ∧ s < w.heap.size ∧
  (∀ i, i < L.length → w.cell? ⟨s, i, none⟩ = some (.int .i64 (L.getD i 0))) ∧ (2 ≤ L.length ∨ w.cell? ⟨s, 1, none⟩ = none)
theorem Own.empty (w : World) : Own (w.alloc (.cells #[] 3)) w.heap.size (some ⟨w.heap.size, 0, none⟩) 0 0 [] :=
  ⟨rfl, .inr ⟨w.heap.size, 0, #[], rfl, Nat.le_refl _, heap_alloc_new w _, Nat.le_refl _, by unfold maxLen; omega, rfl, rfl⟩⟩
theorem Sl.below {w w' : World} {v : Value} {L : List Int} (h : Sl w v L) (hb : Below w.heap.size w w') : Sl w' v L := by
  obtain ⟨s, c, e, h1, h2, h3, h4⟩ := h
  refine ⟨s, c, e, h1, Nat.lt_of_lt_of_le h2 hb.size, fun i hi => keep1 hb (h3 i hi), h4.imp id (fun h => ?_)⟩
  rw [hb.cell (p := ⟨s, 1, none⟩) h2]; exact h
end Go.Proofs.YtegohmeapamoaaaGreatDoor
