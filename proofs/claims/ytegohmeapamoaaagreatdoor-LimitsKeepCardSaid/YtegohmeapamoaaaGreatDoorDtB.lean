/- The tree of items: where it lies. -/
import Derived.Test.YtegohmeapamoaaaGreatDoorRbB
import Derived.Test.YtegohmeapamoaaaGreatDoorLimitsKeepZ21
namespace Go.Proofs.YtegohmeapamoaaaGreatDoor
open Go.RowKit
/-- A node's cells: its item, what all below it count, left, right, red. -/
def nd (x m : It) (l r : Value) (c : Bool) : List Value := x.cells ++ (m.cells ++ [l, r, .bool c])
theorem Cs.th {w : World} {g : Nat} {x m : It} {l r : Value} {c : Bool} (h : Cs w g (nd x m l r c)) : Th w g x := ⟨(h 0 _ rfl).1, (h 1 _ rfl).1, (h 2 _ rfl).1, (h 3 _ rfl).1, (h 4 _ rfl).1, (h 5 _ rfl).1, (h 6 _ rfl).1⟩
theorem Th.range {w : World} {g : Nat} {x : It} (h : Th w g x) : w.rangeAt g 0 x.cells := fun j v hj => by
  obtain ⟨h0, h1, h2, h3, h4, h5, h6⟩ := h
  match j, hj with
  | 0, hj | 1, hj | 2, hj | 3, hj | 4, hj | 5, hj | 6, hj => simp [It.cells] at hj; subst hj; first | exact h0 | exact h1 | exact h2 | exact h3 | exact h4 | exact h5 | exact h6
  | n + 7, hj => simp [It.cells] at hj
-- reading
end Go.Proofs.YtegohmeapamoaaaGreatDoor
