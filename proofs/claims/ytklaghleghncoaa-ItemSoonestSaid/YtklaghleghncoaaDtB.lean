/- The tree of items: where it lies. -/
import Derived.Test.YtklaghleghncoaaRbB
import Derived.Test.YtklaghleghncoaaItemSoonestZ22
namespace Go.Proofs.Ytklaghleghncoaa
open Go.RowKit
theorem Th.range {w : World} {g : Nat} {x : It} (h : Th w g x) : w.rangeAt g 0 x.cells := fun j v hj => by
  obtain ⟨h0, h1, h2, h3, h4, h5, h6⟩ := h
  match j, hj with
  | 0, hj | 1, hj | 2, hj | 3, hj | 4, hj | 5, hj | 6, hj => simp [It.cells] at hj; subst hj; first | exact h0 | exact h1 | exact h2 | exact h3 | exact h4 | exact h5 | exact h6
  | n + 7, hj => simp [It.cells] at hj
end Go.Proofs.Ytklaghleghncoaa
