/- The contracts of the document's answer for layer 1, continued: is it a wide number? -/
import Derived.Test.YtmklbmiddeonkaaDtreeShiftsZ29
import Derived.Deep.CutBlock
import Derived.Deep.DeepCutAuto
namespace Go.Proofs.Ytmklbmiddeonkaa
open Go.RowKit

/-- What stands in memory while a number is held against a bound. -/
def PQ (w0 : World) (s : Bool) (A : Option Addr) (n c : Nat) (P : Int) (w : World) : Prop := Below w0.heap.size w0 w ∧ IsB w 1132 s A n c P
theorem PQ.below {w0 : World} {s : Bool} {A : Option Addr} {n c : Nat} {P : Int} {w w' : World} (h : PQ w0 s A n c P w) (hb : Below w.heap.size w w') : PQ w0 s A n c P w' := ⟨below_keep h.1 hb, h.2.below hb⟩

end Go.Proofs.Ytmklbmiddeonkaa
