/- What the statements of layer 1 ask of a wide number and one of the document's: the same, or told as it is. -/
import Derived.Test.YtmklbmiddeonkaaRefQ
import Derived.Test.YtmklbmiddeonkaaDtreeShiftsZ12
namespace Go.Proofs.Ytmklbmiddeonkaa
open Go.RowKit

/-- What stands in memory while two are held together. -/
def SQ (w0 : World) (K : Nat) (s : Bool) (A : Option Addr) (n c : Nat) (P : Int) (w : World) : Prop := Below w0.heap.size w0 w ∧ IsB w K s A n c P
theorem SQ.below {w0 : World} {K : Nat} {s : Bool} {A : Option Addr} {n c : Nat} {P : Int} {w w' : World} (h : SQ w0 K s A n c P w) (hb : Below w.heap.size w w') : SQ w0 K s A n c P w' := ⟨below_keep h.1 hb, h.2.below hb⟩

end Go.Proofs.Ytmklbmiddeonkaa
