/- ItemTells: the walk. -/
import Derived.Test.YtmklbmiddeonkaaItemTellsZ34
import Derived.Test.YtmklbmiddeonkaaItells2
import Derived.Test.YtmklbmiddeonkaaItells3
namespace Go.Proofs.Ytmklbmiddeonkaa
open Go.RowKit

theorem Itells.law (a b : It) (z : Int) (w : World) (ha : a.In) (hb : b.In) {p : Prop} (_ : p) :
    Calls Try.prog 3 #[a.val, b.val, .int .u64 z] w (Ans (.bool true) w) := by
  cases h1 : It.right a with
  | false => exact Itells.no1 a b z ha hb w h1
  | true =>
    cases h2 : It.right b with
    | false => exact Itells.no2 a b z ha hb w h1 h2
    | true => exact Itells.yes a b z ha hb w h1 h2

end Go.Proofs.Ytmklbmiddeonkaa
