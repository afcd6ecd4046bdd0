/- The contracts of the package pos, continued: where a distance leads. -/
import Derived.Test.YtmomigklglnmkaaVspread
import Derived.Test.YtmomigklglnmkaaNum
import Derived.Test.YtmomigklglnmkaaCs
import Derived.Deep.RegionHeld3
import Derived.Deep.QuietTactic
import Derived.BigQuiet
import Derived.Test.YtmomigklglnmkaaRows
import Derived.WalkKit
import Derived.WalkSpells
import Derived.Shelf.Bits.Mul64
import Derived.Shelf.Small.Bits
import Derived.Lib.BitFns
import Derived.Deep.LoopGhost
import Derived.Deep.CutBlock
import Derived.Deep.DeepCutAuto
namespace Go.Proofs.Ytmomigklglnmkaa
open Go.RowKit
/-- What a call answers, and that nothing that was there is written. -/
def Ans (v : Value) (w : World) (e : Ending) (w' : World) : Prop := e = .returned v ∧ Below w.heap.size w w'
end Go.Proofs.Ytmomigklglnmkaa
