/- The contracts of the package vtime, continued: the spread; the chapter's example. -/
import Derived.Test.YtmomigklglnmkaaNum
import Derived.Test.YtmomigklglnmkaaRdu
import Derived.Deep.RegionHeld3
import Derived.Deep.QuietTactic
import Derived.BigQuiet
import Derived.Test.YtmomigklglnmkaaRows
import Derived.WalkKit
import Derived.WalkSpells
import Derived.Shelf.Bits.Mul64
import Derived.Shelf.Small.Bits
import Derived.Lib.BitFns
import Derived.Deep.LoopGhost
import Derived.OpenShut
import Derived.Deep.CutBlock
import Derived.Deep.DeepCutAuto
namespace Go.Proofs.Ytmomigklglnmkaa
open Go.RowKit
theorem below_on {W w w' : World} (h : Below W.heap.size W w) (hb : Below w.heap.size w w') : Below W.heap.size W w' := h.trans (hb.mono h.size)
end Go.Proofs.Ytmomigklglnmkaa
