/- The contracts of the document's answer for layer 1, continued: sums, differences, which is larger, of digits. -/
import Derived.Test.YtmomigklglnmkaaNum
import Derived.Test.YtmomigklglnmkaaRefC
import Derived.Deep.RegionHeld3
import Derived.Deep.RegionWith
import Derived.Deep.LoopGhost
import Derived.Deep.QuietTactic
import Derived.BigQuiet
import Derived.Test.YtmomigklglnmkaaRows
import Derived.WalkKit
import Derived.WalkSpells
import Derived.Shelf.Bits.Mul64
import Derived.Shelf.Small.Bits
import Derived.Lib.BitFns
import Derived.Laws.OwnMore
import Derived.Deep.AppendLies
namespace Go.Proofs.Ytmomigklglnmkaa
open Go.RowKit
theorem Own.below {w w' : World} {base : Nat} {A : Option Addr} {n c : Nat} {zs : List Int} (h : Own w base A n c zs) (hb : Below w.heap.size w w') : Own w' base A n c zs := by
  obtain ⟨h1, h2⟩ := h
  refine ⟨h1, ?_⟩
  rcases h2 with h2 | ⟨g, cap, cur, hv, hg, hh, r⟩
  · exact .inl h2
  · refine .inr ⟨g, cap, cur, hv, hg, ?_, r⟩
    rw [hb.block g ?_]
    · exact hh
    · rcases Nat.lt_or_ge g w.heap.size with h1 | h1
      · exact h1
      · rw [Array.getElem?_eq_none h1] at hh; cases hh
end Go.Proofs.Ytmomigklglnmkaa
