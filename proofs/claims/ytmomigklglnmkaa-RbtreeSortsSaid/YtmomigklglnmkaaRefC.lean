/- The contracts of the document's answer for layer 1, continued: numbers of 64 bits. -/
import Derived.Test.YtmomigklglnmkaaNum
import Derived.OwnWalk
import Derived.Deep.LoopGhost
import Derived.Deep.QuietTactic
import Derived.BigQuiet
import Derived.Test.YtmomigklglnmkaaRows
import Derived.WalkKit
import Derived.WalkSpells
import Derived.Shelf.Bits.Mul64
import Derived.Shelf.Small.Bits
import Derived.Lib.BitFns
import Derived.Laws.OwnMore
import Derived.Deep.AppendLies
namespace Go.Proofs.Ytmomigklglnmkaa
open Go.RowKit
theorem infoInt : (Try.prog.info? 3).map (fun i => (i.zero, i.size, i.bytes)) = some (some (.int .i64 0), 1, 8) := by kernel_rfl
/-- A slice of ints that the call itself has made (from block base on): it reads as zs. -/
def Own (w : World) (base : Nat) (A : Option Addr) (n c : Nat) (zs : List Int) : Prop := w.ownsRow base 3 1 (.slice A n c) n (zs.map (Value.int .i64))
theorem Own.nil (w : World) (base : Nat) : Own w base none 0 0 [] := World.ownsRow_nil _ _ _ _
theorem Own.len {w : World} {base : Nat} {A : Option Addr} {n c : Nat} {zs : List Int} (h : Own w base A n c zs) : zs.length = n := by have := h.1; simpa using this
/-- The row that it owns is none below base. -/
theorem Own.row {w : World} {base : Nat} {A : Option Addr} {n c : Nat} {zs : List Int} (h : Own w base A n c zs) {k : Nat} (hk : k < base) : some k ≠ (Value.slice A n c).ownBlock := by
  rcases h.2 with ⟨hv, _⟩ | ⟨g, cap, cur, hv, hb, _⟩
  · rw [hv]; simp [Value.ownBlock]
  · rw [hv]; simp only [Value.ownBlock]; intro e; injection e with e; omega
theorem Own.rowGe {w : World} {base : Nat} {A : Option Addr} {n c : Nat} {zs : List Int} (h : Own w base A n c zs) : ∀ k, (Value.slice A n c).ownBlock = some k → base ≤ k := by
  intro k hk
  rcases Nat.lt_or_ge k base with h1 | h1
  · exact absurd hk.symm (h.row h1)
  · exact h1
end Go.Proofs.Ytmomigklglnmkaa
