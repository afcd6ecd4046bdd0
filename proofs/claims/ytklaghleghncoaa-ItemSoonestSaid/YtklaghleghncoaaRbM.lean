/- The tree of numbers: Len, Depth. -/
import Derived.Test.YtklaghleghncoaaItemSoonestZ27
import Derived.Test.YtklaghleghncoaaItemSoonestZ24
import Derived.Deep.TreeCalls
import Derived.BigQuiet
import Derived.Deep.QuietTactic
namespace Go.Proofs.Ytklaghleghncoaa
open Go.RowKit
theorem In.drewN {w : World} {t : Tr Int} (h : In w t) (n : Nat) : In (w.drewN n) t := h.below (by
  exact ⟨rfl, rfl, rfl, Nat.le_refl _, fun _ _ => rfl⟩)
/-- The block of a slice. -/
def rowOf (A : Option Addr) : List Nat := (A.map (·.block)).toList
theorem row_own {A : Option Addr} {n c : Nat} {k : Nat} (h : (Value.slice A n c).ownBlock = some k) : k ∈ rowOf A := by
  cases A with
  | none => simp [Value.ownBlock] at h
  | some a => simpa [Value.ownBlock, rowOf, eq_comm] using h
theorem Chg.grown {A : Option Addr} {n c : Nat} {w w' : World} (h : w.grownBy w' (Value.slice A n c).ownBlock) : Chg (rowOf A) w w' :=
  ⟨h.os, h.tape, h.output, h.size, fun k hk hr => h.block k hk (fun e => hr (row_own e.symm))⟩
theorem Below.chg {F : List Nat} {W0 w w' : World} (h : Below W0.heap.size W0 w) (hc : Chg F w w') (hF : ∀ k ∈ F, W0.heap.size ≤ k) : Below W0.heap.size W0 w' :=
  h.trans (hc.toBelow h.size hF)
end Go.Proofs.Ytklaghleghncoaa
