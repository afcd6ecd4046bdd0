/- The contracts of the package vtime, continued: the spread; the chapter's example. -/
import Derived.Test.YtoioeginfhkjjaaGreatDoorVtime
import Derived.Test.YtoioeginfhkjjaaGreatDoorMeanShiftsZ7
namespace Go.Proofs.YtoioeginfhkjjaaGreatDoor
open Go.RowKit

theorem RdU.tail {k : IntKind} {w : World} {b off n : Nat} {z : Int} {zs : List Int} (h : RdU k w (some ⟨b, off, none⟩) (n + 1) (z :: zs)) : RdU k w (some ⟨b, off + 1, none⟩) n zs :=
  ⟨by have := h.1; simp at this; exact this, fun i hi => by
    obtain ⟨b', o', e, hl, hc⟩ := h.2 0 (by omega)
    injection e with e; injection e with e1 e2
    subst e1 e2
    refine ⟨b, off + 1, rfl, hl, fun j hj => ?_⟩
    have := hc (j + 1) (by omega)
    rw [show off + 1 + j = off + (j + 1) by omega, this]; rfl⟩
theorem RdU.head {k : IntKind} {w : World} {A : Option Addr} {n : Nat} {z : Int} {zs : List Int} (h : RdU k w A (n + 1) (z :: zs)) : ∃ b off, A = some ⟨b, off, none⟩ ∧ w.cell? ⟨b, off, none⟩ = some (.int k z) := by
  obtain ⟨b, off, e, hl, hc⟩ := h.2 0 (by omega)
  exact ⟨b, off, e, by have := hc 0 (by omega); simpa using this⟩

theorem below_on {W w w' : World} (h : Below W.heap.size W w) (hb : Below w.heap.size w w') : Below W.heap.size W w' := h.trans (hb.mono h.size)
/-- How far apart several are. -/
def spreadL : List Int → Int
  | [] => 0
  | z :: zs => IntKind.u64.wrap (dif (lastL z zs) (firstL z zs))

end Go.Proofs.YtoioeginfhkjjaaGreatDoor
