import Derived.Test.YtjndmmcjobbcbaaGreatDoorSetSleepsZ0
import Derived.OpenShut
namespace Go.Proofs.YtjndmmcjobbcbaaGreatDoor
open Go.RowKit
def RdU (k : IntKind) (w : World) (A : Option Addr) (n : Nat) (zs : List Int) : Prop :=
 zs.length = n ∧ ∀ i, i < n → ∃ b off, A = some ⟨b, off, none⟩ ∧ b < w.heap.size ∧ ∀ j, j < n → w.cell? ⟨b, off + j, none⟩ = some (.int k (zs.getD j 0))
theorem RdU.below {k : IntKind} {w w' : World} {A : Option Addr} {n : Nat} {zs : List Int} (h : RdU k w A n zs) (hb : Below w.heap.size w w') : RdU k w' A n zs :=
 ⟨h.1, fun i hi => by
  obtain ⟨b, off, e, hl, hc⟩ := h.2 i hi
  exact ⟨b, off, e, Nat.lt_of_lt_of_le hl hb.size, fun j hj => keep1 hb (hc j hj)⟩⟩
end Go.Proofs.YtjndmmcjobbcbaaGreatDoor
