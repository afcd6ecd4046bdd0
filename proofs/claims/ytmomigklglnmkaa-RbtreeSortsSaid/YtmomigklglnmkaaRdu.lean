/- A slice of integers that a walk reads. -/
import Derived.Test.YtmomigklglnmkaaNum
import Derived.OpenShut
namespace Go.Proofs.Ytmomigklglnmkaa
open Go.RowKit
/-- A slice that reads as these numbers: what a walk is told of it. -/
def RdU (k : IntKind) (w : World) (A : Option Addr) (n : Nat) (zs : List Int) : Prop :=
  zs.length = n ∧ ∀ i, i < n → ∃ b off, A = some ⟨b, off, none⟩ ∧ b < w.heap.size ∧ ∀ j, j < n → w.cell? ⟨b, off + j, none⟩ = some (.int k (zs.getD j 0))
theorem RdU.below {k : IntKind} {w w' : World} {A : Option Addr} {n : Nat} {zs : List Int} (h : RdU k w A n zs) (hb : Below w.heap.size w w') : RdU k w' A n zs :=
  ⟨h.1, fun i hi => by
    obtain ⟨b, off, e, hl, hc⟩ := h.2 i hi
    exact ⟨b, off, e, Nat.lt_of_lt_of_le hl hb.size, fun j hj => keep1 hb (hc j hj)⟩⟩
theorem RdU.new3 (k : IntKind) (w : World) (t : TypeId) (x y z : Int) : RdU k (w.alloc (.cells #[.int k x, .int k y, .int k z] t)) (some ⟨w.heap.size, 0, none⟩) 3 [x, y, z] :=
  ⟨rfl, fun _ _ => ⟨_, 0, rfl, by simp, fun j hj => by
    rcases j with _ | _ | _ | j
    · simp
    · simp
    · simp
    · omega⟩⟩
end Go.Proofs.Ytmomigklglnmkaa
