import Derived.Test.YtbcepkfdlaioaaaGreatDtreePlaysZ0
import Derived.OpenShut
namespace Go.Proofs.YtbcepkfdlaioaaaGreat
open Go.RowKit
def RdU (k : IntKind) (w : World) (A : Option Addr) (n : Nat) (zs : List Int) : Prop :=
 zs.length = n ∧ ∀ i, i < n → ∃ b off, A = some ⟨b, off, none⟩ ∧ b < w.heap.size ∧ ∀ j, j < n → w.cell? ⟨b, off + j, none⟩ = some (.int k (zs.getD j 0))
theorem RdU.below {k : IntKind} {w w' : World} {A : Option Addr} {n : Nat} {zs : List Int} (h : RdU k w A n zs) (hb : Below w.heap.size w w') : RdU k w' A n zs :=
 ⟨h.1, fun i hi => by
  obtain ⟨b, off, e, hl, hc⟩ := h.2 i hi
  exact ⟨b, off, e, Nat.lt_of_lt_of_le hl hb.size, fun j hj => keep1 hb (hc j hj)⟩⟩
def InU (zs : List Int) : Prop := ∀ z ∈ zs, 0 ≤ z ∧ z ≤ 18446744073709551615
theorem InU.get {zs : List Int} (h : InU zs) {k : Nat} (hk : k < zs.length) : 0 ≤ zs.getD k 0 ∧ zs.getD k 0 ≤ 18446744073709551615 := by
 have : zs.getD k 0 = zs[k] := by simp [List.getD, hk]
 rw [this]; exact h _ (List.getElem_mem hk)
theorem sum_take (zs : List Int) {k : Nat} (hk : k < zs.length) : (zs.take (k + 1)).sum = (zs.take k).sum + zs.getD k 0 := by
 have : zs.getD k 0 = zs[k] := by simp [List.getD, hk]
 rw [List.take_succ_eq_append_getElem hk, List.sum_append, this]; simp
theorem sum_nonneg : ∀ (zs : List Int), InU zs → 0 ≤ zs.sum
 | [], _ => by simp
 | z :: zs, h => by
  have h1 := h z (by simp)
  have h2 := sum_nonneg zs (fun x hx => h x (by simp [hx]))
  simp only [List.sum_cons]; omega
theorem sum_take_le (zs : List Int) (h : InU zs) (k : Nat) : (zs.take k).sum ≤ zs.sum := by
 have e : zs.sum = (zs.take k).sum + (zs.drop k).sum := by rw [← List.sum_append, List.take_append_drop]
 have := sum_nonneg (zs.drop k) (fun x hx => h x (List.mem_of_mem_drop hx))
 omega
theorem RdU.new3 (k : IntKind) (w : World) (t : TypeId) (x y z : Int) : RdU k (w.alloc (.cells #[.int k x, .int k y, .int k z] t)) (some ⟨w.heap.size, 0, none⟩) 3 [x, y, z] :=
 ⟨rfl, fun _ _ => ⟨_, 0, rfl, by simp, fun j hj => by
  rcases j with _ | _ | _ | j
  ·simp
  ·simp
  ·simp
  ·omega⟩⟩
end Go.Proofs.YtbcepkfdlaioaaaGreat
