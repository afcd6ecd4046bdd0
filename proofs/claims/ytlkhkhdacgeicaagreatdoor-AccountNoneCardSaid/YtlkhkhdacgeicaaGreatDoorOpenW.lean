/- A slice of wide numbers that a walk reads; how one is opened, for the laws' frames. -/
import Derived.Test.YtlkhkhdacgeicaaGreatDoorOpen
import Derived.Test.YtlkhkhdacgeicaaGreatDoorAccountNoneZ5
import Derived.Deep.SlicePairs
import Derived.OpenShut
namespace Go.Proofs.YtlkhkhdacgeicaaGreatDoor
open Go.ChangeShapes Go.WideShapes Go.ChangeAt Go.RowKit Go.Joins Go.Deep
def vW (p : Int × Int) : Int := p.1 * 18446744073709551616 + p.2
def sumZ (ps : List (Int × Int)) : Int := (ps.map vW).sum
def AllW (ps : List (Int × Int)) : Prop := ∀ p ∈ ps, IsW p.1 p.2 (vW p)
def RdW (w : World) (A : Option Addr) (n : Nat) (ps : List (Int × Int)) : Prop :=
  ps.length = n ∧ ∀ i, i < n → ∃ b off, A = some ⟨b, off, none⟩ ∧ b < w.heap.size ∧ ∀ j, j < n → w.cell? ⟨b, off + j * 2, none⟩ = some (.int .i64 (ps.getD j (0, 0)).1) ∧ w.cell? ⟨b, off + j * 2 + 1, none⟩ = some (.int .u64 (ps.getD j (0, 0)).2)
theorem RdW.below {w w' : World} {A : Option Addr} {n : Nat} {ps : List (Int × Int)} (h : RdW w A n ps) (hb : Below w.heap.size w w') : RdW w' A n ps :=
  ⟨h.1, fun i hi => by
    obtain ⟨b, off, e, hl, hc⟩ := h.2 i hi
    exact ⟨b, off, e, Nat.lt_of_lt_of_le hl hb.size, fun j hj => ⟨keep1 hb (hc j hj).1, keep1 hb (hc j hj).2⟩⟩⟩
theorem AllW.get {ps : List (Int × Int)} (h : AllW ps) {k : Nat} (hk : k < ps.length) : IsW (ps.getD k (0, 0)).1 (ps.getD k (0, 0)).2 (vW (ps.getD k (0, 0))) := by
  have e : ps.getD k (0, 0) = ps[k] := by simp [List.getD, hk]
  rw [e]; exact h _ (List.getElem_mem hk)
theorem sumZ_take (ps : List (Int × Int)) {k : Nat} (hk : k < ps.length) : sumZ (ps.take (k + 1)) = sumZ (ps.take k) + vW (ps.getD k (0, 0)) := by
  have e : ps.getD k (0, 0) = ps[k] := by simp [List.getD, hk]
  rw [List.take_succ_eq_append_getElem hk, e]; unfold sumZ; rw [List.map_append, List.sum_append]; simp only [List.map_cons, List.map_nil, List.sum_cons, List.sum_nil]; omega
end Go.Proofs.YtlkhkhdacgeicaaGreatDoor
