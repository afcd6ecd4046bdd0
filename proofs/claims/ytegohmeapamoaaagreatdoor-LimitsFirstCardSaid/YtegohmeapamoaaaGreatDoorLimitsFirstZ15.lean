/- Texts of LimitsFirst's proof, together. -/
import Derived.Test.YtegohmeapamoaaaGreatDoorOpen
import Derived.Test.YtegohmeapamoaaaGreatDoorRdu
import Derived.Deep.SlicePairs
namespace Go.Proofs.YtegohmeapamoaaaGreatDoor
/- How arguments that are slices of integers are opened, for the laws' frames. -/
section
open Go.ChangeShapes Go.WideShapes Go.ChangeAt Go.RowKit Go.Joins
theorem spot_none {w : World} {x : Addr} {v : Value} (h0 : w.cell? (x.add 0) = some v) : x = ⟨x.block, x.off, none⟩ := by
  have e : x.add 0 = x := by simp [Addr.add]
  rw [e] at h0
  have := World.cell?_spot h0
  cases x; simp_all
theorem add_at {b off : Nat} (i : Nat) : (⟨b, off, none⟩ : Addr).add i = ⟨b, off + i, none⟩ := by
  unfold Addr.add; split
  · simp_all
  · rfl
set_option maxRecDepth 100000 in
/-- A slice of integers: what it reads as. -/
theorem open_nums {H : Type} {enc : TypeId × Value → H} {W : World} {base b0 : Nat} {spare : Nat → Bool} {held : Bool} {r : Reach} {v : Value} {d : DataW H} {p : List MemPlace} {k : IntKind} {t e : TypeId}
    (ht : Tryz.prog.underlying t = some (.slice e)) (he : Tryz.prog.underlying e = some (.int k)) (hc : Tryz.prog.cellsOf e = 1)
    (hv : Value.okWide Tryz.prog W r b0 t v) (h : DataW.Trod enc Tryz.prog W base spare held t v d p) :
    ∃ (a : Option Addr) (n c : Nat) (zs : List Int), v = .slice a n c ∧ RdU k W a n zs ∧ (∀ z ∈ zs, (Lit.int k z).wf = true) ∧ n ≤ c ∧ n ≤ 9223372036854775807 := by
  obtain ⟨a, n, c, rfl⟩ := okWide_slice ht hv
  obtain ⟨fuel, hf⟩ := h
  rcases open_ints ht he hc hf with ⟨hcs, _⟩ | ⟨x, l, cp, zs, hcs, _, hl, hm, hz, _, hcell, hwz⟩
  · simp [Value.cells] at hcs
    obtain ⟨rfl, rfl, rfl⟩ := hcs
    exact ⟨_, _, _, [], rfl, ⟨rfl, fun i hi => absurd hi (by omega)⟩, (by simp), Nat.le_refl _, by omega⟩
  · simp [Value.cells] at hcs
    obtain ⟨rfl, rfl, rfl⟩ := hcs
    have hlz : n ≤ zs.length := by rw [hz]; split <;> omega
    refine ⟨_, _, _, zs.take n, rfl, ⟨by rw [List.length_take]; omega, fun i hi => ?_⟩, fun z hz => hwz z (List.mem_of_mem_take hz), hl, by unfold maxLen at hm; omega⟩
    have h0 := hcell 0 (by omega)
    have ex := spot_none h0
    refine ⟨x.block, x.off, by rw [← ex], World.block_lt_of_cell? W _ (by rw [show x.add 0 = x by simp [Addr.add]] at h0; exact h0), fun j hj => ?_⟩
    have hj' := hcell j (by omega)
    rw [ex, add_at] at hj'
    rw [hj']
    simp [List.getD, List.getElem?_take_of_lt hj]
end

/- A slice of wide numbers that a walk reads; how one is opened, for the laws' frames. -/
section
open Go.ChangeShapes Go.WideShapes Go.ChangeAt Go.RowKit Go.Joins Go.Deep
def vW (p : Int × Int) : Int := p.1 * 18446744073709551616 + p.2
def sumZ (ps : List (Int × Int)) : Int := (ps.map vW).sum
def AllW (ps : List (Int × Int)) : Prop := ∀ p ∈ ps, IsW p.1 p.2 (vW p)
def RdW (w : World) (A : Option Addr) (n : Nat) (ps : List (Int × Int)) : Prop :=
  ps.length = n ∧ ∀ i, i < n → ∃ b off, A = some ⟨b, off, none⟩ ∧ b < w.heap.size ∧ ∀ j, j < n → w.cell? ⟨b, off + j * 2, none⟩ = some (.int .i64 (ps.getD j (0, 0)).1) ∧ w.cell? ⟨b, off + j * 2 + 1, none⟩ = some (.int .u64 (ps.getD j (0, 0)).2)
theorem RdW.below {w w' : World} {A : Option Addr} {n : Nat} {ps : List (Int × Int)} (h : RdW w A n ps) (hb : Below w.heap.size w w') : RdW w' A n ps :=
  ⟨h.1, fun i hi => by
    obtain ⟨b, off, e, hl, hc⟩ := h.2 i hi
    exact ⟨b, off, e, Nat.lt_of_lt_of_le hl hb.size, fun j hj => ⟨keep1 hb (hc j hj).1, keep1 hb (hc j hj).2⟩⟩⟩
theorem AllW.get {ps : List (Int × Int)} (h : AllW ps) {k : Nat} (hk : k < ps.length) : IsW (ps.getD k (0, 0)).1 (ps.getD k (0, 0)).2 (vW (ps.getD k (0, 0))) := by
  have e : ps.getD k (0, 0) = ps[k] := by simp [List.getD, hk]
  rw [e]; exact h _ (List.getElem_mem hk)
theorem sumZ_take (ps : List (Int × Int)) {k : Nat} (hk : k < ps.length) : sumZ (ps.take (k + 1)) = sumZ (ps.take k) + vW (ps.getD k (0, 0)) := by
  have e : ps.getD k (0, 0) = ps[k] := by simp [List.getD, hk]
  rw [List.take_succ_eq_append_getElem hk, e]; unfold sumZ; rw [List.map_append, List.sum_append]; simp only [List.map_cons, List.map_nil, List.sum_cons, List.sum_nil]; omega
end

end Go.Proofs.YtegohmeapamoaaaGreatDoor
