/- Texts of ClampCarries's proof, together. -/
import Derived.Test.YtklaghleghncoaaGreatDoorOpen
import Derived.Test.YtklaghleghncoaaGreatDoorRdu
import Derived.Deep.SlicePairs
namespace Go.Proofs.YtklaghleghncoaaGreatDoor
/- How arguments that are slices of integers are opened, for the laws' frames. -/
section
open Go.ChangeShapes Go.WideShapes Go.ChangeAt Go.RowKit Go.Joins
theorem spot_none {w : World} {x : Addr} {v : Value} (h0 : w.cell? (x.add 0) = some v) : x = ⟨x.block, x.off, none⟩ := by
  have e : x.add 0 = x := by simp [Addr.add]
  rw [e] at h0
  have := World.cell?_spot h0
  cases x; simp_all
theorem add_at {b off : Nat} (i : Nat) : (⟨b, off, none⟩ : Addr).add i = ⟨b, off + i, none⟩ := by
  unfold Addr.add; split
  · simp_all
  · rfl
end

/- A slice of wide numbers that a walk reads; how one is opened, for the laws' frames. -/
section
open Go.ChangeShapes Go.WideShapes Go.ChangeAt Go.RowKit Go.Joins Go.Deep
def vW (p : Int × Int) : Int := p.1 * 18446744073709551616 + p.2
def sumZ (ps : List (Int × Int)) : Int := (ps.map vW).sum
def AllW (ps : List (Int × Int)) : Prop := ∀ p ∈ ps, IsW p.1 p.2 (vW p)
def RdW (w : World) (A : Option Addr) (n : Nat) (ps : List (Int × Int)) : Prop :=
  ps.length = n ∧ ∀ i, i < n → ∃ b off, A = some ⟨b, off, none⟩ ∧ b < w.heap.size ∧ ∀ j, j < n → w.cell? ⟨b, off + j * 2, none⟩ = some (.int .i64 (ps.getD j (0, 0)).1) ∧ w.cell? ⟨b, off + j * 2 + 1, none⟩ = some (.int .u64 (ps.getD j (0, 0)).2)
theorem RdW.below {w w' : World} {A : Option Addr} {n : Nat} {ps : List (Int × Int)} (h : RdW w A n ps) (hb : Below w.heap.size w w') : RdW w' A n ps :=
  ⟨h.1, fun i hi => by
    obtain ⟨b, off, e, hl, hc⟩ := h.2 i hi
    exact ⟨b, off, e, Nat.lt_of_lt_of_le hl hb.size, fun j hj => ⟨keep1 hb (hc j hj).1, keep1 hb (hc j hj).2⟩⟩⟩
theorem AllW.get {ps : List (Int × Int)} (h : AllW ps) {k : Nat} (hk : k < ps.length) : IsW (ps.getD k (0, 0)).1 (ps.getD k (0, 0)).2 (vW (ps.getD k (0, 0))) := by
  have e : ps.getD k (0, 0) = ps[k] := by simp [List.getD, hk]
  rw [e]; exact h _ (List.getElem_mem hk)
theorem sumZ_take (ps : List (Int × Int)) {k : Nat} (hk : k < ps.length) : sumZ (ps.take (k + 1)) = sumZ (ps.take k) + vW (ps.getD k (0, 0)) := by
  have e : ps.getD k (0, 0) = ps[k] := by simp [List.getD, hk]
  rw [List.take_succ_eq_append_getElem hk, e]; unfold sumZ; rw [List.map_append, List.sum_append]; simp only [List.map_cons, List.map_nil, List.sum_cons, List.sum_nil]; omega
set_option maxRecDepth 100000 in
theorem open_wides {H : Type} {enc : TypeId × Value → H} {W : World} {base b0 : Nat} {spare : Nat → Bool} {held : Bool} {r : Reach} {v : Value} {d : DataW H} {p : List MemPlace}
    (hv : Value.okWide Tryz.prog W r b0 51 v) (h : DataW.Trod enc Tryz.prog W base spare held 51 v d p) :
    ∃ (a : Option Addr) (n c : Nat) (ps : List (Int × Int)), v = .slice a n c ∧ RdW W a n ps ∧ AllW ps ∧ n ≤ 9223372036854775807 := by
  obtain ⟨a, n, c, rfl⟩ := okWide_slice Tryz.underlying51 hv
  obtain ⟨fuel, hf⟩ := h
  rcases open_slice_pairs Tryz.underlying51 Tryz.underlying34 (by kernel_rfl) rfl rfl (by kernel_rfl) (by kernel_rfl) hf with ⟨hcs, _⟩ | ⟨x, l, cp, m, nn, V0, V1, D0, D1, P0, P1, hcs, _, hl, hm, hmm, _, hx⟩
  · simp [Value.cells] at hcs
    obtain ⟨rfl, rfl, rfl⟩ := hcs
    exact ⟨_, _, _, [], rfl, ⟨rfl, fun i hi => absurd hi (by omega)⟩, (by intro p hp; cases hp), by omega⟩
  · simp [Value.cells] at hcs
    obtain ⟨rfl, rfl, rfl⟩ := hcs
    have hlm : n ≤ m := by rw [hmm]; split <;> omega
    have each : ∀ i, i < n → ∃ q : Int × Int, W.cell? (x.add (i * 2)) = some (.int .i64 q.1) ∧ W.cell? (x.add (i * 2 + 1)) = some (.int .u64 q.2) ∧ IsW q.1 q.2 (vW q) := by
      intro i hi
      obtain ⟨h0, h1, h2, h3⟩ := hx i (by omega)
      obtain ⟨u, e0, _, wu⟩ := DataW.trod_int Tryz.underlying2 h2
      obtain ⟨t, e1, _, wt⟩ := DataW.trod_int Tryz.underlying22 h3
      simp at e0 e1
      rw [e0] at h0
      rw [e1] at h1
      obtain ⟨x1, x2⟩ := bounds_i64 wu
      obtain ⟨x3, x4⟩ := bounds_u64 wt
      exact ⟨(u, t), h0, h1, x1, x2, x3, x4, rfl⟩
    have hget : ∀ (f : Nat → Int × Int) (j : Nat), j < n → ((List.range n).map f).getD j (0, 0) = f j := fun f j hj => by simp [List.getD, hj]
    refine ⟨_, _, _, (List.range n).map (fun i => if hi : i < n then (each i hi).choose else (0, 0)), rfl, ⟨by simp, fun i hi => ?_⟩, ?_, by unfold maxLen at hm; omega⟩
    · have h0 : W.cell? (x.add 0) = some (V0 0) := (hx 0 (by omega)).1
      have ex := spot_none h0
      refine ⟨x.block, x.off, by rw [← ex], World.block_lt_of_cell? W _ (by rw [show x.add 0 = x by simp [Addr.add]] at h0; exact h0), fun j hj => ?_⟩
      rw [hget _ j hj, dif_pos hj]
      have hj' := (each j hj).choose_spec
      generalize (each j hj).choose = q at *
      rw [ex, add_at, add_at] at hj'
      exact ⟨hj'.1, by have := hj'.2.1; rw [← Nat.add_assoc] at this; exact this⟩
    · intro q hq
      rw [List.mem_map] at hq
      obtain ⟨j, hj, rfl⟩ := hq
      have hj' : j < n := List.mem_range.1 hj
      rw [dif_pos hj']
      exact (each j hj').choose_spec.2.2
end

end Go.Proofs.YtklaghleghncoaaGreatDoor
