/- A slice of positions: how it is opened, for the laws' frames. -/
import Derived.Test.YtklaghleghncoaaGreatDoorOpenN
import Derived.Test.YtklaghleghncoaaGreatDoorMeanSumsZ16
import Derived.Deep.SlicePairs
namespace Go.Proofs.YtklaghleghncoaaGreatDoor
open Go.ChangeShapes Go.WideShapes Go.ChangeAt Go.RowKit Go.Joins Go.Deep
def InP (ps : List (Int × Int × Int)) : Prop := ∀ p ∈ ps, (0 ≤ p.1 ∧ p.1 ≤ 18446744073709551615) ∧ (0 ≤ p.2.1 ∧ p.2.1 ≤ 4294967295) ∧ (0 ≤ p.2.2 ∧ p.2.2 ≤ 4294967295)
theorem InP.get {ps : List (Int × Int × Int)} (h : InP ps) {k : Nat} (hk : k < ps.length) : 0 ≤ (ps.getD k (0, 0, 0)).1 ∧ (ps.getD k (0, 0, 0)).1 ≤ 18446744073709551615 := by
  have e : ps.getD k (0, 0, 0) = ps[k] := by simp [List.getD, hk]
  rw [e]; exact (h _ (List.getElem_mem hk)).1
theorem cellsTime : Tryz.prog.cellsOf 26 = 1 := by kernel_rfl
theorem cellsU32 : Tryz.prog.cellsOf 27 = 1 := by kernel_rfl
theorem cellsPos : Tryz.prog.cellsOf 29 = 3 := by kernel_rfl
set_option maxRecDepth 100000 in
theorem open_poss {H : Type} {enc : TypeId × Value → H} {W : World} {base b0 : Nat} {spare : Nat → Bool} {held : Bool} {r : Reach} {v : Value} {d : DataW H} {p : List MemPlace}
    (hv : Value.okWide Tryz.prog W r b0 23 v) (h : DataW.Trod enc Tryz.prog W base spare held 23 v d p) :
    ∃ (a : Option Addr) (n c : Nat) (ps : List (Int × Int × Int)), v = .slice a n c ∧ RdP W a n ps ∧ InP ps ∧ n ≤ 9223372036854775807 := by
  obtain ⟨a, n, c, rfl⟩ := okWide_slice Tryz.underlying23 hv
  obtain ⟨fuel, hf⟩ := h
  rcases open_slice Tryz.underlying23 hf with ⟨hcs, _⟩ | ⟨x, l, cp, m, nn, D, Pl, hcs, _, hl, hm, hmm, _, hx⟩
  · simp [Value.cells] at hcs
    obtain ⟨rfl, rfl, rfl⟩ := hcs
    exact ⟨_, _, _, [], rfl, ⟨rfl, fun i hi => absurd hi (by omega)⟩, (by intro p hp; cases hp), by omega⟩
  · simp [Value.cells] at hcs
    obtain ⟨rfl, rfl, rfl⟩ := hcs
    have hlm : n ≤ m := by rw [hmm]; split <;> omega
    have each : ∀ i, i < n → ∃ q : Int × Int × Int, W.cell? (x.add (i * 3)) = some (.int .u64 q.1) ∧ W.cell? (x.add (i * 3 + 1)) = some (.int .u32 q.2.1) ∧ W.cell? (x.add (i * 3 + 2)) = some (.int .u32 q.2.2) ∧
        (0 ≤ q.1 ∧ q.1 ≤ 18446744073709551615) ∧ (0 ≤ q.2.1 ∧ q.2.1 ≤ 4294967295) ∧ (0 ≤ q.2.2 ∧ q.2.2 ≤ 4294967295) := by
      intro i hi
      obtain ⟨cs', h1, h2⟩ := hx i (by omega)
      rw [cellsPos] at h1
      obtain ⟨_, hlen, hcell⟩ := World.cells?_some h1
      obtain ⟨xs, k, hk, hxy, _, hxl, hf⟩ := DataW.trod_struct Tryz.underlying29 h2
      match xs, hxl, cs', hlen with
      | [y0, y1, y2], _, [u0, u1, u2], _ =>
        have g0 := hf 0 _ rfl
        have g1 := hf 1 _ rfl
        have g2 := hf 2 _ rfl
        simp [cellsTime, cellsU32] at g0 g1 g2
        have e0 := hcell 0 (by omega)
        have e1 := hcell 1 (by omega)
        have e2 := hcell 2 (by omega)
        rw [add_add] at e0 e1 e2
        simp at e0 e1 e2
        obtain ⟨a0, q0, _, w0⟩ := DataW.trod_int Tryz.underlying26 g0
        obtain ⟨a1, q1, _, w1⟩ := DataW.trod_int Tryz.underlying27 g1
        obtain ⟨a2, q2, _, w2⟩ := DataW.trod_int Tryz.underlying27 g2
        simp at q0 q1 q2
        subst q0 q1 q2
        exact ⟨(a0, a1, a2), e0, e1, e2, bounds_u64 w0, bounds_u32 w1, bounds_u32 w2⟩
    have hget : ∀ (f : Nat → Int × Int × Int) (j : Nat), j < n → ((List.range n).map f).getD j (0, 0, 0) = f j := fun f j hj => by simp [List.getD, hj]
    refine ⟨_, _, _, (List.range n).map (fun i => if hi : i < n then (each i hi).choose else (0, 0, 0)), rfl, ⟨by simp, fun i hi => ?_⟩, ?_, by unfold maxLen at hm; omega⟩
    · obtain ⟨u, h0⟩ : ∃ u, W.cell? (x.add 0) = some u := by
        obtain ⟨q, hq, _⟩ := each 0 (by omega)
        exact ⟨_, hq⟩
      have ex := spot_none h0
      refine ⟨x.block, x.off, by rw [← ex], World.block_lt_of_cell? W _ (by rw [show x.add 0 = x by simp [Addr.add]] at h0; exact h0), fun j hj => ?_⟩
      rw [hget _ j hj, dif_pos hj]
      have hj' := (each j hj).choose_spec
      generalize (each j hj).choose = q at *
      rw [ex, add_at, add_at, add_at] at hj'
      exact ⟨hj'.1, by have := hj'.2.1; rw [← Nat.add_assoc] at this; exact this, by have := hj'.2.2.1; rw [← Nat.add_assoc] at this; exact this⟩
    · intro q hq
      rw [List.mem_map] at hq
      obtain ⟨j, hj, rfl⟩ := hq
      have hj' : j < n := List.mem_range.1 hj
      rw [dif_pos hj']
      exact (each j hj').choose_spec.2.2.2
end Go.Proofs.YtklaghleghncoaaGreatDoor
