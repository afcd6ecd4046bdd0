/- Slices of acts, and of whole numbers: how they are opened, for the laws' frames. -/
import Derived.Test.YtmklbmiddeonkaaOpenN
import Derived.Test.YtmklbmiddeonkaaCs
import Derived.Deep.SlicePairs
namespace Go.Proofs.Ytmklbmiddeonkaa
open Go.ChangeShapes Go.WideShapes Go.ChangeAt Go.RowKit Go.Joins Go.Deep

/-- A slice of acts that a walk reads. -/
def RdA (w : World) (A : Option Addr) (n : Nat) (ps : List (Bool × Int)) : Prop :=
  ps.length = n ∧ ∀ i, i < n → ∃ b off, A = some ⟨b, off, none⟩ ∧ b < w.heap.size ∧ ∀ j, j < n → w.cell? ⟨b, off + j * 2, none⟩ = some (.bool (ps.getD j (false, 0)).1) ∧ w.cell? ⟨b, off + j * 2 + 1, none⟩ = some (.int .i64 (ps.getD j (false, 0)).2)
theorem RdA.below {w w' : World} {A : Option Addr} {n : Nat} {ps : List (Bool × Int)} (h : RdA w A n ps) (hb : Below w.heap.size w w') : RdA w' A n ps :=
  ⟨h.1, fun i hi => by
    obtain ⟨b, off, e, hl, hc⟩ := h.2 i hi
    exact ⟨b, off, e, Nat.lt_of_lt_of_le hl hb.size, fun j hj => ⟨keep1 hb (hc j hj).1, keep1 hb (hc j hj).2⟩⟩⟩

set_option maxRecDepth 100000 in
theorem open_acts {H : Type} {enc : TypeId × Value → H} {W : World} {base b0 : Nat} {spare : Nat → Bool} {held : Bool} {r : Reach} {v : Value} {d : DataW H} {p : List MemPlace}
    (hv : Value.okWide Try.prog W r b0 53 v) (h : DataW.Trod enc Try.prog W base spare held 53 v d p) :
    ∃ (a : Option Addr) (n c : Nat) (ps : List (Bool × Int)), v = .slice a n c ∧ RdA W a n ps ∧ n ≤ 9223372036854775807 := by
  obtain ⟨a, n, c, rfl⟩ := okWide_slice Try.underlying53 hv
  obtain ⟨fuel, hf⟩ := h
  rcases open_slice_pairs Try.underlying53 Try.underlying57 (by kernel_rfl) rfl rfl (by kernel_rfl) (by kernel_rfl) hf with ⟨hcs, _⟩ | ⟨x, l, cp, m, nn, V0, V1, D0, D1, P0, P1, hcs, _, hl, hm, hmm, _, hx⟩
  · simp [Value.cells] at hcs
    obtain ⟨rfl, rfl, rfl⟩ := hcs
    exact ⟨_, _, _, [], rfl, ⟨rfl, fun i hi => absurd hi (by omega)⟩, by omega⟩
  · simp [Value.cells] at hcs
    obtain ⟨rfl, rfl, rfl⟩ := hcs
    have hlm : n ≤ m := by rw [hmm]; split <;> omega
    have each : ∀ i, i < n → ∃ q : Bool × Int, W.cell? (x.add (i * 2)) = some (.bool q.1) ∧ W.cell? (x.add (i * 2 + 1)) = some (.int .i64 q.2) := by
      intro i hi
      obtain ⟨h0, h1, h2, h3⟩ := hx i (by omega)
      obtain ⟨u, e0, _⟩ := DataW.trod_bool Try.underlying4 h2
      obtain ⟨t, e1, _, wt⟩ := DataW.trod_int Try.underlying3 h3
      simp at e0 e1
      rw [e0] at h0
      rw [e1] at h1
      exact ⟨(u, t), h0, h1⟩
    have hget : ∀ (f : Nat → Bool × Int) (j : Nat), j < n → ((List.range n).map f).getD j (false, 0) = f j := fun f j hj => by simp [List.getD, hj]
    refine ⟨_, _, _, (List.range n).map (fun i => if hi : i < n then (each i hi).choose else (false, 0)), rfl, ⟨by simp, fun i hi => ?_⟩, by unfold maxLen at hm; omega⟩
    have h0 : W.cell? (x.add 0) = some (V0 0) := (hx 0 (by omega)).1
    have ex := spot_none h0
    refine ⟨x.block, x.off, by rw [← ex], World.block_lt_of_cell? W _ (by rw [show x.add 0 = x by simp [Addr.add]] at h0; exact h0), fun j hj => ?_⟩
    rw [hget _ j hj, dif_pos hj]
    have hj' := (each j hj).choose_spec
    generalize (each j hj).choose = q at *
    rw [ex, add_at, add_at] at hj'
    exact ⟨hj'.1, by have := hj'.2; rw [← Nat.add_assoc] at this; exact this⟩

end Go.Proofs.Ytmklbmiddeonkaa
