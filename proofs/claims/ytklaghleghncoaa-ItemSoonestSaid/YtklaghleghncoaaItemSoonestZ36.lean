/- Texts of ItemSoonest's proof, together. -/
import Derived.Test.YtklaghleghncoaaItemSoonestZ14
import Derived.Test.YtklaghleghncoaaBig
import Derived.Test.YtklaghleghncoaaItemSoonestZ0
import Derived.Test.YtklaghleghncoaaItemSoonestZ10
import Derived.Test.YtklaghleghncoaaItemSoonestZ7
import Derived.Test.YtklaghleghncoaaItS
import Derived.Test.YtklaghleghncoaaItemSoonestZ19
import Derived.Test.YtklaghleghncoaaItemSoonestZ20
import Derived.Test.YtklaghleghncoaaRef4
import Derived.Test.YtklaghleghncoaaOpenN
import Derived.Test.YtklaghleghncoaaItemSoonestZ13
import Derived.Deep.SlicePairs
import Derived.Test.YtklaghleghncoaaOpenI
import Derived.Test.YtklaghleghncoaaItemSoonestZ22
namespace Go.Proofs.Ytklaghleghncoaa
/- Variables that hold Bigs, stored whole; the document's means. -/
section
open Go.RowKit
theorem Rd.setCells {A : Option Addr} {n : Nat} {zs : List Int} {g : Nat} : ∀ (vs : List Value) (o : Nat) {w : World}, (∀ b off, A = some ⟨b, off, none⟩ → 0 < n → b ≠ g) → Rd w A n zs → Rd (w.setCells g o vs) A n zs
  | [], _, _, _, h => h
  | v :: r, o, _, hne, h => Rd.setCells r (o + 1) hne (h.setCell hne o v)
theorem Var.cs {w : World} {g : Nat} {s : Bool} {A : Option Addr} {n c : Nat} (h : Var w g s A n c) : Cs w g [.bool s, .slice A n c] := fun i v hv => by
  rcases i with _ | _ | i
  · injection hv with hv; subst hv; exact ⟨h.1, h.2.2.1⟩
  · injection hv with hv; subst hv; exact ⟨h.2.1, h.2.2.2.1⟩
  · cases hv
theorem Var.finB {w W : World} {g : Nat} {s0 : Bool} {A0 : Option Addr} {n0 c0 : Nat} (hv : Var W g s0 A0 n0 c0) (hb : Below w.heap.size w W) (hg : w.heap.size ≤ g) {L : Nat} {s : Bool} {A : Option Addr} {n c : Nat} {z : Int} (h : IsB W L s A n c z) :
    IsB ((W.setCell ⟨g, 0, none⟩ (.bool s)).setCell ⟨g, 1, none⟩ (.slice A n c)) L s A n c z ∧ Below w.heap.size w ((W.setCell ⟨g, 0, none⟩ (.bool s)).setCell ⟨g, 1, none⟩ (.slice A n c)) :=
  ⟨h.storeV hv _ _ _ _, (hb.setCell hg _).setCell hg _⟩
theorem Var.fars {g : Nat} {s : Bool} {A : Option Addr} {n c : Nat} {b : Nat} (hb : b ≠ g) : ∀ (vs : List Value) (o : Nat) {w : World}, Var w g s A n c → Var (w.setCells b o vs) g s A n c
  | [], _, _, h => h
  | v :: r, o, _, h => Var.fars hb r (o + 1) (h.far1 hb o v)
end

/- A slice of items and its room: how it is opened, for the laws' frames. -/
section
open Go.ChangeShapes Go.WideShapes Go.ChangeAt Go.RowKit Go.Joins Go.Deep
set_option maxRecDepth 100000 in
theorem open_itemsC {H : Type} {enc : TypeId × Value → H} {W : World} {base b0 : Nat} {spare : Nat → Bool} {held : Bool} {r : Reach} {v : Value} {d : DataW H} {p : List MemPlace}
    (hv : Value.okWide Try.prog W r b0 23 v) (h : DataW.Trod enc Try.prog W base spare held 23 v d p) :
    ∃ (a : Option Addr) (n c : Nat) (ps : List It), v = .slice a n c ∧ (RdI W a n ps ∧ InI ps) ∧ n ≤ 9223372036854775807 ∧ n ≤ c := by
  obtain ⟨a, n, c, rfl⟩ := okWide_slice Try.underlying23 hv
  obtain ⟨fuel, hf⟩ := h
  rcases open_slice Try.underlying23 hf with ⟨hcs, _⟩ | ⟨x, l, cp, m, nn, D, Plc, hcs, _, hl, hm, hmm, _, hx⟩
  · simp [Value.cells] at hcs
    obtain ⟨rfl, rfl, rfl⟩ := hcs
    exact ⟨_, _, _, [], rfl, ⟨⟨rfl, fun i hi => absurd hi (by omega)⟩, (by intro p hp; cases hp)⟩, by omega, Nat.le_refl _⟩
  · simp [Value.cells] at hcs
    obtain ⟨rfl, rfl, rfl⟩ := hcs
    have hlm : n ≤ m := by rw [hmm]; split <;> omega
    have each : ∀ i, i < n → ∃ q : It, (W.cell? (x.add (i * 7)) = some (.int .u64 q.t) ∧ W.cell? (x.add (i * 7 + 1)) = some (.int .u32 q.r) ∧ W.cell? (x.add (i * 7 + 2)) = some (.int .u32 q.v) ∧ W.cell? (x.add (i * 7 + 3)) = some (.int .i64 q.i) ∧ W.cell? (x.add (i * 7 + 4)) = some (.int .u64 q.u) ∧ W.cell? (x.add (i * 7 + 5)) = some (.int .u32 q.s) ∧ W.cell? (x.add (i * 7 + 6)) = some (.int .u32 q.y)) ∧ q.In := by
      intro i hi
      obtain ⟨cs', h1, h2⟩ := hx i (by omega)
      rw [cellsItemI] at h1
      obtain ⟨_, hlen, hcell⟩ := World.cells?_some h1
      match cs', hlen with
      | [u0, u1, u2, u3, u4, u5, u6], _ =>
        obtain ⟨q, hq, hin⟩ := item_cells h2
        have e0 := hcell 0 (by omega)
        have e1 := hcell 1 (by omega)
        have e2 := hcell 2 (by omega)
        have e3 := hcell 3 (by omega)
        have e4 := hcell 4 (by omega)
        have e5 := hcell 5 (by omega)
        have e6 := hcell 6 (by omega)
        rw [add_add] at e0 e1 e2 e3 e4 e5 e6
        simp [It.cells] at hq
        obtain ⟨q0, q1, q2, q3, q4, q5, q6⟩ := hq
        subst q0 q1 q2 q3 q4 q5 q6
        simp at e0 e1 e2 e3 e4 e5 e6
        exact ⟨q, ⟨e0, e1, e2, e3, e4, e5, e6⟩, hin⟩
    have hget : ∀ (f : Nat → It) (j : Nat), j < n → ((List.range n).map f).getD j It.zero = f j := fun f j hj => by simp [List.getD, hj]
    refine ⟨_, _, _, (List.range n).map (fun i => if hi : i < n then (each i hi).choose else It.zero), rfl, ⟨⟨by simp, fun i hi => ?_⟩, ?_⟩, by unfold maxLen at hm; omega, hl⟩
    · obtain ⟨u, h0⟩ : ∃ u, W.cell? (x.add 0) = some u := by
        obtain ⟨q, hq, _⟩ := each 0 (by omega)
        exact ⟨_, hq.1⟩
      have ex := spot_none h0
      refine ⟨x.block, x.off, by rw [← ex], World.block_lt_of_cell? W _ (by rw [show x.add 0 = x by simp [Addr.add]] at h0; exact h0), fun j hj => ?_⟩
      rw [hget _ j hj, dif_pos hj]
      have hj' := (each j hj).choose_spec.1
      generalize (each j hj).choose = q at *
      rw [ex] at hj'
      simp only [add_at, ← Nat.add_assoc] at hj'
      exact hj'
    · intro q hq
      rw [List.mem_map] at hq
      obtain ⟨j, hj, rfl⟩ := hq
      have hj' : j < n := List.mem_range.1 hj
      rw [dif_pos hj']
      exact (each j hj').choose_spec.2
end

end Go.Proofs.Ytklaghleghncoaa
