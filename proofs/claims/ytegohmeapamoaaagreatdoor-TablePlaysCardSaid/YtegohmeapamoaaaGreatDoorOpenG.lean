/- Slices of structs of any kind: how they are opened, for the laws' frames. -/
import Derived.Test.YtegohmeapamoaaaGreatDoorTablePlaysZ30
import Derived.Test.YtegohmeapamoaaaGreatDoorGr
import Derived.Deep.SlicePairs
namespace Go.Proofs.YtegohmeapamoaaaGreatDoor
open Go.ChangeShapes Go.WideShapes Go.ChangeAt Go.RowKit Go.Joins Go.Deep
set_option maxRecDepth 100000 in
theorem open_rows {H : Type} {α : Type} {enc : α → List Value} {k : Nat} {z : α} {In : α → Prop} {TS T : TypeId} (hTS : Tryz.prog.underlying TS = some (.slice T)) (hk : Tryz.prog.cellsOf T = k) (h0 : 0 < k) (hlen : ∀ x, (enc x).length = k)
    {en : TypeId × Value → H} {W : World} {base b0 : Nat} {spare : Nat → Bool} {held : Bool} {r : Reach} {v : Value} {d : DataW H} {p : List MemPlace}
    (hcell : ∀ (fuel : Nat) (cs : List Value) (x : DataW H × List MemPlace), cs.length = k → DataW.trod en Tryz.prog W base spare held fuel T cs = some x → ∃ a : α, cs = enc a ∧ In a)
    (hv : Value.okWide Tryz.prog W r b0 TS v) (h : DataW.Trod en Tryz.prog W base spare held TS v d p) :
    ∃ (a : Option Addr) (n c : Nat) (l : List α), v = .slice a n c ∧ (RdG enc k z W a n l ∧ ∀ x ∈ l, In x) ∧ n ≤ 9223372036854775807 := by
  obtain ⟨a, n, c, rfl⟩ := okWide_slice hTS hv
  obtain ⟨fuel, hf⟩ := h
  rcases open_slice hTS hf with ⟨hcs, _⟩ | ⟨x, l, cp, m, nn, D, Plc, hcs, _, hl, hm, hmm, _, hx⟩
  · simp [Value.cells] at hcs
    obtain ⟨rfl, rfl, rfl⟩ := hcs
    exact ⟨_, _, _, [], rfl, ⟨⟨rfl, fun hi => absurd hi (by omega)⟩, (by intro p hp; cases hp)⟩, by omega⟩
  · simp [Value.cells] at hcs
    obtain ⟨rfl, rfl, rfl⟩ := hcs
    have hlm : n ≤ m := by rw [hmm]; split <;> omega
    have each : ∀ i, i < n → ∃ q : α, (∀ j v, (enc q)[j]? = some v → W.cell? (x.add (i * k + j)) = some v) ∧ In q := by
      intro i hi
      obtain ⟨cs', h1, h2⟩ := hx i (by omega)
      rw [hk] at h1
      obtain ⟨_, hlen', hcell'⟩ := World.cells?_some h1
      obtain ⟨q, e, hq⟩ := hcell _ _ _ hlen' h2
      refine ⟨q, fun j v hj => ?_, hq⟩
      have hj' : j < k := by rw [← hlen q]; exact (List.getElem?_eq_some_iff.1 hj).1
      have := hcell' j (by omega)
      rw [add_add] at this
      rw [this, e]
      exact hj
    have hget : ∀ (f : Nat → α) (j : Nat), j < n → ((List.range n).map f).getD j z = f j := fun f j hj => by simp [List.getD, hj]
    refine ⟨_, _, _, (List.range n).map (fun i => if hi : i < n then (each i hi).choose else z), rfl, ⟨⟨by simp, fun hi => ?_⟩, ?_⟩, by unfold maxLen at hm; omega⟩
    · obtain ⟨u, hu⟩ : ∃ u, W.cell? (x.add 0) = some u := by
        obtain ⟨q, hq, _⟩ := each 0 hi
        have h1 : 0 < (enc q).length := by rw [hlen]; exact h0
        exact ⟨_, by simpa using hq 0 _ (List.getElem?_eq_getElem h1)⟩
      have ex := spot_none hu
      refine ⟨x.block, x.off, by rw [← ex], World.block_lt_of_cell? W _ (by rw [show x.add 0 = x by simp [Addr.add]] at hu; exact hu), fun j hj => ?_⟩
      rw [hget _ j hj, dif_pos hj]
      have hj' := (each j hj).choose_spec.1
      generalize (each j hj).choose = q at *
      rw [ex] at hj'
      intro i v hv'
      have := hj' i v hv'
      simpa only [add_at, ← Nat.add_assoc] using this
    · intro q hq
      rw [List.mem_map] at hq
      obtain ⟨j, hj, rfl⟩ := hq
      have hj' : j < n := List.mem_range.1 hj
      rw [dif_pos hj']
      exact (each j hj').choose_spec.2
end Go.Proofs.YtegohmeapamoaaaGreatDoor
