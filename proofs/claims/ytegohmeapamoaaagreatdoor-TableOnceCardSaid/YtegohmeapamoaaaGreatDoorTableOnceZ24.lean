/- Texts of TableOnce's proof, together. -/
import Derived.Test.YtegohmeapamoaaaGreatDoorRefB
import Derived.Test.YtegohmeapamoaaaGreatDoorRefC
import Derived.Deep.RegionHeld3
import Derived.Deep.RegionWith
import Derived.Laws.OwnMore
namespace Go.Proofs.YtegohmeapamoaaaGreatDoor
/- The contracts of the document's answer for layer 1, continued: sums, differences, which is larger, of digits. -/
section
open Go.RowKit
theorem Own.below {w w' : World} {base : Nat} {A : Option Addr} {n c : Nat} {zs : List Int} (h : Own w base A n c zs) (hb : Below w.heap.size w w') : Own w' base A n c zs := by
  obtain ⟨h1, h2⟩ := h
  refine ⟨h1, ?_⟩
  rcases h2 with h2 | ⟨g, cap, cur, hv, hg, hh, r⟩
  · exact .inl h2
  · refine .inr ⟨g, cap, cur, hv, hg, ?_, r⟩
    rw [hb.block g ?_]
    · exact hh
    · rcases Nat.lt_or_ge g w.heap.size with h1 | h1
      · exact h1
      · rw [Array.getElem?_eq_none h1] at hh; cases hh
theorem Own.drew {w : World} {base : Nat} {A : Option Addr} {n c : Nat} {zs : List Int} (h : Own w base A n c zs) : Own w.drew base A n c zs := h
end

/- The contracts of the document's answer for layer 1, continued: products. -/
section
open Go.RowKit
theorem Own.at {w : World} {base g N : Nat} {ws : List Int} (h : Own w base (some ⟨g, 0, none⟩) N N ws) {j : Nat} (hj : j < N) : w.cell? ⟨g, j, none⟩ = some (.int .i64 (dg ws j)) := by
  have h1 := World.ownsRow.cellAt h j (by omega)
  rw [h1, List.getElem?_map]
  have := h.len
  simp [dg, List.getD, show j < ws.length by omega]
theorem Own.hot {w : World} {base g N : Nat} {ws : List Int} (h : Own w base (some ⟨g, 0, none⟩) N N ws) (j : Nat) : w.frozen? ⟨g, j, none⟩ = false := World.ownsRow.frozenAt h j
theorem Own.put {w : World} {base g N : Nat} {ws : List Int} (h : Own w base (some ⟨g, 0, none⟩) N N ws) (j : Nat) (z : Int) : Own (w.setCell ⟨g, j, none⟩ (.int .i64 z)) base (some ⟨g, 0, none⟩) N N (ws.set j z) := by
  have h1 := (World.ownsRow.stored h j (.int .i64 z)).1
  unfold Own
  rw [List.map_set]
  exact h1
end

end Go.Proofs.YtegohmeapamoaaaGreatDoor
