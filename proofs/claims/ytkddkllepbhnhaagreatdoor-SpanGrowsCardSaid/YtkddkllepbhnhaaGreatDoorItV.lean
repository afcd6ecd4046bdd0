/- Slices of items of one's own: append, in order; of many at once. -/
import Derived.Test.YtkddkllepbhnhaaGreatDoorSpanGrowsZ30
import Derived.Test.YtkddkllepbhnhaaGreatDoorSpanGrowsZ29
import Derived.Laws.AppendOwnNone
namespace Go.Proofs.YtkddkllepbhnhaaGreatDoor
open Go.RowKit
theorem infoItem6 : ∃ i0, Tryz.prog.info? 86 = some i0 ∧ i0.zero = some (.agg #[.int .u64 0, .int .u32 0, .int .u32 0, .int .i64 0, .int .u64 0, .int .u32 0, .int .u32 0]) ∧ i0.size = 7 ∧ i0.bytes = 40 := by
  have hq : (Tryz.prog.info? 86).map (fun i => (i.zero, i.size, i.bytes)) = some (some (.agg #[.int .u64 0, .int .u32 0, .int .u32 0, .int .i64 0, .int .u64 0, .int .u32 0, .int .u32 0]), 7, 40) := by kernel_rfl
  cases hi : Tryz.prog.info? 86 with
  | none => rw [hi] at hq; cases hq
  | some i =>
    rw [hi] at hq
    simp only [Option.map_some, Option.some.injEq, Prod.mk.injEq] at hq
    exact ⟨i, rfl, hq.1, hq.2.1, hq.2.2⟩
theorem It.cells_one (x : It) : ∀ u ∈ x.cells, u.oneCell' = true := by
  intro u hu; simp [It.cells] at hu; rcases hu with rfl | rfl | rfl | rfl | rfl | rfl | rfl <;> rfl
theorem flat_one (l : List It) : ∀ u ∈ l.flatMap It.cells, u.oneCell' = true := by
  intro u hu
  obtain ⟨x, _, hx⟩ := List.mem_flatMap.1 hu
  exact It.cells_one x u hx
theorem Tho.rangeI {w : World} {b o : Nat} {x : It} (h : Tho w b o x) {i : Nat} (hi : i < 7) : w.cell? ⟨b, o + i, none⟩ = x.cells[i]? := by
  obtain ⟨h0, h1, h2, h3, h4, h5, h6⟩ := h
  match i, hi with
  | 0, _ => exact h0
  | 1, _ => exact h1
  | 2, _ => exact h2
  | 3, _ => exact h3
  | 4, _ => exact h4
  | 5, _ => exact h5
  | 6, _ => exact h6
end Go.Proofs.YtkddkllepbhnhaaGreatDoor
