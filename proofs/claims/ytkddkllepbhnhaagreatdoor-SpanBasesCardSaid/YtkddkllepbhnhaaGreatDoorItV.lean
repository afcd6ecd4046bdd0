/- Slices of items of one's own: append, in order; of many at once. -/
import Derived.Test.YtkddkllepbhnhaaGreatDoorSpanBasesZ30
import Derived.Test.YtkddkllepbhnhaaGreatDoorSpanBasesZ29
import Derived.Laws.AppendOwnNone
namespace Go.Proofs.YtkddkllepbhnhaaGreatDoor
open Go.RowKit
theorem infoItem6 : ∃ i0, Tryz.prog.info? 86 = some i0 ∧ i0.zero = some (.agg #[.int .u64 0, .int .u32 0, .int .u32 0, .int .i64 0, .int .u64 0, .int .u32 0, .int .u32 0]) ∧ i0.size = 7 ∧ i0.bytes = 40 := by
  have hq : (Tryz.prog.info? 86).map (fun i => (i.zero, i.size, i.bytes)) = some (some (.agg #[.int .u64 0, .int .u32 0, .int .u32 0, .int .i64 0, .int .u64 0, .int .u32 0, .int .u32 0]), 7, 40) := by kernel_rfl
  cases hi : Tryz.prog.info? 86 with
  | none => rw [hi] at hq; cases hq
  | some i =>
    rw [hi] at hq
    simp only [Option.map_some, Option.some.injEq, Prod.mk.injEq] at hq
    exact ⟨i, rfl, hq.1, hq.2.1, hq.2.2⟩
theorem It.cells_one (x : It) : ∀ u ∈ x.cells, u.oneCell' = true := by
  intro u hu; simp [It.cells] at hu; rcases hu with rfl | rfl | rfl | rfl | rfl | rfl | rfl <;> rfl
theorem flat_one (l : List It) : ∀ u ∈ l.flatMap It.cells, u.oneCell' = true := by
  intro u hu
  obtain ⟨x, _, hx⟩ := List.mem_flatMap.1 hu
  exact It.cells_one x u hx
theorem Tho.rangeI {w : World} {b o : Nat} {x : It} (h : Tho w b o x) {i : Nat} (hi : i < 7) : w.cell? ⟨b, o + i, none⟩ = x.cells[i]? := by
  obtain ⟨h0, h1, h2, h3, h4, h5, h6⟩ := h
  match i, hi with
  | 0, _ => exact h0
  | 1, _ => exact h1
  | 2, _ => exact h2
  | 3, _ => exact h3
  | 4, _ => exact h4
  | 5, _ => exact h5
  | 6, _ => exact h6
/-- append of items that are read, one at least. -/
theorem wpList_append_its {ops : Array Oper} {o : Oper} {a : Act} {rest : List Oper} {Q : Exit → Act → World → Prop} (w : World) (hgd : o.guard = none) (s x : Operand)
    (ho : o.op = .call { callee := .builtin .append, args := #[s, x], argTypes := #[72, 72] })
    (base : Nat) (A : Option Addr) (n c : Nat) (l : List It) (hs : a.eval s = .slice A n c) (hown : OwnI w base A n c l) (B : Option Addr) (m d : Nat) (k : List It) (hx : a.eval x = .slice B m d)
    (hr : RdI w B m k) (hm : 0 < m) (hn : n + m ≤ 1000000) (hbase : base ≤ w.heap.size)
    (h : ∀ A' c' w', OwnI w' base A' (n + m) c' (l ++ k) → Chg (rowOf A) w w' → (∀ q ∈ rowOf A', q ∈ rowOf A ∨ w.heap.size ≤ q) → wpList Tryz.prog ops Q rest (a.put o.dst (.slice A' (n + m) c')) w') : wpList Tryz.prog ops Q (o :: rest) a w := by
  obtain ⟨i0, hi, hz0, hz1, hz2⟩ := infoItem6
  obtain ⟨b, off, rfl, _, hc⟩ := hr.2 0 hm
  have hlen := hr.1
  refine wpList_append_lies w hgd s x 72 ho base 86 i0 (.agg #[.int .u64 0, .int .u32 0, .int .u32 0, .int .i64 0, .int .u64 0, .int .u32 0, .int .u32 0]) 7 40 Tryz.underlying72 hi hz0 hz1 hz2 rfl (by decide) (.slice A n c) n (l.flatMap It.cells) hs hown
    ⟨b, off, none⟩ m d (k.flatMap It.cells) hx (by rw [flat_length, hlen]) ?_ (flat_one k) hm (by unfold maxLen; omega) (by omega) hbase _ rfl ?_
  · intro j u hj
    have hadd : (⟨b, off, none⟩ : Addr).add j = ⟨b, off + j, none⟩ := by unfold Addr.add; split <;> simp_all
    rw [hadd]
    have hjl : j < k.length * 7 := by
      rcases Nat.lt_or_ge j (k.flatMap It.cells).length with h1 | h1
      · rwa [flat_length] at h1
      · rw [List.getElem?_eq_none h1] at hj; cases hj
    have e : j = j / 7 * 7 + j % 7 := by omega
    rw [e, flat_get k (j / 7) (j % 7) (by omega) (by omega)] at hj
    rw [e, ← Nat.add_assoc, (hc (j / 7) (by omega)).rangeI (by omega)]
    exact hj
  · intro g cap w' h2 h3 h4 _
    refine h _ _ w' (by unfold OwnI; simpa using h2) (Chg.grown h3) (fun q hq => ?_)
    simp [rowOf] at hq
    subst hq
    rcases h4 with h4 | h4
    · exact Or.inl (row_own h4)
    · right; omega
end Go.Proofs.YtkddkllepbhnhaaGreatDoor
