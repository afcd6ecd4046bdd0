/- Slices of items that a call itself has made, and append. -/
import Derived.Test.YtmklbmiddeonkaaDtreeShiftsZ34
import Derived.Test.YtmklbmiddeonkaaDtreeShiftsZ42
import Derived.Deep.AppendLies
namespace Go.Proofs.Ytmklbmiddeonkaa
open Go.RowKit

/-- A slice of items of one's own. -/
def OwnI (w : World) (base : Nat) (A : Option Addr) (n c : Nat) (l : List It) : Prop := w.ownsRow base 28 7 (.slice A n c) n (l.flatMap It.cells)
theorem It.cells_length (a : It) : a.cells.length = 7 := rfl
theorem flat_length (l : List It) : (l.flatMap It.cells).length = l.length * 7 := by
  induction l with
  | nil => rfl
  | cons a l ih => rw [List.flatMap_cons, List.length_append, ih, It.cells_length, List.length_cons]; omega
theorem flat_get : ∀ (l : List It) (j i : Nat), j < l.length → i < 7 → (l.flatMap It.cells)[j * 7 + i]? = (l.getD j It.zero).cells[i]?
  | [], j, i, h, _ => absurd h (by simp)
  | a :: l, 0, i, _, hi => by
    rw [List.flatMap_cons, List.getElem?_append_left (by rw [It.cells_length]; omega)]
    simp
  | a :: l, j + 1, i, h, hi => by
    rw [List.flatMap_cons, List.getElem?_append_right (by rw [It.cells_length]; omega), It.cells_length, show (j + 1) * 7 + i - 7 = j * 7 + i by omega, flat_get l j i (by simpa using h) hi]
    simp
theorem OwnI.nil (w : World) (base : Nat) : OwnI w base none 0 0 [] := World.ownsRow_nil _ _ _ _
theorem OwnI.len {w : World} {base : Nat} {A : Option Addr} {n c : Nat} {l : List It} (h : OwnI w base A n c l) : l.length = n := by
  have := h.1
  rw [flat_length] at this
  omega
theorem OwnI.cap {w : World} {base : Nat} {A : Option Addr} {n c : Nat} {l : List It} (h : OwnI w base A n c l) : n ≤ c := by
  rcases h.2 with ⟨hv, h0⟩ | ⟨g, cap, cur, hv, _, _, h1, _⟩
  · omega
  · injection hv with _ _ e; omega
theorem OwnI.rowGe {w : World} {base : Nat} {A : Option Addr} {n c : Nat} {l : List It} (h : OwnI w base A n c l) : ∀ k ∈ rowOf A, base ≤ k ∧ k < w.heap.size := by
  intro k hk
  rcases h.2 with ⟨hv, _⟩ | ⟨g, cap, cur, hv, hb, hg, _⟩
  · injection hv with e1; subst e1; simp [rowOf] at hk
  · injection hv with e1; subst e1
    have hkg : k = g := by simpa [rowOf, eq_comm] using hk
    rw [hkg]
    refine ⟨hb, ?_⟩
    rcases Nat.lt_or_ge g w.heap.size with h1 | h1
    · exact h1
    · rw [Array.getElem?_eq_none h1] at hg; cases hg
theorem OwnI.below {w w' : World} {base : Nat} {A : Option Addr} {n c : Nat} {l : List It} (h : OwnI w base A n c l) (hb : Below w.heap.size w w') : OwnI w' base A n c l := by
  obtain ⟨h1, h2⟩ := h
  refine ⟨h1, ?_⟩
  rcases h2 with h2 | ⟨g, cap, cur, hv, hg, hh, r⟩
  · exact .inl h2
  · refine .inr ⟨g, cap, cur, hv, hg, ?_, r⟩
    rw [hb.block g ?_]
    · exact hh
    · rcases Nat.lt_or_ge g w.heap.size with h1 | h1
      · exact h1
      · rw [Array.getElem?_eq_none h1] at hh; cases hh
theorem OwnI.alloc {w : World} {base : Nat} {A : Option Addr} {n c : Nat} {l : List It} (h : OwnI w base A n c l) (o : Obj) : OwnI (w.alloc o) base A n c l := h.below ((Below.refl _ _).alloc (Nat.le_refl _) o)
theorem OwnI.rdi {w : World} {base : Nat} {A : Option Addr} {n c : Nat} {l : List It} (h : OwnI w base A n c l) : RdI w A n l := by
  refine ⟨h.len, fun i hn => ?_⟩
  obtain ⟨g, cap, hv, _, hlt⟩ := h.form (by omega)
  have hA : A = some ⟨g, 0, none⟩ := by injection hv
  subst hA
  refine ⟨g, 0, rfl, hlt, fun j hj => ?_⟩
  have hc : ∀ i, i < 7 → w.cell? ⟨g, 0 + j * 7 + i, none⟩ = (l.getD j It.zero).cells[i]? := fun i hi => by
    rw [← flat_get l j i (by rw [h.len]; exact hj) hi, Nat.zero_add]
    injection hv with _ _ e
    subst e
    exact h.cellAt _ (by omega)
  exact ⟨hc 0 (by omega), hc 1 (by omega), hc 2 (by omega), hc 3 (by omega), hc 4 (by omega), hc 5 (by omega), hc 6 (by omega)⟩
/-- append of one item, in a region that draws. -/
theorem step_append_it {ops : Array Oper} {o : Oper} {a : Act} {K : Act → World → Prop} {Q : Exit → Act → World → Prop} {E : Prop} (w : World) (hgd : o.guard = none) (s x : Operand)
    (ho : o.op = .call { callee := .builtin .append, args := #[s, x], argTypes := #[41, 41] })
    (base : Nat) (A : Option Addr) (n c : Nat) (l : List It) (hs : a.eval s = .slice A n c) (hown : OwnI w base A n c l) (b : Nat) (d : It) (hx : a.eval x = .slice (some ⟨b, 0, none⟩) 1 1)
    (hcell : Th w b d) (hn : n ≤ 1000000) (hbase : base ≤ w.heap.size)
    (h : ∀ A' c' w', OwnI w' base A' (n + 1) c' (l ++ [d]) → Chg (rowOf A) w w' → (∀ k ∈ rowOf A', k ∈ rowOf A ∨ w.heap.size ≤ k) → K (a.put o.dst (.slice A' (n + 1) c')) w') :
    if Region.wanted o (yielded ops a.tmps) = true then Oper.wp Try.prog o a w K Q else E := by
  obtain ⟨i0, hi, hz0, hz1, hz2⟩ : ∃ i0, Try.prog.info? 28 = some i0 ∧ i0.zero = some (.agg #[.int .u64 0, .int .u32 0, .int .u32 0, .int .i64 0, .int .u64 0, .int .u32 0, .int .u32 0]) ∧ i0.size = 7 ∧ i0.bytes = 40 := by
    have hq : (Try.prog.info? 28).map (fun i => (i.zero, i.size, i.bytes)) = some (some (.agg #[.int .u64 0, .int .u32 0, .int .u32 0, .int .i64 0, .int .u64 0, .int .u32 0, .int .u32 0]), 7, 40) := by kernel_rfl
    cases hi : Try.prog.info? 28 with
    | none => rw [hi] at hq; cases hq
    | some i =>
      rw [hi] at hq
      simp only [Option.map_some, Option.some.injEq, Prod.mk.injEq] at hq
      exact ⟨i, rfl, hq.1, hq.2.1, hq.2.2⟩
  obtain ⟨c0, c1, c2, c3, c4, c5, c6⟩ := hcell
  refine step_append_lies w hgd s x 41 ho base 28 i0 (.agg #[.int .u64 0, .int .u32 0, .int .u32 0, .int .i64 0, .int .u64 0, .int .u32 0, .int .u32 0]) 7 40 Try.underlying41 hi hz0 hz1 hz2 rfl (by decide) (.slice A n c) n (l.flatMap It.cells) hs hown
    ⟨b, 0, none⟩ 1 1 d.cells hx rfl ?_ ?_ (by decide) (by unfold maxLen; omega) (by omega) hbase _ rfl ?_
  · intro j u hj
    have hadd : (⟨b, 0, none⟩ : Addr).add j = ⟨b, j, none⟩ := by unfold Addr.add; split <;> simp_all
    rw [hadd]
    match j, hj with
    | 0, hj | 1, hj | 2, hj | 3, hj | 4, hj | 5, hj | 6, hj => simp [It.cells] at hj; subst hj; first | exact c0 | exact c1 | exact c2 | exact c3 | exact c4 | exact c5 | exact c6
    | n + 7, hj => simp [It.cells] at hj
  · intro u hu; simp [It.cells] at hu; rcases hu with rfl | rfl | rfl | rfl | rfl | rfl | rfl <;> rfl
  · intro g cap w' h2 h3 h4 _
    refine h _ _ w' (by unfold OwnI; simpa using h2) (Chg.grown h3) (fun k hk => ?_)
    simp [rowOf] at hk
    subst hk
    rcases h4 with h4 | h4
    · exact Or.inl (row_own h4)
    · right; omega

end Go.Proofs.Ytmklbmiddeonkaa
