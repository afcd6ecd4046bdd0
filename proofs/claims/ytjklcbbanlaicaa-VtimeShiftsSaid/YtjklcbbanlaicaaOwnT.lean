/- A slice of times that a call itself has made, and append onto it. -/
import Derived.Test.YtjklcbbanlaicaaRefC
import Derived.Test.YtjklcbbanlaicaaRdu
namespace Go.Proofs.Ytjklcbbanlaicaa
open Go.RowKit

theorem infoTime : (Try.prog.info? 54).map (fun i => (i.zero, i.size, i.bytes)) = some (some (.int .u64 0), 1, 8) := by kernel_rfl
def OwnT (w : World) (base : Nat) (A : Option Addr) (n c : Nat) (zs : List Int) : Prop := w.ownsRow base 54 1 (.slice A n c) n (zs.map (Value.int .u64))
theorem OwnT.nil (w : World) (base : Nat) : OwnT w base none 0 0 [] := World.ownsRow_nil _ _ _ _
theorem OwnT.len {w : World} {base : Nat} {A : Option Addr} {n c : Nat} {zs : List Int} (h : OwnT w base A n c zs) : zs.length = n := by have := h.1; simpa using this
theorem OwnT.rd {w : World} {base : Nat} {A : Option Addr} {n c : Nat} {zs : List Int} (h : OwnT w base A n c zs) : RdU .u64 w A n zs := by
  refine ⟨h.len, fun i hn => ?_⟩
  obtain ⟨g, cap, hv, _, _⟩ := h.form (by omega)
  have hA : A = some ⟨g, 0, none⟩ := by injection hv
  subst hA
  have hc : ∀ j, j < n → w.cell? ⟨g, 0 + j, none⟩ = some (.int .u64 (zs.getD j 0)) := fun j hj => by
    have hc := h.cells (g := g) rfl j (.int .u64 (zs.getD j 0)) (by rw [List.getElem?_map]; have := h.len; simp [List.getD, show j < zs.length by omega])
    by_cases h0 : j = 0
    · subst h0; simpa [Addr.add] using hc
    · simpa [Addr.add, h0] using hc
  exact ⟨g, 0, rfl, World.block_lt_of_cell? w _ (hc i hn), hc⟩
theorem OwnT.cap {w : World} {base : Nat} {A : Option Addr} {n c : Nat} {zs : List Int} (h : OwnT w base A n c zs) : n ≤ c := by
  rcases h.2 with ⟨hv, h0⟩ | ⟨g, cap, cur, hv, _, _, h1, _⟩
  · omega
  · injection hv with _ _ h3; omega
theorem OwnT.row {w : World} {base : Nat} {A : Option Addr} {n c : Nat} {zs : List Int} (h : OwnT w base A n c zs) {k : Nat} (hk : k < base) : some k ≠ (Value.slice A n c).ownBlock := by
  rcases h.2 with ⟨hv, _⟩ | ⟨g, cap, cur, hv, hb, _⟩
  · rw [hv]; simp [Value.ownBlock]
  · rw [hv]; simp only [Value.ownBlock]; intro e; injection e with e; omega
theorem OwnT.rowGe {w : World} {base : Nat} {A : Option Addr} {n c : Nat} {zs : List Int} (h : OwnT w base A n c zs) : ∀ k, (Value.slice A n c).ownBlock = some k → base ≤ k := by
  intro k hk
  rcases Nat.lt_or_ge k base with h1 | h1
  · exact absurd hk.symm (h.row h1)
  · exact h1

theorem wpList_append_time {ops : Array Oper} {rest : List Oper} {o : Oper} {a : Act} {Q : Exit → Act → World → Prop} (w : World) (hgd : o.guard = none) (s x : Operand)
    (ho : o.op = .call { callee := .builtin .append, args := #[s, x], argTypes := #[65, 65] })
    (base : Nat) (A : Option Addr) (n c : Nat) (zs : List Int) (hs : a.eval s = .slice A n c) (hown : OwnT w base A n c zs) (b : Nat) (d : Int) (hx : a.eval x = .slice (some ⟨b, 0, none⟩) 1 1)
    (hcell : w.cell? ⟨b, 0, none⟩ = some (.int .u64 d)) (hn : n ≤ 4000000) (hbase : base ≤ w.heap.size)
    (h : ∀ A' c' w', OwnT w' base A' (n + 1) c' (zs ++ [d]) → w.grownBy w' (Value.slice A n c).ownBlock → wpList Try.prog ops Q rest (a.put o.dst (.slice A' (n + 1) c')) w') : wpList Try.prog ops Q (o :: rest) a w := by
  obtain ⟨i0, hi, hz0, hz1, hz2⟩ := info_parts infoTime
  refine wpList_append_lies w hgd s x 65 ho base 54 i0 (.int .u64 0) 1 8 Try.underlying65 hi hz0 hz1 hz2 rfl (by decide) (.slice A n c) n (zs.map (Value.int .u64)) hs hown
    ⟨b, 0, none⟩ 1 1 [.int .u64 d] hx rfl ?_ ?_ (by decide) (by unfold maxLen; omega) (by omega) hbase _ rfl ?_
  · intro j u hj
    match j, hj with
    | 0, hj => simp at hj; subst hj; simpa [Addr.add] using hcell
  · intro u hu; simp at hu; subst hu; rfl
  · intro g cap w' h2 h3 _ _
    exact h _ _ w' (by unfold OwnT; simpa using h2) h3

end Go.Proofs.Ytjklcbbanlaicaa
