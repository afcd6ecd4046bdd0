/- The contracts of the document's answer for layer 1, continued: numbers of 64 bits. -/
import Derived.Test.YtegohmeapamoaaaGreatDoorRefB
import Derived.OwnWalk
namespace Go.Proofs.YtegohmeapamoaaaGreatDoor
open Go.RowKit
theorem infoInt : (Tryz.prog.info? 3).map (fun i => (i.zero, i.size, i.bytes)) = some (some (.int .i64 0), 1, 8) := by kernel_rfl
/-- A slice of ints that the call itself has made (from block base on): it reads as zs. -/
def Own (w : World) (base : Nat) (A : Option Addr) (n c : Nat) (zs : List Int) : Prop := w.ownsRow base 3 1 (.slice A n c) n (zs.map (Value.int .i64))
theorem Own.nil (w : World) (base : Nat) : Own w base none 0 0 [] := World.ownsRow_nil _ _ _ _
theorem Own.len {w : World} {base : Nat} {A : Option Addr} {n c : Nat} {zs : List Int} (h : Own w base A n c zs) : zs.length = n := by have := h.1; simpa using this
theorem Own.rd {w : World} {base : Nat} {A : Option Addr} {n c : Nat} {zs : List Int} (h : Own w base A n c zs) : Rd w A n zs := Rd.of_own h.len h
theorem Own.cap {w : World} {base : Nat} {A : Option Addr} {n c : Nat} {zs : List Int} (h : Own w base A n c zs) : n ≤ c := by
  rcases h.2 with ⟨hv, h0⟩ | ⟨g, cap, cur, hv, _, _, h1, _⟩
  · omega
  · injection hv with _ _ h3; omega
/-- The row that it owns is none below base. -/
theorem Own.row {w : World} {base : Nat} {A : Option Addr} {n c : Nat} {zs : List Int} (h : Own w base A n c zs) {k : Nat} (hk : k < base) : some k ≠ (Value.slice A n c).ownBlock := by
  rcases h.2 with ⟨hv, _⟩ | ⟨g, cap, cur, hv, hb, _⟩
  · rw [hv]; simp [Value.ownBlock]
  · rw [hv]; simp only [Value.ownBlock]; intro e; injection e with e; omega
theorem Own.rowGe {w : World} {base : Nat} {A : Option Addr} {n c : Nat} {zs : List Int} (h : Own w base A n c zs) : ∀ k, (Value.slice A n c).ownBlock = some k → base ≤ k := by
  intro k hk
  rcases Nat.lt_or_ge k base with h1 | h1
  · exact absurd hk.symm (h.row h1)
  · exact h1
/-- append of one int onto a slice that the call itself has made. -/
theorem wpList_append_int {ops : Array Oper} {rest : List Oper} {o : Oper} {a : Act} {Q : Exit → Act → World → Prop} (w : World) (hgd : o.guard = none) (s x : Operand)
    (ho : o.op = .call { callee := .builtin .append, args := #[s, x], argTypes := #[37, 37] })
    (base : Nat) (A : Option Addr) (n c : Nat) (zs : List Int) (hs : a.eval s = .slice A n c) (hown : Own w base A n c zs) (b : Nat) (d : Int) (hx : a.eval x = .slice (some ⟨b, 0, none⟩) 1 1)
    (hcell : w.cell? ⟨b, 0, none⟩ = some (.int .i64 d)) (hn : n ≤ 4000000) (hbase : base ≤ w.heap.size)
    (h : ∀ A' c' w', Own w' base A' (n + 1) c' (zs ++ [d]) → w.grownBy w' (Value.slice A n c).ownBlock → wpList Tryz.prog ops Q rest (a.put o.dst (.slice A' (n + 1) c')) w') : wpList Tryz.prog ops Q (o :: rest) a w := by
  obtain ⟨i0, hi, hz0, hz1, hz2⟩ := info_parts infoInt
  refine wpList_append_lies w hgd s x 37 ho base 3 i0 (.int .i64 0) 1 8 Tryz.underlying37 hi hz0 hz1 hz2 rfl (by decide) (.slice A n c) n (zs.map (Value.int .i64)) hs hown
    ⟨b, 0, none⟩ 1 1 [.int .i64 d] hx rfl ?_ ?_ (by decide) (by unfold maxLen; omega) (by omega) hbase _ rfl ?_
  · intro j u hj
    match j, hj with
    | 0, hj => simp at hj; subst hj; simpa [Addr.add] using hcell
  · intro u hu; simp at hu; subst hu; rfl
  · intro g cap w' h2 h3 _ _
    exact h _ _ w' (by unfold Own; simpa using h2) h3
theorem Own.setCell {w : World} {base : Nat} {A : Option Addr} {n c : Nat} {zs : List Int} (h : Own w base A n c zs) {b : Nat} (hb : b < base) (o : Nat) (v : Value) : Own (w.setCell ⟨b, o, none⟩ v) base A n c zs :=
  ownsRow_setCell_below h hb v
end Go.Proofs.YtegohmeapamoaaaGreatDoor
