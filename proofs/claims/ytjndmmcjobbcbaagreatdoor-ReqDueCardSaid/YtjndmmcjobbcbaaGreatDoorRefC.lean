import Derived.Test.YtjndmmcjobbcbaaGreatDoorRefB
import Derived.OwnWalk
namespace Go.Proofs.YtjndmmcjobbcbaaGreatDoor
open Go.RowKit
theorem infoInt : (Tryz.prog.info? 3).map (fun i => (i.zero, i.size, i.bytes)) = some (some (.int .i64 0), 1, 8) := by kernel_rfl
def Own (w : World) (base : Nat) (A : Option Addr) (n c : Nat) (zs : List Int) : Prop := w.ownsRow base 3 1 (.slice A n c) n (zs.map (Value.int .i64))
theorem Own.nil (w : World) (base : Nat) : Own w base none 0 0 [] := World.ownsRow_nil _ _ _ _
theorem Own.len {w : World} {base : Nat} {A : Option Addr} {n c : Nat} {zs : List Int} (h : Own w base A n c zs) : zs.length = n := by have := h.1; simpa using this
theorem Own.cap {w : World} {base : Nat} {A : Option Addr} {n c : Nat} {zs : List Int} (h : Own w base A n c zs) : n ≤ c := by
  rcases h.2 with ⟨hv, h0⟩ | ⟨g, cap, cur, hv, _, _, h1, _⟩
  · omega
  · injection hv with _ _ h3; omega
theorem Own.row {w : World} {base : Nat} {A : Option Addr} {n c : Nat} {zs : List Int} (h : Own w base A n c zs) {k : Nat} (hk : k < base) : some k ≠ (Value.slice A n c).ownBlock := by
  rcases h.2 with ⟨hv, _⟩ | ⟨g, cap, cur, hv, hb, _⟩
  · rw [hv]; simp [Value.ownBlock]
  · rw [hv]; simp only [Value.ownBlock]; intro e; injection e with e; omega
theorem Own.rowGe {w : World} {base : Nat} {A : Option Addr} {n c : Nat} {zs : List Int} (h : Own w base A n c zs) : ∀ k, (Value.slice A n c).ownBlock = some k → base ≤ k := by
  intro k hk
  rcases Nat.lt_or_ge k base with h1 | h1
  · exact absurd hk.symm (h.row h1)
  · exact h1
theorem far1 {w w1 : World} {b o : Nat} {v : Value} {obj : Obj} {row : Option Nat} (h : w.cell? ⟨b, o, none⟩ = some v) (hg : (w.alloc obj).grownBy w1 row) (hne : some b ≠ row) : w1.cell? ⟨b, o, none⟩ = some v :=
  (hg.cell_far ⟨b, o, none⟩ (Nat.lt_of_lt_of_le (World.block_lt_of_cell? w _ h) (by simp)) hne).trans (cell_alloc obj h)
theorem Own.setCell {w : World} {base : Nat} {A : Option Addr} {n c : Nat} {zs : List Int} (h : Own w base A n c zs) {b : Nat} (hb : b < base) (o : Nat) (v : Value) : Own (w.setCell ⟨b, o, none⟩ v) base A n c zs :=
  ownsRow_setCell_below h hb v
end Go.Proofs.YtjndmmcjobbcbaaGreatDoor
