import Derived.Test.YtjchnkmolhgpmaaGreatDoorSettleShiftsZ23
import Derived.Deep.TreeCalls
namespace Go.Proofs.YtjchnkmolhgpmaaGreatDoor
open Go.RowKit
def rowOf (A : Option Addr) : List Nat := (A.map (·.block)).toList
theorem row_own {A : Option Addr} {n c : Nat} {k : Nat} (h : (Value.slice A n c).ownBlock = some k) : k ∈ rowOf A := by
 cases A with
 | none => simp [Value.ownBlock] at h
 | some a => simpa [Value.ownBlock, rowOf, eq_comm] using h
theorem Chg.grown {A : Option Addr} {n c : Nat} {w w' : World} (h : w.grownBy w' (Value.slice A n c).ownBlock) : Chg (rowOf A) w w' :=
 ⟨h.os, h.tape, h.output, h.size, fun k hk hr => h.block k hk (fun e => hr (row_own e.symm))⟩
theorem Below.chg {F : List Nat} {W0 w w' : World} (h : Below W0.heap.size W0 w) (hc : Chg F w w') (hF : ∀ k ∈ F, W0.heap.size ≤ k) : Below W0.heap.size W0 w' :=
 h.trans (hc.toBelow h.size hF)
theorem Chg.chain {w wa w2 wb w3 w4 : World} {A A2 A3 A4 : Option Addr} (h0 : Below w.heap.size w wa) (h2 : Chg (rowOf A) wa w2) (r2 : ∀ k ∈ rowOf A2, k ∈ rowOf A ∨ wa.heap.size ≤ k) (hb : Below w2.heap.size w2 wb) (h3 : Chg (rowOf A2) wb w3) (r3 : ∀ k ∈ rowOf A3, k ∈ rowOf A2 ∨ wb.heap.size ≤ k)
  (h4 : Chg (rowOf A3) w3 w4) (r4 : ∀ k ∈ rowOf A4, k ∈ rowOf A3 ∨ w3.heap.size ≤ k) : Chg (rowOf A) w w4 ∧ ∀ k ∈ rowOf A4, k ∈ rowOf A ∨ w.heap.size ≤ k := by
 have s0 := h0.size;have s2 := h2.size;have sb := hb.size;have s3 := h3.size;have q2 : ∀ k ∈ rowOf A2, k ∈ rowOf A ∨ w.heap.size ≤ k := fun k hk => (r2 k hk).imp id (fun h => by omega)
 have q3 : ∀ k ∈ rowOf A3, k ∈ rowOf A ∨ w.heap.size ≤ k := fun k hk => by
  rcases r3 k hk with h | h
  ·exact q2 k h
  ·right; omega
 have q4 : ∀ k ∈ rowOf A4, k ∈ rowOf A ∨ w.heap.size ≤ k := fun k hk => by
  rcases r4 k hk with h | h
  ·exact q3 k h
  ·right; omega
 exact ⟨((((Chg.below h0).trans h2 (fun j hj => Or.inl hj)).trans (G := []) (Chg.below hb) (by simp)).trans h3 q2).trans h4 q3, q4⟩
end Go.Proofs.YtjchnkmolhgpmaaGreatDoor
