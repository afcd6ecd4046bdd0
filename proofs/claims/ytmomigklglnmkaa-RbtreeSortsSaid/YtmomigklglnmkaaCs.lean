/- A variable's cells through what a walk does next: calls, new blocks, stores elsewhere, draws. -/
import Derived.Test.YtmomigklglnmkaaNum
import Derived.Deep.RegionHeld3
import Derived.Laws.OwnMore
namespace Go.Proofs.Ytmomigklglnmkaa
open Go.RowKit
/-- The block g bears these cells, none of them frozen. -/
def Cs (w : World) (g : Nat) (vs : List Value) : Prop := ∀ i (v : Value), vs[i]? = some v → w.cell? ⟨g, i, none⟩ = some v ∧ w.frozen? ⟨g, i, none⟩ = false
theorem Cs.below {w w' : World} {g : Nat} {vs : List Value} (h : Cs w g vs) (hb : Below w.heap.size w w') : Cs w' g vs := fun i v hv => by
  have hl := World.block_lt_of_cell? w _ (h i v hv).1
  exact ⟨keep1 hb (h i v hv).1, (hb.frozen (p := ⟨g, i, none⟩) hl).trans (h i v hv).2⟩
theorem Cs.drew {w : World} {g : Nat} {vs : List Value} (h : Cs w g vs) : Cs w.drew g vs := h
theorem Cs.alloc {w : World} {g : Nat} {vs : List Value} (h : Cs w g vs) (o : Obj) : Cs (w.alloc o) g vs := h.below ((Below.refl _ _).alloc (Nat.le_refl _) o)
theorem Cs.far {w : World} {g : Nat} {vs : List Value} (h : Cs w g vs) {b : Nat} (hb : b ≠ g) (o : Nat) (u : Value) : Cs (w.setCell ⟨b, o, none⟩ u) g vs := fun i v hv =>
  ⟨(World.cell?_setCell_other w ⟨b, o, none⟩ ⟨g, i, none⟩ u (fun e => by injection e with e1; exact hb e1)).trans (h i v hv).1, by simpa [go_sem] using (h i v hv).2⟩
theorem Cs.lt {w : World} {g : Nat} {v : Value} {vs : List Value} (h : Cs w g (v :: vs)) : g < w.heap.size := World.block_lt_of_cell? w _ (h 0 v rfl).1
theorem Cs.at0 {w : World} {g : Nat} {v : Value} {vs : List Value} (h : Cs w g (v :: vs)) : w.cell? ⟨g, 0, none⟩ = some v := (h 0 v rfl).1
theorem Cs.at1 {w : World} {g : Nat} {u v : Value} {vs : List Value} (h : Cs w g (u :: v :: vs)) : w.cell? ⟨g, 1, none⟩ = some v := (h 1 v rfl).1
theorem Cs.at2 {w : World} {g : Nat} {t u v : Value} {vs : List Value} (h : Cs w g (t :: u :: v :: vs)) : w.cell? ⟨g, 2, none⟩ = some v := (h 2 v rfl).1
theorem Cs.fr0 {w : World} {g : Nat} {v : Value} {vs : List Value} (h : Cs w g (v :: vs)) : w.frozen? ⟨g, 0, none⟩ = false := (h 0 v rfl).2
theorem Cs.fr1 {w : World} {g : Nat} {u v : Value} {vs : List Value} (h : Cs w g (u :: v :: vs)) : w.frozen? ⟨g, 1, none⟩ = false := (h 1 v rfl).2
theorem Cs.fr2 {w : World} {g : Nat} {t u v : Value} {vs : List Value} (h : Cs w g (t :: u :: v :: vs)) : w.frozen? ⟨g, 2, none⟩ = false := (h 2 v rfl).2
end Go.Proofs.Ytmomigklglnmkaa
