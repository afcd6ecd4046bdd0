import Derived.Test.YtjchnkmolhgpmaaGreatDoorBits
import Derived.Test.YtjchnkmolhgpmaaGreatDoorSettleShiftsZ0
import Derived.Test.YtjchnkmolhgpmaaGreatDoorCs
import Derived.Test.YtjchnkmolhgpmaaGreatDoorSettleShiftsZ9
import Derived.Test.YtjchnkmolhgpmaaGreatDoorSettleShiftsZ19
import Derived.Laws.EntriesVeiled
import Derived.OwnWalk
import Derived.Deep.LoopGhost
import Derived.Deep.QuietTactic
import Derived.BigQuiet
import Derived.Laws.OwnMore
import Derived.Deep.AppendLies
import Derived.OpenShut
namespace Go.Proofs.YtjchnkmolhgpmaaGreatDoor
open Go.RowKit
theorem Cs.at3 {w : World} {g : Nat} {a b c d : Value} {vs : List Value} (h : Cs w g (a :: b :: c :: d :: vs)) : w.cell? ⟨g, 3, none⟩ = some d := (h 3 d rfl).1
theorem Cs.at4 {w : World} {g : Nat} {a b c d e : Value} {vs : List Value} (h : Cs w g (a :: b :: c :: d :: e :: vs)) : w.cell? ⟨g, 4, none⟩ = some e := (h 4 e rfl).1
theorem Cs.fr3 {w : World} {g : Nat} {a b c d : Value} {vs : List Value} (h : Cs w g (a :: b :: c :: d :: vs)) : w.frozen? ⟨g, 3, none⟩ = false := (h 3 d rfl).2
theorem Cs.fr4 {w : World} {g : Nat} {a b c d e : Value} {vs : List Value} (h : Cs w g (a :: b :: c :: d :: e :: vs)) : w.frozen? ⟨g, 4, none⟩ = false := (h 4 e rfl).2
theorem Cs.set {w : World} {g : Nat} {vs : List Value} (h : Cs w g vs) (i : Nat) (hi : i < vs.length) (u : Value) : Cs (w.setCell ⟨g, i, none⟩ u) g (vs.set i u) := by
 intro j x hx;have hv := h i vs[i] (List.getElem?_eq_getElem hi);have hl := World.block_lt_of_cell? w _ hv.1;by_cases e : i = j
 ·subst e;rw [List.getElem?_set_self hi] at hx;injection hx with hx;subst hx;exact ⟨by simp [go_sem, hv.1], by simp [go_sem, hv.2]⟩
 ·rw [List.getElem?_set_ne e] at hx;have := h j x hx;exact ⟨(World.cell?_setCell_other w ⟨g, i, none⟩ ⟨g, j, none⟩ u (fun e' => by injection e' with _ e2; exact e e2)).trans this.1, by simpa [go_sem] using this.2⟩
theorem Cs.alloc_new (w : World) (t : TypeId) (vs : List Value) : Cs (w.alloc (.cells vs.toArray t)) w.heap.size vs := fun i v hv => by
 refine ⟨?_, by simp [go_sem]⟩;rw [World.cell?_alloc_new];simpa using hv
structure Chg (F : List Nat) (w w' : World) : Prop where
 os : w'.os = w.os
 tape : w'.tape = w.tape
 output : w'.output = w.output
 size : w.heap.size ≤ w'.heap.size
 block : ∀ k, k < w.heap.size → k ∉ F → w'.heap[k]? = w.heap[k]?
theorem Chg.refl (F : List Nat) (w : World) : Chg F w w := ⟨rfl, rfl, rfl, Nat.le_refl _, fun _ _ _ => rfl⟩
theorem Chg.trans {F G : List Nat} {a b c : World} (h : Chg F a b) (k : Chg G b c) (hG : ∀ g ∈ G, g ∈ F ∨ a.heap.size ≤ g) : Chg F a c :=
 ⟨k.os.trans h.os, k.tape.trans h.tape, k.output.trans h.output, Nat.le_trans h.size k.size, fun i hi hF => (k.block i (Nat.lt_of_lt_of_le hi h.size) (fun hg => by
  rcases hG i hg with h1 | h1
  ·exact hF h1
  ·omega)).trans (h.block i hi hF)⟩
theorem Chg.mono {F G : List Nat} {a b : World} (h : Chg F a b) (hF : ∀ g ∈ F, g ∈ G) : Chg G a b := ⟨h.os, h.tape, h.output, h.size, fun k hk hG => h.block k hk (fun h' => hG (hF k h'))⟩
theorem Chg.below {F : List Nat} {w w' : World} (h : Below w.heap.size w w') : Chg F w w' := ⟨h.os, h.tape, h.output, h.size, fun k hk _ => h.block k hk⟩
theorem Chg.set {F : List Nat} {w w' : World} (h : Chg F w w') {g : Nat} (hg : g ∈ F ∨ w.heap.size ≤ g) (o : Nat) (u : Value) : Chg F w (w'.setCell ⟨g, o, none⟩ u) :=
 ⟨h.os, h.tape, h.output, by simpa [World.setCell] using h.size, fun k hk hF => (Below.heap_setCell _ _ _ _ (by rintro rfl; rcases hg with h1 | h1; exact hF h1; omega)).trans (h.block k hk hF)⟩
theorem Chg.cell {F : List Nat} {w w' : World} (h : Chg F w w') {p : Addr} (hp : p.block < w.heap.size) (hF : p.block ∉ F) : w'.cell? p = w.cell? p := World.cell?_of_block (w := w) (h.block p.block hp hF)
theorem Chg.frozen {F : List Nat} {w w' : World} (h : Chg F w w') {p : Addr} (hp : p.block < w.heap.size) (hF : p.block ∉ F) : w'.frozen? p = w.frozen? p := World.frozen?_of_block (w := w) (h.block p.block hp hF)
theorem Chg.toBelow {F : List Nat} {w w' : World} (h : Chg F w w') {B : Nat} (hB : B ≤ w.heap.size) (hF : ∀ g ∈ F, B ≤ g) : Below B w w' :=
 ⟨h.os, h.tape, h.output, h.size, fun k hk => h.block k (Nat.lt_of_lt_of_le hk hB) (fun hk' => by have := hF k hk'; omega)⟩
theorem Cs.chg {F : List Nat} {w w' : World} {g : Nat} {vs : List Value} (h : Cs w g vs) (hc : Chg F w w') (hg : g ∉ F) : Cs w' g vs := fun i v hv => by
 have hl := World.block_lt_of_cell? w _ (h i v hv).1;exact ⟨(hc.cell (p := ⟨g, i, none⟩) hl hg).trans (h i v hv).1, (hc.frozen (p := ⟨g, i, none⟩) hl hg).trans (h i v hv).2⟩
def ptr {α : Type} : Tr α → Value
 | .nil => .pointer none
 | .node g _ _ _ _ => .pointer (some ⟨g, 0, none⟩)
@[simp] theorem ptr_nil {α : Type} : ptr (.nil : Tr α) = .pointer none := rfl
@[simp] theorem ptr_node {α : Type} {g : Nat} {c : Bool} {l r : Tr α} {x : α} : ptr (.node g c l x r) = .pointer (some ⟨g, 0, none⟩) := rfl
-- reading
end Go.Proofs.YtjchnkmolhgpmaaGreatDoor
