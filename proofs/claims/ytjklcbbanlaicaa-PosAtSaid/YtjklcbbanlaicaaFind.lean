/- A variable of type Big, and a number, through what a call does next: new blocks, stores, other calls. -/
import Derived.Test.YtjklcbbanlaicaaRefP
namespace Go.Proofs.Ytjklcbbanlaicaa
open Go.RowKit

theorem Var.fresh {w : World} {g : Nat} (h : Fresh w g) : Var w g false none 0 0 := h
theorem Var.drew {w : World} {g : Nat} {s : Bool} {A : Option Addr} {n c : Nat} (h : Var w g s A n c) : Var w.drew g s A n c := h
theorem Var.alloc {w : World} {g : Nat} {s : Bool} {A : Option Addr} {n c : Nat} (h : Var w g s A n c) (o : Obj) : Var (w.alloc o) g s A n c := h.below ((Below.refl _ _).alloc (Nat.le_refl _) o)
theorem Var.far {w : World} {g : Nat} {s : Bool} {A : Option Addr} {n c : Nat} (h : Var w g s A n c) {b : Nat} (hb : b ≠ g) (o o' : Nat) (u v : Value) : Var ((w.setCell ⟨b, o, none⟩ u).setCell ⟨b, o', none⟩ v) g s A n c := by
  have far : ∀ (p : Nat), ((w.setCell ⟨b, o, none⟩ u).setCell ⟨b, o', none⟩ v).cell? ⟨g, p, none⟩ = w.cell? ⟨g, p, none⟩ := fun p =>
    (World.cell?_setCell_other _ ⟨b, o', none⟩ ⟨g, p, none⟩ v (fun e => by injection e with e1; exact hb e1)).trans (World.cell?_setCell_other w ⟨b, o, none⟩ ⟨g, p, none⟩ u (fun e => by injection e with e1; exact hb e1))
  refine ⟨(far 0).trans h.1, (far 1).trans h.2.1, ?_, ?_, fun p k e => h.2.2.2.2 p k ((far p).symm.trans e)⟩
  · simpa [go_sem] using h.2.2.1
  · simpa [go_sem] using h.2.2.2.1
theorem Var.lt {w : World} {g : Nat} {s : Bool} {A : Option Addr} {n c : Nat} (h : Var w g s A n c) : g < w.heap.size := World.block_lt_of_cell? w _ h.1
theorem IsB.storeV {w : World} {L : Nat} {s : Bool} {A : Option Addr} {n c : Nat} {z : Int} {g : Nat} {s0 : Bool} {A0 : Option Addr} {n0 c0 : Nat} (h : IsB w L s A n c z) (hv : Var w g s0 A0 n0 c0) (o o' : Nat) (u v : Value) :
    IsB ((w.setCell ⟨g, o, none⟩ u).setCell ⟨g, o', none⟩ v) L s A n c z := h.store hv.2.2.2.2 _ _ _ _
theorem Fresh.ofVar {w : World} {g : Nat} (h : Var w g false none 0 0) : Fresh w g := h

end Go.Proofs.Ytjklcbbanlaicaa
