/- WideReckons: the walk. -/
import Derived.Test.YtklaghleghncoaaItemSoonestZ20
import Derived.Test.YtklaghleghncoaaItemSoonestZ19
import Derived.Test.YtklaghleghncoaaItemSoonestZ3
import Derived.Test.YtklaghleghncoaaOpen
namespace Go.Proofs.Ytklaghleghncoaa
open Go.RowKit
theorem keepAl {w0 w : World} {b0 o0 b1 o1 b2 o2 b3 o3 : Nat} {v0 v1 v2 v3 : Value}
    (h : (w.cell? ⟨b0, o0, none⟩ = some v0 ∧ w.cell? ⟨b1, o1, none⟩ = some v1 ∧ w.cell? ⟨b2, o2, none⟩ = some v2 ∧ w.cell? ⟨b3, o3, none⟩ = some v3) ∧ Below w0.heap.size w0 w) (o : Obj) :
    ((w.alloc o).cell? ⟨b0, o0, none⟩ = some v0 ∧ (w.alloc o).cell? ⟨b1, o1, none⟩ = some v1 ∧ (w.alloc o).cell? ⟨b2, o2, none⟩ = some v2 ∧ (w.alloc o).cell? ⟨b3, o3, none⟩ = some v3) ∧ Below w0.heap.size w0 (w.alloc o) :=
  ⟨⟨cell_alloc o h.1.1, cell_alloc o h.1.2.1, cell_alloc o h.1.2.2.1, cell_alloc o h.1.2.2.2⟩, h.2.alloc h.2.size o⟩
theorem Var.newS (w : World) (b o b' o' : Nat) (u v : Value) (t : TypeId) (s : Bool) (A : Option Addr) (n c : Nat) : Var (((w.setCell ⟨b, o, none⟩ u).setCell ⟨b', o', none⟩ v).alloc (.cells #[.bool s, .slice A n c] t)) w.heap.size s A n c := by
  have h := Var.new ((w.setCell ⟨b, o, none⟩ u).setCell ⟨b', o', none⟩ v) t s A n c
  simpa using h
theorem Var.new1 (w : World) (o : Obj) (t : TypeId) (s : Bool) (A : Option Addr) (n c : Nat) : Var ((w.alloc o).alloc (.cells #[.bool s, .slice A n c] t)) (w.heap.size + 1) s A n c := by
  have h := Var.new (w.alloc o) t s A n c
  simpa using h
theorem keepDr {w0 w : World} {b0 o0 b1 o1 b2 o2 b3 o3 : Nat} {v0 v1 v2 v3 : Value}
    (h : (w.cell? ⟨b0, o0, none⟩ = some v0 ∧ w.cell? ⟨b1, o1, none⟩ = some v1 ∧ w.cell? ⟨b2, o2, none⟩ = some v2 ∧ w.cell? ⟨b3, o3, none⟩ = some v3) ∧ Below w0.heap.size w0 w) :
    (w.drew.cell? ⟨b0, o0, none⟩ = some v0 ∧ w.drew.cell? ⟨b1, o1, none⟩ = some v1 ∧ w.drew.cell? ⟨b2, o2, none⟩ = some v2 ∧ w.drew.cell? ⟨b3, o3, none⟩ = some v3) ∧ Below w0.heap.size w0 w.drew :=
  ⟨h.1, h.2.drew⟩
end Go.Proofs.Ytklaghleghncoaa
