/- What a Big of the document's answer is in memory: its sign, its digits; how that is kept. -/
import Derived.Test.YtegohmeapamoaaaGreatDoorTablePlaysZ2
import Derived.Laws.OwnMore
import Derived.Deep.AppendLies
namespace Go.Proofs.YtegohmeapamoaaaGreatDoor
open Go.RowKit
theorem cell_alloc {w : World} {b o : Nat} {v : Value} (obj : Obj) (h : w.cell? ⟨b, o, none⟩ = some v) : (w.alloc obj).cell? ⟨b, o, none⟩ = some v :=
  (World.cell?_alloc_lt w obj ⟨b, o, none⟩ (World.block_lt_of_cell? w _ h)).trans h
/-- A slice of ints that reads as the numbers zs. -/
def Rd (w : World) (A : Option Addr) (n : Nat) (zs : List Int) : Prop :=
  zs.length = n ∧ (0 < n → ∃ b off, A = some ⟨b, off, none⟩ ∧ ∀ j, j < n → w.cell? ⟨b, off + j, none⟩ = some (.int .i64 (zs.getD j 0)))
theorem Rd.below {w w' : World} {A : Option Addr} {n : Nat} {zs : List Int} (h : Rd w A n zs) (hb : Below w.heap.size w w') : Rd w' A n zs :=
  ⟨h.1, fun hn => by
    obtain ⟨b, off, e, hc⟩ := h.2 hn
    exact ⟨b, off, e, fun j hj => keep1 hb (hc j hj)⟩⟩
theorem Rd.alloc {w : World} {A : Option Addr} {n : Nat} {zs : List Int} (h : Rd w A n zs) (obj : Obj) : Rd (w.alloc obj) A n zs :=
  ⟨h.1, fun hn => by
    obtain ⟨b, off, e, hc⟩ := h.2 hn
    exact ⟨b, off, e, fun j hj => cell_alloc obj (hc j hj)⟩⟩
theorem Rd.drew {w : World} {A : Option Addr} {n : Nat} {zs : List Int} (h : Rd w A n zs) : Rd w.drew A n zs := h
theorem Rd.nil (w : World) (A : Option Addr) : Rd w A 0 [] := ⟨rfl, fun h => absurd h (by omega)⟩
theorem Rd.take {w : World} {A : Option Addr} {n : Nat} {zs : List Int} (h : Rd w A n zs) {k : Nat} (hk : k ≤ n) : Rd w A k (zs.take k) :=
  ⟨by rw [List.length_take, h.1]; omega, fun hn => by
    obtain ⟨b, off, e, hc⟩ := h.2 (by omega)
    exact ⟨b, off, e, fun j hj => by rw [take_getD hj]; exact hc j (by omega)⟩⟩
theorem Rd.setCell {w : World} {A : Option Addr} {n : Nat} {zs : List Int} (h : Rd w A n zs) {g : Nat} (hg : ∀ b off, A = some ⟨b, off, none⟩ → 0 < n → b ≠ g) (o : Nat) (v : Value) : Rd (w.setCell ⟨g, o, none⟩ v) A n zs :=
  ⟨h.1, fun hn => by
    obtain ⟨b, off, e, hc⟩ := h.2 hn
    exact ⟨b, off, e, fun j hj => (World.cell?_setCell_other w ⟨g, o, none⟩ ⟨b, off + j, none⟩ v (fun hh => by injection hh with h1; exact hg b off e hn h1.symm)).trans (hc j hj)⟩⟩
/-- It lies below what is made later. -/
theorem Rd.lt {w : World} {A : Option Addr} {n : Nat} {zs : List Int} (h : Rd w A n zs) {b off : Nat} (e : A = some ⟨b, off, none⟩) (hn : 0 < n) : b < w.heap.size := by
  obtain ⟨b', off', e', hc⟩ := h.2 hn
  rw [e] at e'
  injection e' with e'
  injection e' with h1
  subst h1
  exact World.block_lt_of_cell? w _ (hc 0 hn)
theorem Rd.of_own {w : World} {base : Nat} {e : TypeId} {A : Option Addr} {n c : Nat} {zs : List Int} (hz : zs.length = n) (h : w.ownsRow base e 1 (.slice A n c) n (zs.map (Value.int .i64))) : Rd w A n zs := by
  refine ⟨hz, fun hn => ?_⟩
  obtain ⟨g, cap, hv, _, _⟩ := h.form hn
  have hA : A = some ⟨g, 0, none⟩ := by injection hv
  subst hA
  refine ⟨g, 0, rfl, fun j hj => ?_⟩
  have hc := h.cells (g := g) rfl j (.int .i64 (zs.getD j 0)) (by rw [List.getElem?_map]; simp [List.getD, show j < zs.length by omega])
  by_cases h0 : j = 0
  · subst h0; simpa [Addr.add] using hc
  · simpa [Addr.add, h0] using hc
end Go.Proofs.YtegohmeapamoaaaGreatDoor
