import Derived.Test.YtbcepkfdlaioaaaGreatDtreePlaysZ0
import Derived.Laws.OwnMore
import Derived.Deep.AppendLies
namespace Go.Proofs.YtbcepkfdlaioaaaGreat
open Go.RowKit
theorem cell_alloc {w : World} {b o : Nat} {v : Value} (obj : Obj) (h : w.cell? ⟨b, o, none⟩ = some v) : (w.alloc obj).cell? ⟨b, o, none⟩ = some v :=
 (World.cell?_alloc_lt w obj ⟨b, o, none⟩ (World.block_lt_of_cell? w _ h)).trans h
def Rd (w : World) (A : Option Addr) (n : Nat) (zs : List Int) : Prop :=
 zs.length = n ∧ (0 < n → ∃ b off, A = some ⟨b, off, none⟩ ∧ ∀ j, j < n → w.cell? ⟨b, off + j, none⟩ = some (.int .i64 (zs.getD j 0)))
theorem Rd.below {w w' : World} {A : Option Addr} {n : Nat} {zs : List Int} (h : Rd w A n zs) (hb : Below w.heap.size w w') : Rd w' A n zs :=
 ⟨h.1, fun hn => by
  obtain ⟨b, off, e, hc⟩ := h.2 hn
  exact ⟨b, off, e, fun j hj => keep1 hb (hc j hj)⟩⟩
theorem Rd.alloc {w : World} {A : Option Addr} {n : Nat} {zs : List Int} (h : Rd w A n zs) (obj : Obj) : Rd (w.alloc obj) A n zs :=
 ⟨h.1, fun hn => by
  obtain ⟨b, off, e, hc⟩ := h.2 hn
  exact ⟨b, off, e, fun j hj => cell_alloc obj (hc j hj)⟩⟩
theorem Rd.nil (w : World) (A : Option Addr) : Rd w A 0 [] := ⟨rfl, fun h => absurd h (by omega)⟩
theorem Rd.take {w : World} {A : Option Addr} {n : Nat} {zs : List Int} (h : Rd w A n zs) {k : Nat} (hk : k ≤ n) : Rd w A k (zs.take k) :=
 ⟨by rw [List.length_take, h.1]; omega, fun hn => by
  obtain ⟨b, off, e, hc⟩ := h.2 (by omega)
  exact ⟨b, off, e, fun j hj => by rw [take_getD hj]; exact hc j (by omega)⟩⟩
theorem Rd.setCell {w : World} {A : Option Addr} {n : Nat} {zs : List Int} (h : Rd w A n zs) {g : Nat} (hg : ∀ b off, A = some ⟨b, off, none⟩ → 0 < n → b ≠ g) (o : Nat) (v : Value) : Rd (w.setCell ⟨g, o, none⟩ v) A n zs :=
 ⟨h.1, fun hn => by
  obtain ⟨b, off, e, hc⟩ := h.2 hn
  exact ⟨b, off, e, fun j hj => (World.cell?_setCell_other w ⟨g, o, none⟩ ⟨b, off + j, none⟩ v (fun hh => by injection hh with h1; exact hg b off e hn h1.symm)).trans (hc j hj)⟩⟩
theorem Rd.lt {w : World} {A : Option Addr} {n : Nat} {zs : List Int} (h : Rd w A n zs) {b off : Nat} (e : A = some ⟨b, off, none⟩) (hn : 0 < n) : b < w.heap.size := by
 obtain ⟨b', off', e', hc⟩ := h.2 hn
 rw [e] at e'
 injection e' with e'
 injection e' with h1
 subst h1
 exact World.block_lt_of_cell? w _ (hc 0 hn)
theorem Rd.of_own {w : World} {base : Nat} {e : TypeId} {A : Option Addr} {n c : Nat} {zs : List Int} (hz : zs.length = n) (h : w.ownsRow base e 1 (.slice A n c) n (zs.map (Value.int .i64))) : Rd w A n zs := by
 refine ⟨hz, fun hn => ?_⟩
 obtain ⟨g, cap, hv, _, _⟩ := h.form hn
 have hA : A = some ⟨g, 0, none⟩ := by injection hv
 subst hA
 refine ⟨g, 0, rfl, fun j hj => ?_⟩
 have hc := h.cells (g := g) rfl j (.int .i64 (zs.getD j 0)) (by rw [List.getElem?_map]; simp [List.getD, show j < zs.length by omega])
 by_cases h0 : j = 0
 ·subst h0; simpa [Addr.add] using hc
 ·simpa [Addr.add, h0] using hc
def IsB (w : World) (L : Nat) (s : Bool) (A : Option Addr) (n c : Nat) (z : Int) : Prop :=
 ∃ zs : List Int, Rd w A n zs ∧ n ≤ L ∧ n ≤ c ∧ Dg zs ∧ Nm zs ∧ (s = true → zs ≠ []) ∧ z = if s then -val zs else val zs
theorem IsB.below {w w' : World} {L : Nat} {s : Bool} {A : Option Addr} {n c : Nat} {z : Int} (h : IsB w L s A n c z) (hb : Below w.heap.size w w') : IsB w' L s A n c z := by
 obtain ⟨zs, h1, h2⟩ := h
 exact ⟨zs, h1.below hb, h2⟩
theorem IsB.alloc {w : World} {L : Nat} {s : Bool} {A : Option Addr} {n c : Nat} {z : Int} (h : IsB w L s A n c z) (obj : Obj) : IsB (w.alloc obj) L s A n c z := by
 obtain ⟨zs, h1, h2⟩ := h
 exact ⟨zs, h1.alloc obj, h2⟩
theorem IsB.drew {w : World} {L : Nat} {s : Bool} {A : Option Addr} {n c : Nat} {z : Int} (h : IsB w L s A n c z) : IsB w.drew L s A n c z := h
theorem IsB.mono {w : World} {L L' : Nat} {s : Bool} {A : Option Addr} {n c : Nat} {z : Int} (h : IsB w L s A n c z) (hL : L ≤ L') : IsB w L' s A n c z := by
 obtain ⟨zs, h1, h2, h3⟩ := h
 exact ⟨zs, h1, by omega, h3⟩
theorem IsB.zero (w : World) (L : Nat) : IsB w L false none 0 0 0 := ⟨[], Rd.nil _ _, Nat.zero_le _, Nat.le_refl _, Dg.nil, Nm.nil, (by intro h; cases h), rfl⟩
def BAns (L : Nat) (z : Int) (w : World) (e : Ending) (w' : World) : Prop :=
 ∃ (s : Bool) (A : Option Addr) (n c : Nat), e = .returned (.agg #[.bool s, .slice A n c]) ∧ IsB w' L s A n c z ∧ Below w.heap.size w w'
end Go.Proofs.YtbcepkfdlaioaaaGreat
