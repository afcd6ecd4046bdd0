/- The tree of numbers: New, slices.Equal, and what all acts keep. -/
import Derived.Test.YtegohmeapamoaaaGreatDoorRbM
import Derived.Shelf.Lay
import Derived.Shelf.Slices.Empties2
namespace Go.Proofs.YtegohmeapamoaaaGreatDoor
open Go.RowKit Go.Shelf
def Tryz.lays111_ren : Go.Shelf.Ren := ⟨fun | 111 => 45 | n => n, fun | 28 => 37 | 3 => 3 | 4 => 4 | 0 => 0 | n => n, fun | n => n⟩
theorem Tryz.lays111 : Go.Proofs.Lays.n111 Tryz.prog Tryz.lays111_ren := open Go.Proofs.Tryz in { mixed := by kernel_rfl, f111 := func45.trans (congrArg some (by kernel_rfl)), t0 := underlying0, a0 := isAgg0, z0 := sizeOf0, v0 := zeroValue0, t3 := underlying3, a3 := isAgg3, z3 := sizeOf3, v3 := zeroValue3, t4 := underlying4, a4 := isAgg4, z4 := sizeOf4, v4 := zeroValue4, t28 := underlying37, a28 := isAgg37, z28 := sizeOf37, v28 := zeroValue37 }
/-- slices.Equal of two slices that read as lists. -/
theorem Sls.equal (A B : Option Addr) (n c m d : Nat) (xs ys : List Int) (w : World) (hx : RdU .i64 w A n xs) (hy : RdU .i64 w B m ys) (hn : n ≤ 1000000) (hm : m ≤ 1000000) :
    Calls Tryz.prog 45 #[.slice A n c, .slice B m d] w (Ans (.bool (xs == ys)) w) := by
  by_cases hnm : n = m
  · subst hnm
    by_cases h0 : n = 0
    · subst h0
      refine (Any.slices_Equal_int_empty Tryz.lays111 A B c 0 d w (by omega)).mono ?_
      rintro e w' ⟨rfl, rfl⟩
      have e1 : xs = [] := List.eq_nil_of_length_eq_zero hx.1
      have e2 : ys = [] := List.eq_nil_of_length_eq_zero hy.1
      subst e1 e2
      exact ⟨rfl, Below.refl _ _⟩
    · obtain ⟨b1, o1, rfl, _, c1⟩ := hx.2 0 (by omega)
      obtain ⟨b2, o2, rfl, _, c2⟩ := hy.2 0 (by omega)
      have l1 := hx.1
      have l2 := hy.1
      refine (Any.slices_Equal_int Tryz.lays111 b1 o1 n c b2 o2 n d xs ys w (by omega) (by omega) (by omega) (by omega) (fun j hj => c1 j (by omega)) (fun j hj => c2 j (by omega))).mono ?_
      rintro e w' ⟨rfl, q, rfl⟩
      rw [List.take_of_length_le (by omega), List.take_of_length_le (by omega)]
      exact ⟨rfl, rfl, rfl, rfl, Nat.le_refl _, fun _ _ => rfl⟩
  · refine (Any.slices_Equal_int_lens Tryz.lays111 A B n c m d w hnm).mono ?_
    rintro e w' ⟨rfl, rfl⟩
    have : (xs == ys) = false := by
      rw [beq_eq_false_iff_ne]
      intro e
      have l1 := hx.1
      have l2 := hy.1
      rw [e] at l1
      omega
    rw [this]
    exact ⟨rfl, Below.refl _ _⟩
theorem Own.rdi {w : World} {base : Nat} {A : Option Addr} {n c : Nat} {zs : List Int} (h : Own w base A n c zs) : RdU .i64 w A n zs := by
  refine ⟨h.len, fun i hn => ?_⟩
  obtain ⟨g, cap, hv, _, _⟩ := h.form (by omega)
  have hA : A = some ⟨g, 0, none⟩ := by injection hv
  subst hA
  have hc : ∀ j, j < n → w.cell? ⟨g, 0 + j, none⟩ = some (.int .i64 (zs.getD j 0)) := fun j hj => by
    have hc := h.cells (g := g) rfl j (.int .i64 (zs.getD j 0)) (by rw [List.getElem?_map]; have := h.len; simp [List.getD, show j < zs.length by omega])
    by_cases h0 : j = 0
    · subst h0; simpa [Addr.add] using hc
    · simpa [Addr.add, h0] using hc
  exact ⟨g, 0, rfl, World.block_lt_of_cell? w _ (hc i hn), hc⟩
end Go.Proofs.YtegohmeapamoaaaGreatDoor
