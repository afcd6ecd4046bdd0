/- The contracts of the document's answer for layer 1, continued: digits, numbers of 64 bits. -/
import Derived.Test.YtcnmobehamgmbaaRef
namespace Go.Proofs.Ytcnmobehamgmbaa
open Go.RowKit

/-- Digit number i; 0 beyond the last. -/
def dg (zs : List Int) (i : Nat) : Int := zs.getD i 0

set_option maxHeartbeats 1000000 in
theorem Ref.digit (s : Bool) (A : Option Addr) (n c i : Nat) (zs : List Int) (w : World) (hr : Rd w A n zs) (hn : n ≤ 4000000) (hi : i ≤ 8000000) :
    Calls Try.prog 117 #[.agg #[.bool s, .slice A n c], .int .i64 i] w fun e w' => e = .returned (.int .i64 (dg zs i)) ∧ Below w.heap.size w w' := by
  by_cases h : i < n
  · obtain ⟨b, off, rfl, hc⟩ := hr.2 (by omega)
    have hci : w.cell? ⟨b, off + i, none⟩ = some (.int .i64 (dg zs i)) := hc i h
    have hb := World.block_lt_of_cell? w _ hci
    have hci2 : ∀ o, (w.alloc o).cell? ⟨b, off + i, none⟩ = some (.int .i64 (dg zs i)) := fun o => cell_alloc o hci
    have hlt : (i : Int) < (n : Int) := by omega
    clear hr hc h
    go_enter Try.func117, Try.ntmps117
    go_wp2
    go_ret
    exact ⟨rfl, (Below.refl _ _).alloc (Nat.le_refl _) _⟩
  · have hz : dg zs i = 0 := by unfold dg; simp [List.getD, List.getElem?_eq_none (by have := hr.1; omega : zs.length ≤ i)]
    have HZ := hid hz
    have hlt : ¬ (i : Int) < (n : Int) := by omega
    clear hr hz h
    go_enter Try.func117, Try.ntmps117
    go_wp2
    go_ret
    exact ⟨by rw [HZ.out]; rfl, (Below.refl _ _).alloc (Nat.le_refl _) _⟩

/-- Sign of a Big: as the number is. -/
theorem IsB.sgn {w : World} {L : Nat} {s : Bool} {A : Option Addr} {n c : Nat} {z : Int} (h : IsB w L s A n c z) : (n = 0 → z = 0 ∧ s = false) ∧ (0 < n → s = true → z < 0) ∧ (0 < n → s = false → 0 < z) := by
  obtain ⟨zs, h1, _, _, h2, h3, h4, h5⟩ := h
  refine ⟨fun e => ?_, fun e e' => ?_, fun e e' => ?_⟩
  · have : zs = [] := List.eq_nil_of_length_eq_zero (by rw [h1.1, e])
    subst this
    have hs : s = false := by cases s; rfl; exact absurd rfl (h4 rfl)
    subst hs
    exact ⟨by simpa [val] using h5, rfl⟩
  · have := val_pos h2 h3 (by intro e2; subst e2; have := h1.1; simp at this; omega)
    rw [h5, if_pos e']; omega
  · have := val_pos h2 h3 (by intro e2; subst e2; have := h1.1; simp at this; omega)
    rw [h5, e']; simpa using this

set_option maxHeartbeats 1000000 in
theorem Ref.sign (L : Nat) (s : Bool) (A : Option Addr) (n c : Nat) (z : Int) (w : World) (hz : IsB w L s A n c z) :
    Calls Try.prog 58 #[.agg #[.bool s, .slice A n c]] w fun e w' => e = .returned (.int .i64 (cmpI z 0)) ∧ Below w.heap.size w w' := by
  obtain ⟨g0, g1, g2⟩ := hz.sgn
  by_cases h : n = 0
  · subst h
    have HZ := hid (g0 rfl).1
    clear g0 g1 g2
    go_enter Try.func58, Try.ntmps58
    go_wp2
    go_ret
    exact ⟨by rw [HZ.out, cmpI_eq]; rfl, (Below.refl _ _).alloc (Nat.le_refl _) _⟩
  · have hn : ((n : Int) == 0) = false := by simpa using h
    have HG := hid (And.intro (g1 (by omega)) (g2 (by omega)))
    clear g0 g1 g2 h
    rcases s with _ | _
    · go_enter Try.func58, Try.ntmps58
      go_wp2
      go_ret
      exact ⟨by rw [cmpI_gt (HG.out.2 (by trivial))]; rfl, (Below.refl _ _).alloc (Nat.le_refl _) _⟩
    · go_enter Try.func58, Try.ntmps58
      go_wp2
      go_ret
      exact ⟨by rw [cmpI_lt (HG.out.1 (by trivial))]; rfl, (Below.refl _ _).alloc (Nat.le_refl _) _⟩

end Go.Proofs.Ytcnmobehamgmbaa
