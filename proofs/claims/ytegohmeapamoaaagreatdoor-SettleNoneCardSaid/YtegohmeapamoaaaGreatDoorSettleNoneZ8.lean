/- Texts of SettleNone's proof, together. -/
import Derived.Test.YtegohmeapamoaaaGreatDoorSettleNoneZ5
import Derived.Test.YtegohmeapamoaaaGreatDoorKnuth
import Derived.Test.YtegohmeapamoaaaGreatDoorVtime
import Derived.Deep.RegionHeld3
import Derived.Deep.QuietTactic
import Derived.BigQuiet
import Derived.Test.YtegohmeapamoaaaGreatDoorRows
import Derived.WalkKit
import Derived.WalkSpells
import Derived.Shelf.Bits.Mul64
import Derived.Shelf.Small.Bits
import Derived.Deep.LoopGhost
import Derived.Deep.CutBlock
import Derived.Deep.DeepCutAuto
namespace Go.Proofs.YtegohmeapamoaaaGreatDoor
/- The contracts of the package vtime, continued: the spread; the chapter's example. -/
section
open Go.RowKit
theorem below_on {W w w' : World} (h : Below W.heap.size W w) (hb : Below w.heap.size w w') : Below W.heap.size W w' := h.trans (hb.mono h.size)
end

/- The contracts of the package pos. -/
section
open Go.RowKit
set_option maxHeartbeats 400000 in
theorem Pos.weight (x : Int) (w : World) :
    Calls Tryz.prog 209 #[.int .u32 x] w fun e w' => e = .returned (.bool (decide (1 ≤ x ∧ x ≤ 1048576))) ∧ Below w.heap.size w w' := by
  by_cases h1 : 1 ≤ x
  · by_cases h2 : x ≤ 1048576
    · have e : decide (1 ≤ x ∧ x ≤ 1048576) = true := by rw [decide_eq_true_eq]; exact ⟨h1, h2⟩
      rw [e]
      clear e
      go_enter Tryz.func209, Tryz.ntmps209
      go_wp2
      go_ret
      exact ⟨rfl, Below.refl _ _⟩
    · have e : decide (1 ≤ x ∧ x ≤ 1048576) = false := by rw [decide_eq_false_iff_not]; omega
      rw [e]
      clear e
      go_enter Tryz.func209, Tryz.ntmps209
      go_wp2
      go_ret
      exact ⟨rfl, Below.refl _ _⟩
  · have e : decide (1 ≤ x ∧ x ≤ 1048576) = false := by rw [decide_eq_false_iff_not]; omega
    rw [e]
    clear e
    go_enter Tryz.func209, Tryz.ntmps209
    go_wp2
    go_ret
    exact ⟨rfl, Below.refl _ _⟩
set_option maxHeartbeats 1000000 in
theorem Pos.right (t r v : Int) (w : World) :
    Calls Tryz.prog 173 #[.agg #[.int .u64 t, .int .u32 r, .int .u32 v]] w fun e w' => e = .returned (.bool (decide (1 ≤ v ∧ v ≤ 1048576) && decide (r < v))) ∧ Below w.heap.size w w' := by
  by_cases h : 1 ≤ v ∧ v ≤ 1048576
  · have e : decide (1 ≤ v ∧ v ≤ 1048576) = true := by rw [decide_eq_true_eq]; exact h
    have E := hid e
    rw [e]
    clear e h
    go_enter Tryz.func173, Tryz.ntmps173
    go_wp2_with fail
    refine (Pos.weight v _).mono ?_
    rintro e w1 ⟨rfl, hb⟩
    rw [E.out]
    obtain ⟨c0, c1⟩ : w1.cell? ⟨w.heap.size, 1, none⟩ = some (.int .u32 r) ∧ w1.cell? ⟨w.heap.size, 2, none⟩ = some (.int .u32 v) := keep2 ⟨by simp [go_sem], by simp [go_sem]⟩ hb
    have HB := hid (((Below.refl _ w).alloc (Nat.le_refl _) (.cells #[.int .u64 t, .int .u32 r, .int .u32 v] 86)).trans (hb.mono (by simp)))
    clear hb
    go_wp2
    go_ret
    exact ⟨rfl, HB.out⟩
  · have e : decide (1 ≤ v ∧ v ≤ 1048576) = false := by rw [decide_eq_false_iff_not]; exact h
    have E := hid e
    rw [e]
    clear e h
    go_enter Tryz.func173, Tryz.ntmps173
    go_wp2_with fail
    refine (Pos.weight v _).mono ?_
    rintro e w1 ⟨rfl, hb⟩
    rw [E.out]
    have HB := hid (((Below.refl _ w).alloc (Nat.le_refl _) (.cells #[.int .u64 t, .int .u32 r, .int .u32 v] 86)).trans (hb.mono (by simp)))
    clear hb
    go_wp2
    go_ret
    exact ⟨rfl, HB.out⟩
end

end Go.Proofs.YtegohmeapamoaaaGreatDoor
