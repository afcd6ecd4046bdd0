/- Texts of SettleShifts's proof, together. -/
import Derived.Test.YtjchnkmolhgpmaaGreatDoorSettleShiftsZ0
import Derived.Test.YtjchnkmolhgpmaaGreatDoorSettleShiftsZ3
import Derived.Test.YtjchnkmolhgpmaaGreatDoorVtime
import Derived.Test.YtjchnkmolhgpmaaGreatDoorWideD
namespace Go.Proofs.YtjchnkmolhgpmaaGreatDoor

section
open Go.RowKit
theorem below_on {W w w' : World} (h : Below W.heap.size W w) (hb : Below w.heap.size w w') : Below W.heap.size W w' := h.trans (hb.mono h.size)
end


section
open Go.RowKit
set_option maxHeartbeats 400000 in
theorem Wide.small (h l n : Int) (hw : IsW h l n) (n0 : -9223372036854775808 ≤ n) (n1 : n ≤ 9223372036854775807) (w : World) :
  Calls Tryz.prog 219 #[.agg #[.int .i64 h, .int .u64 l]] w fun e w' => e = .returned (.tuple #[.int .i64 n, .bool true]) ∧ Below w.heap.size w w' := by
 have E : wrap64 l = n := by obtain ⟨h1, h2, h3, h4, h5⟩ := hw; unfold wrap64; omega
 have HE := hid E;have HW := hid hw;clear E hw;go_enter Tryz.func219, Tryz.ntmps219;go_wp2_with fail;rw [HE.out]
 go_region_held3 (fun w' => (w'.cell? ⟨w.heap.size, 0, none⟩ = some (.int .i64 h) ∧ w'.cell? ⟨w.heap.size, 1, none⟩ = some (.int .u64 l)) ∧ Below w.heap.size w w')
  (first | exact ⟨⟨by simp [go_sem], by simp [go_sem]⟩, ((Below.refl _ _).alloc (Nat.le_refl _) _).drew⟩ | exact ⟨keep2 (And.left (by assumption : _ ∧ Below w.heap.size w _)) hb2, below_on (And.right (by assumption : _ ∧ Below w.heap.size w _)) hb2⟩)
  (first | (go_at_call 183; refine (Wide.ofN n n0 n1 _).mono ?_; rintro e w2 ⟨h2, l2, rfl, hw2, hb2⟩; obtain ⟨rfl, rfl⟩ := IsW.inj HW.out hw2))
 have HF := hid (And.right (by assumption : _ ∧ Below w.heap.size w w2));clear hb2
 go_wp2
 go_ret2
 exact ⟨rfl, HF.out⟩
set_option maxHeartbeats 400000 in
theorem Wide.small_no (h l n : Int) (hw : IsW h l n) (hn : n < -9223372036854775808 ∨ 9223372036854775807 < n) (w : World) :
  Calls Tryz.prog 219 #[.agg #[.int .i64 h, .int .u64 l]] w fun e w' => e = .returned (.tuple #[.int .i64 0, .bool false]) ∧ Below w.heap.size w w' := by
 have HW := hid hw;have HN := hid hn;have q0 : -9223372036854775808 ≤ wrap64 l := by unfold wrap64; omega
 have q1 : wrap64 l ≤ 9223372036854775807 := by unfold wrap64; omega
 have HQ : Hid (∀ h2 l2, IsW h2 l2 (wrap64 l) → l2 = l ∧ (h2 == h) = false) := hid (by
  intro h2 l2 g;obtain ⟨h1, h2, h3, h4, h5⟩ := hw;obtain ⟨g1, g2, g3, g4, g5⟩ := g;rw [beq_eq_false_iff_ne];unfold wrap64 at g5;omega)
 have Q0 := hid q0;have Q1 := hid q1;clear hw hn q0 q1;go_enter Tryz.func219, Tryz.ntmps219;go_wp2_with fail
 go_region_held3 (fun w' => (w'.cell? ⟨w.heap.size, 0, none⟩ = some (.int .i64 h) ∧ w'.cell? ⟨w.heap.size, 1, none⟩ = some (.int .u64 l)) ∧ Below w.heap.size w w')
  (first | exact ⟨⟨by simp [go_sem], by simp [go_sem]⟩, ((Below.refl _ _).alloc (Nat.le_refl _) _).drew⟩ | exact ⟨keep2 (And.left (by assumption : _ ∧ Below w.heap.size w _)) hb2, below_on (And.right (by assumption : _ ∧ Below w.heap.size w _)) hb2⟩)
  (first | (go_at_call 183; refine (Wide.ofN (wrap64 l) Q0.out Q1.out _).mono ?_; rintro e w2 ⟨h2, l2, rfl, hw2, hb2⟩; obtain ⟨rfl, hne⟩ := HQ.out _ _ hw2; clear hw2))
 have HF := hid (And.right (by assumption : _ ∧ Below w.heap.size w w2));clear hb2
 go_wp2
 go_ret2
 exact ⟨rfl, HF.out⟩
set_option maxHeartbeats 400000 in
theorem Pos.weight (x : Int) (w : World) :
  Calls Tryz.prog 180 #[.int .u32 x] w fun e w' => e = .returned (.bool (decide (1 ≤ x ∧ x ≤ 1048576))) ∧ Below w.heap.size w w' := by
 by_cases h1 : 1 ≤ x
 ·by_cases h2 : x ≤ 1048576
  ·have e : decide (1 ≤ x ∧ x ≤ 1048576) = true := by rw [decide_eq_true_eq]; exact ⟨h1, h2⟩
   rw [e];clear e;go_enter Tryz.func180, Tryz.ntmps180
   go_wp2
   go_ret
   exact ⟨rfl, Below.refl _ _⟩
  ·have e : decide (1 ≤ x ∧ x ≤ 1048576) = false := by rw [decide_eq_false_iff_not]; omega
   rw [e];clear e;go_enter Tryz.func180, Tryz.ntmps180
   go_wp2
   go_ret
   exact ⟨rfl, Below.refl _ _⟩
 ·have e : decide (1 ≤ x ∧ x ≤ 1048576) = false := by rw [decide_eq_false_iff_not]; omega
  rw [e];clear e;go_enter Tryz.func180, Tryz.ntmps180
  go_wp2
  go_ret
  exact ⟨rfl, Below.refl _ _⟩
set_option maxHeartbeats 1000000 in
theorem Pos.right (t r v : Int) (w : World) :
  Calls Tryz.prog 125 #[.agg #[.int .u64 t, .int .u32 r, .int .u32 v]] w fun e w' => e = .returned (.bool (decide (1 ≤ v ∧ v ≤ 1048576) && decide (r < v))) ∧ Below w.heap.size w w' := by
 by_cases h : 1 ≤ v ∧ v ≤ 1048576
 ·have e : decide (1 ≤ v ∧ v ≤ 1048576) = true := by rw [decide_eq_true_eq]; exact h
  have E := hid e;rw [e];clear e h;go_enter Tryz.func125, Tryz.ntmps125;go_wp2_with fail;refine (Pos.weight v _).mono ?_;rintro e w1 ⟨rfl, hb⟩;rw [E.out];obtain ⟨c0, c1⟩ : w1.cell? ⟨w.heap.size, 1, none⟩ = some (.int .u32 r) ∧ w1.cell? ⟨w.heap.size, 2, none⟩ = some (.int .u32 v) := keep2 ⟨by simp [go_sem], by simp [go_sem]⟩ hb;have HB := hid (((Below.refl _ w).alloc (Nat.le_refl _) (.cells #[.int .u64 t, .int .u32 r, .int .u32 v] 55)).trans (hb.mono (by simp)));clear hb
  go_wp2
  go_ret
  exact ⟨rfl, HB.out⟩
 ·have e : decide (1 ≤ v ∧ v ≤ 1048576) = false := by rw [decide_eq_false_iff_not]; exact h
  have E := hid e;rw [e];clear e h;go_enter Tryz.func125, Tryz.ntmps125;go_wp2_with fail;refine (Pos.weight v _).mono ?_;rintro e w1 ⟨rfl, hb⟩;rw [E.out];have HB := hid (((Below.refl _ w).alloc (Nat.le_refl _) (.cells #[.int .u64 t, .int .u32 r, .int .u32 v] 55)).trans (hb.mono (by simp)));clear hb
  go_wp2
  go_ret
  exact ⟨rfl, HB.out⟩
end

end Go.Proofs.YtjchnkmolhgpmaaGreatDoor
