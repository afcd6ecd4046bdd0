/- The contracts of the package wide, continued: sizes, products. -/
import Derived.Test.YtcnmobehamgmbaaWide
namespace Go.Proofs.Ytcnmobehamgmbaa
open Go.RowKit

set_option maxHeartbeats 400000 in
theorem Wide.size (h1 l1 a : Int) (ha : IsW h1 l1 a) (w : World) :
    Calls Try.prog 139 #[.agg #[.int .i64 h1, .int .u64 l1]] w fun e w' =>
      ∃ h l : Int, e = .returned (.tuple #[.int .u64 h, .int .u64 l]) ∧ (IsSz h l (absI a) ∧ h ≤ 9223372036854775808) ∧ Below w.heap.size w w' := by
  have HA := hid ha
  obtain ⟨a1, a2, a3, a4, a5⟩ := ha
  clear a5
  have a4' : l1 < 18446744073709551616 := by omega
  obtain ⟨k0, k1⟩ := Bits.bor_01 0 l1 0
  have e1 : 0 ≤ IntKind.u64.wrap h1 := by rw [IntKind.wrap_u64]; omega
  have e3 : IntKind.u64.wrap h1 < 18446744073709551616 := by rw [IntKind.wrap_u64]; omega
  by_cases p : 0 ≤ h1
  · have q : IntKind.u64.wrap h1 = h1 := by rw [IntKind.wrap_u64]; omega
    go_enter Try.func139, Try.ntmps139
    go_wp2
    go_quiet (fail)
    go_wp2
    go_ret2
    exact ⟨_, _, rfl, isSz_pos HA.out p, belowN ((Below.refl _ _).alloc (Nat.le_refl _) _) _⟩
  · go_enter Try.func139, Try.ntmps139
    go_wp2_with (first | simp only [Bits.sub64_0 _ _ (Int.le_refl 0) a3 a4'] | simp only [Bits.sub64 _ _ _ (Int.le_refl 0) e1 e3 k0 k1])
    go_ret2
    exact ⟨_, _, rfl, isSz_neg HA.out (by omega) _ (by unfold Bits.bor; split <;> omega), ((Below.refl _ _).alloc (Nat.le_refl _) _)⟩

set_option maxHeartbeats 400000 in
theorem Wide.size64 (x : Int) (h0 : -9223372036854775808 ≤ x) (h1 : x ≤ 9223372036854775807) (w : World) :
    Calls Try.prog 148 #[.int .i64 x] w fun e w' => ∃ y : Int, e = .returned (.int .u64 y) ∧ (y = absI x ∧ 0 ≤ y ∧ y ≤ 9223372036854775808) ∧ w = w' := by
  go_enter Try.func148, Try.ntmps148
  go_wp2
  all_goals go_ret
  all_goals refine ⟨_, rfl, ?_, rfl⟩
  all_goals ((try simp only [IntKind.wrap_u64]); unfold absI; split <;> omega)

set_option maxHeartbeats 400000 in
theorem Wide.signed (s : Bool) (x y n : Int) (hn : IsSz x y n) (w : World) :
    Calls Try.prog 141 #[.bool s, .int .u64 x, .int .u64 y] w (WAns (if s then -n else n) w) := by
  have HN := hid hn
  have hn0 := hn
  obtain ⟨n1, n2, n3, n4, n5⟩ := hn
  clear n5
  have n4' : y < 18446744073709551616 := by omega
  have n2' : x < 18446744073709551616 := by omega
  obtain ⟨k0, k1⟩ := Bits.bor_01 0 y 0
  rcases s with _ | _
  · by_cases p : 9223372036854775807 < x
    · go_enter Try.func141, Try.ntmps141
      go_wp2
      refine bodyPost_ret (v := .tuple #[.agg #[.int .i64 0, .int .u64 0], .bool false]) (by simp [results, Try.results141, go_sem]) rfl ⟨_, _, _, rfl, wres_up_no HN.out p, (Below.refl _ _).alloc (Nat.le_refl _) _⟩
    · have q : wrap64 x = x := by unfold wrap64; omega
      go_enter Try.func141, Try.ntmps141
      go_wp2
      refine bodyPost_ret (v := .tuple #[.agg #[.int .i64 x, .int .u64 y], .bool true]) (by simp [results, Try.results141, go_sem]) rfl ⟨_, _, _, rfl, wres_up HN.out (by omega), (Below.refl _ _).alloc (Nat.le_refl _) _⟩
  · have W := wres_down hn0 (Bits.bor 0 y 0) (by unfold Bits.bor; split <;> omega) _ rfl
    have HW := hid W
    clear W hn0
    go_enter Try.func141, Try.ntmps141
    go_wp2_with (first | simp only [Bits.sub64_0 _ _ (Int.le_refl 0) n3 n4'] | simp only [Bits.sub64 _ _ _ (Int.le_refl 0) n1 n2' k0 k1])
    all_goals refine bodyPost_ret (v := .tuple #[.agg #[.int .i64 _, .int .u64 _], .bool _]) (by simp [results, Try.results141, go_sem]; exact ⟨⟨rfl, rfl⟩, rfl⟩) rfl ⟨_, _, _, rfl, ?_, ((Below.refl _ _).alloc (Nat.le_refl _) _).alloc (by simp) _⟩
    all_goals
      have W := HW.out
      clear HW
      revert W
      generalize wrap64 ((-x - Bits.bor 0 y 0) % 18446744073709551616) = s at *
      intro W
    all_goals first
      | exact W.1 (.inl ‹_›)
      | (have e1 : s = 0 := by assumption
         have e2 : -y % 18446744073709551616 = 0 := by assumption
         have e3 := W.1 (.inr ⟨e1, e2⟩)
         rw [e1, e2] at e3
         exact e3)
      | exact W.2 ‹_› (fun hh => absurd hh.1 ‹_›)
      | exact W.2 ‹_› (fun hh => absurd hh.2 ‹_›)

end Go.Proofs.Ytcnmobehamgmbaa
