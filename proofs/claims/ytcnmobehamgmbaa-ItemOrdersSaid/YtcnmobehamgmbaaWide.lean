/- The contracts of the package wide. -/
import Derived.Test.YtcnmobehamgmbaaBits
import Derived.Test.YtcnmobehamgmbaaNum
import Derived.Deep.RegionHeld3
import Derived.Deep.QuietTactic
import Derived.BigQuiet
namespace Go.Proofs.Ytcnmobehamgmbaa
open Go.RowKit

set_option maxHeartbeats 400000 in
theorem Wide.add (h1 l1 h2 l2 a b : Int) (ha : IsW h1 l1 a) (hb : IsW h2 l2 b) (w : World) :
    Calls Try.prog 127 #[.agg #[.int .i64 h1, .int .u64 l1], .agg #[.int .i64 h2, .int .u64 l2]] w (WAns (a + b) w) := by
  have W := wres_add ha hb _ rfl
  obtain ⟨a1, a2, a3, a4, a5⟩ := ha
  obtain ⟨b1, b2, b3, b4, b5⟩ := hb
  have HW := hid W
  clear a5 b5 W
  have k0 : 0 ≤ (l1 + l2) / 18446744073709551616 := by omega
  have k1 : (l1 + l2) / 18446744073709551616 ≤ 1 := by omega
  have e1 : 0 ≤ IntKind.u64.wrap h1 := by rw [IntKind.wrap_u64]; omega
  have e2 : 0 ≤ IntKind.u64.wrap h2 := by rw [IntKind.wrap_u64]; omega
  go_enter Try.func127, Try.ntmps127
  go_wp2_with (first | simp only [Bits.add64_0 _ _ a3 b3] | simp only [Bits.add64 _ _ _ e1 e2 k0 k1])
  all_goals refine bodyPost_ret (v := .tuple #[.agg #[.int .i64 _, .int .u64 _], .bool _]) (by simp [results, Try.results127, go_sem]; exact ⟨⟨rfl, rfl⟩, rfl⟩) rfl ⟨_, _, _, rfl, ?_, ((((Below.refl _ _).alloc (Nat.le_refl _) _).alloc (by simp) _).alloc (by simp; omega) _).alloc (by simp; omega) _⟩
  all_goals
    have W := HW.out
    clear HW
    revert W
    generalize wrap64 ((IntKind.u64.wrap h1 + IntKind.u64.wrap h2 + (l1 + l2) / 18446744073709551616) % 18446744073709551616) = s at *
    intro W
    by_cases p : s < 0 <;> by_cases q : h2 < 0 <;> by_cases r : h1 < 0 <;> simp_all

set_option maxHeartbeats 400000 in
theorem Wide.ofN (x : Int) (h0 : -9223372036854775808 ≤ x) (h1 : x ≤ 9223372036854775807) (w : World) :
    Calls Try.prog 142 #[.int .i64 x] w fun e w' => ∃ h l : Int, e = .returned (.agg #[.int .i64 h, .int .u64 l]) ∧ IsW h l x ∧ Below w.heap.size w w' := by
  go_enter Try.func142, Try.ntmps142
  go_wp2
  refine bodyPost_ret (v := .agg #[.int .i64 _, .int .u64 _]) (by simp [results, Try.results142, go_sem]; exact ⟨rfl, rfl⟩) rfl ⟨_, _, rfl, ?_, (Below.refl _ _).alloc (Nat.le_refl _) _⟩
  rw [IntKind.wrap_u64]
  unfold IsW
  omega

set_option maxHeartbeats 400000 in
theorem Wide.ofU (x : Int) (h0 : 0 ≤ x) (h1 : x ≤ 18446744073709551615) (w : World) :
    Calls Try.prog 126 #[.int .u64 x] w fun e w' => e = .returned (.agg #[.int .i64 0, .int .u64 x]) ∧ IsW 0 x x ∧ Below w.heap.size w w' := by
  go_enter Try.func126, Try.ntmps126
  go_wp2
  refine bodyPost_ret (v := .agg #[.int .i64 0, .int .u64 x]) (by simp [results, Try.results126, go_sem]) rfl ⟨rfl, ?_, (Below.refl _ _).alloc (Nat.le_refl _) _⟩
  unfold IsW
  omega

end Go.Proofs.Ytcnmobehamgmbaa

