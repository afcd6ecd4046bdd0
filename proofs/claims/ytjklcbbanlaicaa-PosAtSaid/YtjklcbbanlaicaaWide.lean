/- The contracts of the package wide. -/
import Derived.Test.YtjklcbbanlaicaaBits
import Derived.Test.YtjklcbbanlaicaaNum
import Derived.Deep.RegionHeld3
import Derived.Deep.QuietTactic
import Derived.BigQuiet
namespace Go.Proofs.Ytjklcbbanlaicaa
open Go.RowKit

set_option maxHeartbeats 400000 in
theorem Wide.add (h1 l1 h2 l2 a b : Int) (ha : IsW h1 l1 a) (hb : IsW h2 l2 b) (w : World) :
    Calls Try.prog 24 #[.agg #[.int .i64 h1, .int .u64 l1], .agg #[.int .i64 h2, .int .u64 l2]] w (WAns (a + b) w) := by
  have W := wres_add ha hb _ rfl
  obtain ⟨a1, a2, a3, a4, a5⟩ := ha
  obtain ⟨b1, b2, b3, b4, b5⟩ := hb
  have HW := hid W
  clear a5 b5 W
  have k0 : 0 ≤ (l1 + l2) / 18446744073709551616 := by omega
  have k1 : (l1 + l2) / 18446744073709551616 ≤ 1 := by omega
  have e1 : 0 ≤ IntKind.u64.wrap h1 := by rw [IntKind.wrap_u64]; omega
  have e2 : 0 ≤ IntKind.u64.wrap h2 := by rw [IntKind.wrap_u64]; omega
  go_enter Try.func24, Try.ntmps24
  go_wp2_with (first | simp only [Bits.add64_0 _ _ a3 b3] | simp only [Bits.add64 _ _ _ e1 e2 k0 k1])
  all_goals refine bodyPost_ret (v := .tuple #[.agg #[.int .i64 _, .int .u64 _], .bool _]) (by simp [results, Try.results24, go_sem]; exact ⟨⟨rfl, rfl⟩, rfl⟩) rfl ⟨_, _, _, rfl, ?_, ((((Below.refl _ _).alloc (Nat.le_refl _) _).alloc (by simp) _).alloc (by simp; omega) _).alloc (by simp; omega) _⟩
  all_goals
    have W := HW.out
    clear HW
    revert W
    generalize wrap64 ((IntKind.u64.wrap h1 + IntKind.u64.wrap h2 + (l1 + l2) / 18446744073709551616) % 18446744073709551616) = s at *
    intro W
    by_cases p : s < 0 <;> by_cases q : h2 < 0 <;> by_cases r : h1 < 0 <;> simp_all

set_option maxHeartbeats 400000 in
theorem Wide.sub (h1 l1 h2 l2 a b : Int) (ha : IsW h1 l1 a) (hb : IsW h2 l2 b) (w : World) :
    Calls Try.prog 25 #[.agg #[.int .i64 h1, .int .u64 l1], .agg #[.int .i64 h2, .int .u64 l2]] w (WAns (a - b) w) := by
  have W := wres_sub ha hb (Bits.bor l1 l2 0) (by unfold Bits.bor; split <;> omega) _ rfl
  obtain ⟨a1, a2, a3, a4, a5⟩ := ha
  obtain ⟨b1, b2, b3, b4, b5⟩ := hb
  have HW := hid W
  clear a5 b5 W
  have b4' : l2 < 18446744073709551616 := by omega
  obtain ⟨k0, k1⟩ := Bits.bor_01 l1 l2 0
  have e1 : 0 ≤ IntKind.u64.wrap h1 := by rw [IntKind.wrap_u64]; omega
  have e2 : 0 ≤ IntKind.u64.wrap h2 := by rw [IntKind.wrap_u64]; omega
  have e3 : IntKind.u64.wrap h2 < 18446744073709551616 := by rw [IntKind.wrap_u64]; omega
  go_enter Try.func25, Try.ntmps25
  go_wp2_with (first | simp only [Bits.sub64_0 _ _ a3 b3 b4'] | simp only [Bits.sub64 _ _ _ e1 e2 e3 k0 k1])
  all_goals refine bodyPost_ret (v := .tuple #[.agg #[.int .i64 _, .int .u64 _], .bool _]) (by simp [results, Try.results25, go_sem]; exact ⟨⟨rfl, rfl⟩, rfl⟩) rfl ⟨_, _, _, rfl, ?_, ((((Below.refl _ _).alloc (Nat.le_refl _) _).alloc (by simp) _).alloc (by simp; omega) _).alloc (by simp; omega) _⟩
  all_goals
    have W := HW.out
    clear HW
    revert W
    generalize wrap64 ((IntKind.u64.wrap h1 - IntKind.u64.wrap h2 - Bits.bor l1 l2 0) % 18446744073709551616) = s at *
    intro W
    by_cases p : s < 0 <;> by_cases q : h2 < 0 <;> by_cases r : h1 < 0 <;> simp_all

set_option maxHeartbeats 800000 in
theorem Wide.cmp (h1 l1 h2 l2 a b : Int) (ha : IsW h1 l1 a) (hb : IsW h2 l2 b) (w : World) :
    Calls Try.prog 82 #[.agg #[.int .i64 h1, .int .u64 l1], .agg #[.int .i64 h2, .int .u64 l2]] w fun e w' =>
      ∃ c : Int, e = .returned (.int .i64 c) ∧ IsCmp c a b ∧ Below w.heap.size w w' := by
  have HA := hid ha
  have HB := hid hb
  clear ha hb
  by_cases p : h1 = h2
  · subst p
    by_cases q : l1 = l2
    · subst q
      go_enter Try.func82, Try.ntmps82
      go_wp2
      go_ret
      exact ⟨_, rfl, isCmp_eq HA.out HB.out, ((Below.refl _ _).alloc (Nat.le_refl _) _).alloc (by simp) _⟩
    · have q' : (l1 == l2) = false := by simpa using q
      by_cases r : l1 < l2
      · go_enter Try.func82, Try.ntmps82
        go_wp2
        go_ret
        exact ⟨_, rfl, isCmp_lt HA.out HB.out (.inr ⟨rfl, r⟩), ((Below.refl _ _).alloc (Nat.le_refl _) _).alloc (by simp) _⟩
      · go_enter Try.func82, Try.ntmps82
        go_wp2
        go_ret
        exact ⟨_, rfl, isCmp_gt HA.out HB.out (.inr ⟨rfl, by omega⟩), ((Below.refl _ _).alloc (Nat.le_refl _) _).alloc (by simp) _⟩
  · have p' : (h1 == h2) = false := by simpa using p
    by_cases r : h1 < h2
    · go_enter Try.func82, Try.ntmps82
      go_wp2
      go_ret
      exact ⟨_, rfl, isCmp_lt HA.out HB.out (.inl r), ((Below.refl _ _).alloc (Nat.le_refl _) _).alloc (by simp) _⟩
    · go_enter Try.func82, Try.ntmps82
      go_wp2
      go_ret
      exact ⟨_, rfl, isCmp_gt HA.out HB.out (.inl (by omega)), ((Below.refl _ _).alloc (Nat.le_refl _) _).alloc (by simp) _⟩

set_option maxHeartbeats 400000 in
theorem Wide.sign (h1 l1 a : Int) (ha : IsW h1 l1 a) (w : World) :
    Calls Try.prog 28 #[.agg #[.int .i64 h1, .int .u64 l1]] w fun e w' =>
      ∃ c : Int, e = .returned (.int .i64 c) ∧ IsCmp c a 0 ∧ Below w.heap.size w w' := by
  go_enter Try.func28, Try.ntmps28
  go_wp2_with (go_at_call 82; refine (Wide.cmp _ _ _ _ _ _ ha isW_0 _).mono ?_; rintro e w' ⟨c, rfl, hc, hb⟩)
  go_ret
  exact ⟨_, rfl, hc, ((Below.refl _ _).alloc (Nat.le_refl _) _).trans (hb.mono (by simp))⟩

set_option maxHeartbeats 400000 in
theorem Wide.neg (h1 l1 a : Int) (ha : IsW h1 l1 a) (w : World) :
    Calls Try.prog 27 #[.agg #[.int .i64 h1, .int .u64 l1]] w (WAns (0 - a) w) := by
  go_enter Try.func27, Try.ntmps27
  go_wp2_with (go_at_call 25; refine (Wide.sub _ _ _ _ _ _ isW_0 ha _).mono ?_; rintro e w1 ⟨h, l, ok, rfl, hr, hb⟩; obtain ⟨hc, hf⟩ := bcell hb)
  refine bodyPost_ret (v := .tuple #[.agg #[.int .i64 h, .int .u64 l], .bool ok]) (by simp [results, Try.results27, go_sem, hc]) rfl ⟨_, _, _, rfl, hr, ?_⟩
  exact (((((Below.refl _ _).alloc (Nat.le_refl _) _).alloc (by simp) _).trans (hb.mono (by simp; omega))).setCell (by simp) _).setCell (by simp) _

set_option maxHeartbeats 400000 in
theorem Wide.ofN (x : Int) (h0 : -9223372036854775808 ≤ x) (h1 : x ≤ 9223372036854775807) (w : World) :
    Calls Try.prog 66 #[.int .i64 x] w fun e w' => ∃ h l : Int, e = .returned (.agg #[.int .i64 h, .int .u64 l]) ∧ IsW h l x ∧ Below w.heap.size w w' := by
  go_enter Try.func66, Try.ntmps66
  go_wp2
  refine bodyPost_ret (v := .agg #[.int .i64 _, .int .u64 _]) (by simp [results, Try.results66, go_sem]; exact ⟨rfl, rfl⟩) rfl ⟨_, _, rfl, ?_, (Below.refl _ _).alloc (Nat.le_refl _) _⟩
  rw [IntKind.wrap_u64]
  unfold IsW
  omega

set_option maxHeartbeats 400000 in
theorem Wide.ofU (x : Int) (h0 : 0 ≤ x) (h1 : x ≤ 18446744073709551615) (w : World) :
    Calls Try.prog 68 #[.int .u64 x] w fun e w' => e = .returned (.agg #[.int .i64 0, .int .u64 x]) ∧ IsW 0 x x ∧ Below w.heap.size w w' := by
  go_enter Try.func68, Try.ntmps68
  go_wp2
  refine bodyPost_ret (v := .agg #[.int .i64 0, .int .u64 x]) (by simp [results, Try.results68, go_sem]) rfl ⟨rfl, ?_, (Below.refl _ _).alloc (Nat.le_refl _) _⟩
  unfold IsW
  omega

end Go.Proofs.Ytjklcbbanlaicaa

