/- Texts of DtreePlays's proof, together. -/
import Derived.Test.YtbcepkfdlaioaaaGreatBits
import Derived.Test.YtbcepkfdlaioaaaGreatDtreePlaysZ0
import Derived.Deep.RegionHeld3
import Derived.Deep.QuietTactic
import Derived.BigQuiet
namespace Go.Proofs.YtbcepkfdlaioaaaGreat

section
open Go.RowKit
set_option maxHeartbeats 400000 in
theorem Wide.add (h1 l1 h2 l2 a b : Int) (ha : IsW h1 l1 a) (hb : IsW h2 l2 b) (w : World) :
  Calls Tryz.prog 106 #[.agg #[.int .i64 h1, .int .u64 l1], .agg #[.int .i64 h2, .int .u64 l2]] w (WAns (a + b) w) := by
 have W := wres_add ha hb _ rfl
 obtain ⟨a1, a2, a3, a4, a5⟩ := ha
 obtain ⟨b1, b2, b3, b4, b5⟩ := hb
 have HW := hid W
 clear a5 b5 W
 have k0 : 0 ≤ (l1 + l2) / 18446744073709551616 := by omega
 have k1 : (l1 + l2) / 18446744073709551616 ≤ 1 := by omega
 have e1 : 0 ≤ IntKind.u64.wrap h1 := by rw [IntKind.wrap_u64]; omega
 have e2 : 0 ≤ IntKind.u64.wrap h2 := by rw [IntKind.wrap_u64]; omega
 go_enter Tryz.func106, Tryz.ntmps106
 go_wp2_with (first | simp only [Bits.add64_0 _ _ a3 b3] | simp only [Bits.add64 _ _ _ e1 e2 k0 k1])
 all_goals refine bodyPost_ret (v := .tuple #[.agg #[.int .i64 _, .int .u64 _], .bool _]) (by simp [results, Tryz.results106, go_sem]; exact ⟨⟨rfl, rfl⟩, rfl⟩) rfl ⟨_, _, _, rfl, ?_, ((((Below.refl _ _).alloc (Nat.le_refl _) _).alloc (by simp) _).alloc (by simp; omega) _).alloc (by simp; omega) _⟩
 all_goals
  have W := HW.out
  clear HW
  revert W
  generalize wrap64 ((IntKind.u64.wrap h1 + IntKind.u64.wrap h2 + (l1 + l2) / 18446744073709551616) % 18446744073709551616) = s at *
  intro W
  by_cases p : s < 0 <;> by_cases q : h2 < 0 <;> by_cases r : h1 < 0 <;> simp_all
set_option maxHeartbeats 400000 in
theorem Wide.ofN (x : Int) (h0 : -9223372036854775808 ≤ x) (h1 : x ≤ 9223372036854775807) (w : World) :
  Calls Tryz.prog 125 #[.int .i64 x] w fun e w' => ∃ h l : Int, e = .returned (.agg #[.int .i64 h, .int .u64 l]) ∧ IsW h l x ∧ Below w.heap.size w w' := by
 go_enter Tryz.func125, Tryz.ntmps125
 go_wp2
 refine bodyPost_ret (v := .agg #[.int .i64 _, .int .u64 _]) (by simp [results, Tryz.results125, go_sem]; exact ⟨rfl, rfl⟩) rfl ⟨_, _, rfl, ?_, (Below.refl _ _).alloc (Nat.le_refl _) _⟩
 rw [IntKind.wrap_u64]
 unfold IsW
 omega
set_option maxHeartbeats 400000 in
theorem Wide.ofU (x : Int) (h0 : 0 ≤ x) (h1 : x ≤ 18446744073709551615) (w : World) :
  Calls Tryz.prog 105 #[.int .u64 x] w fun e w' => e = .returned (.agg #[.int .i64 0, .int .u64 x]) ∧ IsW 0 x x ∧ Below w.heap.size w w' := by
 go_enter Tryz.func105, Tryz.ntmps105
 go_wp2
 refine bodyPost_ret (v := .agg #[.int .i64 0, .int .u64 x]) (by simp [results, Tryz.results105, go_sem]) rfl ⟨rfl, ?_, (Below.refl _ _).alloc (Nat.le_refl _) _⟩
 unfold IsW
 omega
end


section
open Go.RowKit
set_option maxHeartbeats 400000 in
theorem Wide.size (h1 l1 a : Int) (ha : IsW h1 l1 a) (w : World) :
  Calls Tryz.prog 122 #[.agg #[.int .i64 h1, .int .u64 l1]] w fun e w' =>
   ∃ h l : Int, e = .returned (.tuple #[.int .u64 h, .int .u64 l]) ∧ (IsSz h l (absI a) ∧ h ≤ 9223372036854775808) ∧ Below w.heap.size w w' := by
 have HA := hid ha
 obtain ⟨a1, a2, a3, a4, a5⟩ := ha
 clear a5
 have a4' : l1 < 18446744073709551616 := by omega
 obtain ⟨k0, k1⟩ := Bits.bor_01 0 l1 0
 have e1 : 0 ≤ IntKind.u64.wrap h1 := by rw [IntKind.wrap_u64]; omega
 have e3 : IntKind.u64.wrap h1 < 18446744073709551616 := by rw [IntKind.wrap_u64]; omega
 by_cases p : 0 ≤ h1
 ·have q : IntKind.u64.wrap h1 = h1 := by rw [IntKind.wrap_u64]; omega
  go_enter Tryz.func122, Tryz.ntmps122
  go_wp2
  go_quiet (fail)
  go_wp2
  go_ret2
  exact ⟨_, _, rfl, isSz_pos HA.out p, belowN ((Below.refl _ _).alloc (Nat.le_refl _) _) _⟩
 ·go_enter Tryz.func122, Tryz.ntmps122
  go_wp2_with (first | simp only [Bits.sub64_0 _ _ (Int.le_refl 0) a3 a4'] | simp only [Bits.sub64 _ _ _ (Int.le_refl 0) e1 e3 k0 k1])
  go_ret2
  exact ⟨_, _, rfl, isSz_neg HA.out (by omega) _ (by unfold Bits.bor; split <;> omega), ((Below.refl _ _).alloc (Nat.le_refl _) _)⟩
set_option maxHeartbeats 400000 in
theorem Wide.size64 (x : Int) (h0 : -9223372036854775808 ≤ x) (h1 : x ≤ 9223372036854775807) (w : World) :
  Calls Tryz.prog 132 #[.int .i64 x] w fun e w' => ∃ y : Int, e = .returned (.int .u64 y) ∧ (y = absI x ∧ 0 ≤ y ∧ y ≤ 9223372036854775808) ∧ w = w' := by
 go_enter Tryz.func132, Tryz.ntmps132
 go_wp2
 all_goals go_ret
 all_goals refine ⟨_, rfl, ?_, rfl⟩
 all_goals ((try simp only [IntKind.wrap_u64]); unfold absI; split <;> omega)
set_option maxHeartbeats 400000 in
theorem Wide.signed (s : Bool) (x y n : Int) (hn : IsSz x y n) (w : World) :
  Calls Tryz.prog 124 #[.bool s, .int .u64 x, .int .u64 y] w (WAns (if s then -n else n) w) := by
 have HN := hid hn
 have hn0 := hn
 obtain ⟨n1, n2, n3, n4, n5⟩ := hn
 clear n5
 have n4' : y < 18446744073709551616 := by omega
 have n2' : x < 18446744073709551616 := by omega
 obtain ⟨k0, k1⟩ := Bits.bor_01 0 y 0
 rcases s with _ | _
 ·by_cases p : 9223372036854775807 < x
  ·go_enter Tryz.func124, Tryz.ntmps124
   go_wp2
   refine bodyPost_ret (v := .tuple #[.agg #[.int .i64 0, .int .u64 0], .bool false]) (by simp [results, Tryz.results124, go_sem]) rfl ⟨_, _, _, rfl, wres_up_no HN.out p, (Below.refl _ _).alloc (Nat.le_refl _) _⟩
  ·have q : wrap64 x = x := by unfold wrap64; omega
   go_enter Tryz.func124, Tryz.ntmps124
   go_wp2
   refine bodyPost_ret (v := .tuple #[.agg #[.int .i64 x, .int .u64 y], .bool true]) (by simp [results, Tryz.results124, go_sem]) rfl ⟨_, _, _, rfl, wres_up HN.out (by omega), (Below.refl _ _).alloc (Nat.le_refl _) _⟩
 ·have W := wres_down hn0 (Bits.bor 0 y 0) (by unfold Bits.bor; split <;> omega) _ rfl
  have HW := hid W
  clear W hn0
  go_enter Tryz.func124, Tryz.ntmps124
  go_wp2_with (first | simp only [Bits.sub64_0 _ _ (Int.le_refl 0) n3 n4'] | simp only [Bits.sub64 _ _ _ (Int.le_refl 0) n1 n2' k0 k1])
  all_goals refine bodyPost_ret (v := .tuple #[.agg #[.int .i64 _, .int .u64 _], .bool _]) (by simp [results, Tryz.results124, go_sem]; exact ⟨⟨rfl, rfl⟩, rfl⟩) rfl ⟨_, _, _, rfl, ?_, ((Below.refl _ _).alloc (Nat.le_refl _) _).alloc (by simp) _⟩
  all_goals
   have W := HW.out
   clear HW
   revert W
   generalize wrap64 ((-x - Bits.bor 0 y 0) % 18446744073709551616) = s at *
   intro W
  all_goals first
   | exact W.1 (.inl ‹_›)
   | (have e1 : s = 0 := by assumption
      have e2 : -y % 18446744073709551616 = 0 := by assumption
      have e3 := W.1 (.inr ⟨e1, e2⟩)
      rw [e1, e2] at e3
      exact e3)
   | exact W.2 ‹_› (fun hh => absurd hh.1 ‹_›)
   | exact W.2 ‹_› (fun hh => absurd hh.2 ‹_›)
end


section
open Go.RowKit
theorem absI_mul (a b : Int) : absI a * absI b = absI (a * b) := by
 unfold absI
 by_cases p : a < 0 <;> by_cases q : b < 0
 ·have : 0 < a * b := Int.mul_pos_of_neg_of_neg p q
  rw [if_pos p, if_pos q, if_neg (by omega)]
  simp [Int.neg_mul_neg]
 ·rcases Int.lt_or_eq_of_le (show 0 ≤ b by omega) with r | r
  ·have : a * b < 0 := Int.mul_neg_of_neg_of_pos p r
   rw [if_pos p, if_neg q, if_pos (by omega)]
   simp [Int.neg_mul]
  ·subst r; simp
 ·rcases Int.lt_or_eq_of_le (show 0 ≤ a by omega) with r | r
  ·have : a * b < 0 := Int.mul_neg_of_pos_of_neg r q
   rw [if_neg p, if_pos q, if_pos (by omega)]
   simp [Int.mul_neg]
  ·subst r; simp
 ·have : 0 ≤ a * b := Int.mul_nonneg (by omega) (by omega)
  rw [if_neg p, if_neg q, if_neg (by omega)]
theorem sgn_mul (a b : Int) (s : Bool) (hs : s = (decide (a < 0) != decide (b < 0))) : (if s then -(absI a * absI b) else absI a * absI b) = a * b := by
 subst hs
 unfold absI
 by_cases p : a < 0 <;> by_cases q : b < 0 <;> simp [p, q, Int.neg_mul, Int.mul_neg]
theorem isSz_mul {h l y A : Int} (hA : IsSz h l A) (B : Int) (hB : y = B) {ov lo tp mi : Int} (e1 : ov * 18446744073709551616 + lo = l * y) (e2 : tp * 18446744073709551616 + mi = h * y)
  (o0 : 0 ≤ ov) (o1 : ov < 18446744073709551616) (l0 : 0 ≤ lo) (l1 : lo < 18446744073709551616) (t0 : 0 ≤ tp) (m0 : 0 ≤ mi) (m1 : mi < 18446744073709551616) :
  (tp = 0 → (mi + ov) / 18446744073709551616 = 0 → IsSz ((mi + ov) % 18446744073709551616) lo (A * B)) ∧
  ((0 < tp ∨ 0 < (mi + ov) / 18446744073709551616) → 340282366920938463463374607431768211456 ≤ A * B) := by
 subst hB
 obtain ⟨a1, a2, a3, a4, a5⟩ := hA
 have e : A * y = h * y * 18446744073709551616 + l * y := by
  rw [← a5, Int.add_mul, Int.mul_right_comm]
 rw [e, ← e1, ← e2]
 refine ⟨fun p q => ?_, fun p => ?_⟩
 ·unfold IsSz
  omega
 ·omega
theorem not_wr_of_abs {n : Int} (h : 340282366920938463463374607431768211456 ≤ absI n) : ¬ WR n := by
 unfold absI at h; unfold WR; split at h <;> omega
set_option maxHeartbeats 1000000 in
theorem Wide.mul (h1 l1 b a : Int) (ha : IsW h1 l1 a) (b0 : -9223372036854775808 ≤ b) (b1 : b ≤ 9223372036854775807) (w : World) :
  Calls Tryz.prog 130 #[.agg #[.int .i64 h1, .int .u64 l1], .int .i64 b] w (WAns (a * b) w) := by
 have sg : decide (h1 < 0) = decide (a < 0) := by obtain ⟨a1, a2, a3, a4, a5⟩ := ha; simp only [decide_eq_decide]; omega
 have SG := hid sg
 have HA := hid ha
 clear sg ha
 go_enter Tryz.func130, Tryz.ntmps130
 go_wp2_with fail
 refine (Wide.size _ _ _ HA.out _).mono ?_
 rintro e w1 ⟨h, l, rfl, ⟨hsz, hh⟩, hb⟩
 obtain ⟨hc, hf⟩ := bcell hb
 have hs : w.heap.size + 1 < w1.heap.size := by have := hb.size; simp at this; omega
 have HSZ := hid hsz
 obtain ⟨n1, n2, n3, n4, n5⟩ := hsz
 clear n5
 go_wp2_with fail
 refine (Wide.size64 b b0 b1 _).mono ?_
 rintro e w' ⟨y, rfl, ⟨hy, hy0, hy1⟩, rfl⟩
 have HY := hid hy
 clear hy
 go_wp2_with fail
 refine (Bits.mul64 l y n3 (by omega) hy0 (by omega) _).mono ?_
 rintro e w' ⟨⟨ov, lo, rfl, e1, o0, o1, l0, l1'⟩, rfl⟩
 have E1 := hid e1
 clear e1
 go_wp2_with fail
 refine (Wide.size64 b b0 b1 _).mono ?_
 rintro e w' ⟨y2, rfl, ⟨hy2, _, _⟩, rfl⟩
 obtain rfl : y2 = y := by rw [hy2, HY.out]
 clear hy2
 go_wp2_with fail
 refine (Bits.mul64 h y2 n1 (by omega) hy0 (by omega) _).mono ?_
 rintro e w' ⟨⟨tp, mi, rfl, e2, t0, t1, m0, m1⟩, rfl⟩
 have E2 := hid e2
 clear e2
 have M := isSz_mul HSZ.out (absI b) HY.out E1.out E2.out o0 o1 l0 l1' t0 m0 m1
 have HM := hid M
 clear M
 have k0 : 0 ≤ (mi + ov) / 18446744073709551616 := by omega
 go_wp2_with (first | simp only [Bits.add64_0 _ _ m0 o0])
 ·have p : ((mi + ov) / 18446744073709551616 != 0) = true := by assumption
  have q : tp = 0 := by assumption
  refine bodyPost_ret (v := .tuple #[.agg #[.int .i64 0, .int .u64 0], .bool false]) (by simp [results, Tryz.results130, go_sem, hc]) rfl ⟨_, _, _, rfl, .inr ⟨rfl, ?_, rfl, rfl⟩, ?_⟩
  ·have p' : (mi + ov) / 18446744073709551616 ≠ 0 := by simpa using p
   have := HM.out.2 (.inr (by omega))
   rw [absI_mul] at this
   exact not_wr_of_abs this
  ·exact (((((Below.refl _ _).alloc (Nat.le_refl _) _).alloc (by simp) _).trans (hb.mono (by simp; omega))).setCell (by simp) _).setCell (by simp) _
 ·have p : ((mi + ov) / 18446744073709551616 != 0) = false := by assumption
  have q : tp = 0 := by assumption
  have p' : (mi + ov) / 18446744073709551616 = 0 := by simpa using p
  have HZ := hid (HM.out.1 q p')
  have HS := hid (sgn_mul a b _ rfl)
  refine (Wide.signed _ _ _ _ HZ.out _).mono ?_
  rintro e w2 ⟨h', l', ok, rfl, hr, hb2⟩
  have hr2 : WRes h' l' ok (a * b) := by rw [← HS.out, ← SG.out]; simpa using hr
  have HR := hid hr2
  clear hr hr2 p q p'
  obtain ⟨hc2, hf2⟩ := bcell hb2
  have hs2 : w.heap.size + 1 < w2.heap.size := by have := hb2.size; omega
  go_wp2
  refine bodyPost_ret (v := .tuple #[.agg #[.int .i64 h', .int .u64 l'], .bool ok]) (by simp [results, Tryz.results130, go_sem, hc, hs, hc2]) rfl ⟨_, _, _, rfl, HR.out, ?_⟩
  exact ((((((Below.refl _ _).alloc (Nat.le_refl _) _).alloc (by simp) _).trans (hb.mono (by simp; omega))).trans (hb2.mono (by omega))).setCell (by simp) _).setCell (by simp) _
 ·have q : ¬ tp = 0 := by assumption
  refine bodyPost_ret (v := .tuple #[.agg #[.int .i64 0, .int .u64 0], .bool false]) (by simp [results, Tryz.results130, go_sem, hc]) rfl ⟨_, _, _, rfl, .inr ⟨rfl, ?_, rfl, rfl⟩, ?_⟩
  ·have := HM.out.2 (.inl (by omega))
   rw [absI_mul] at this
   exact not_wr_of_abs this
  ·exact (((((Below.refl _ _).alloc (Nat.le_refl _) _).alloc (by simp) _).trans (hb.mono (by simp; omega))).setCell (by simp) _).setCell (by simp) _
end

end Go.Proofs.YtbcepkfdlaioaaaGreat
