/- The contracts of the package wide, continued: the product. -/
import Derived.Test.YtcnmobehamgmbaaWideB
namespace Go.Proofs.Ytcnmobehamgmbaa
open Go.RowKit

theorem absI_mul (a b : Int) : absI a * absI b = absI (a * b) := by
  unfold absI
  by_cases p : a < 0 <;> by_cases q : b < 0
  · have : 0 < a * b := Int.mul_pos_of_neg_of_neg p q
    rw [if_pos p, if_pos q, if_neg (by omega)]
    simp [Int.neg_mul_neg]
  · rcases Int.lt_or_eq_of_le (show 0 ≤ b by omega) with r | r
    · have : a * b < 0 := Int.mul_neg_of_neg_of_pos p r
      rw [if_pos p, if_neg q, if_pos (by omega)]
      simp [Int.neg_mul]
    · subst r; simp
  · rcases Int.lt_or_eq_of_le (show 0 ≤ a by omega) with r | r
    · have : a * b < 0 := Int.mul_neg_of_pos_of_neg r q
      rw [if_neg p, if_pos q, if_pos (by omega)]
      simp [Int.mul_neg]
    · subst r; simp
  · have : 0 ≤ a * b := Int.mul_nonneg (by omega) (by omega)
    rw [if_neg p, if_neg q, if_neg (by omega)]

theorem sgn_mul (a b : Int) (s : Bool) (hs : s = (decide (a < 0) != decide (b < 0))) : (if s then -(absI a * absI b) else absI a * absI b) = a * b := by
  subst hs
  unfold absI
  by_cases p : a < 0 <;> by_cases q : b < 0 <;> simp [p, q, Int.neg_mul, Int.mul_neg]

/-- The size of a product out of four products of words. -/
theorem isSz_mul {h l y A : Int} (hA : IsSz h l A) (B : Int) (hB : y = B) {ov lo tp mi : Int} (e1 : ov * 18446744073709551616 + lo = l * y) (e2 : tp * 18446744073709551616 + mi = h * y)
    (o0 : 0 ≤ ov) (o1 : ov < 18446744073709551616) (l0 : 0 ≤ lo) (l1 : lo < 18446744073709551616) (t0 : 0 ≤ tp) (m0 : 0 ≤ mi) (m1 : mi < 18446744073709551616) :
    (tp = 0 → (mi + ov) / 18446744073709551616 = 0 → IsSz ((mi + ov) % 18446744073709551616) lo (A * B)) ∧
    ((0 < tp ∨ 0 < (mi + ov) / 18446744073709551616) → 340282366920938463463374607431768211456 ≤ A * B) := by
  subst hB
  obtain ⟨a1, a2, a3, a4, a5⟩ := hA
  have e : A * y = h * y * 18446744073709551616 + l * y := by
    rw [← a5, Int.add_mul, Int.mul_right_comm]
  rw [e, ← e1, ← e2]
  refine ⟨fun p q => ?_, fun p => ?_⟩
  · unfold IsSz
    omega
  · omega

theorem not_wr_of_abs {n : Int} (h : 340282366920938463463374607431768211456 ≤ absI n) : ¬ WR n := by
  unfold absI at h; unfold WR; split at h <;> omega

set_option maxHeartbeats 1000000 in
theorem Wide.mul (h1 l1 b a : Int) (ha : IsW h1 l1 a) (b0 : -9223372036854775808 ≤ b) (b1 : b ≤ 9223372036854775807) (w : World) :
    Calls Try.prog 147 #[.agg #[.int .i64 h1, .int .u64 l1], .int .i64 b] w (WAns (a * b) w) := by
  have sg : decide (h1 < 0) = decide (a < 0) := by obtain ⟨a1, a2, a3, a4, a5⟩ := ha; simp only [decide_eq_decide]; omega
  have SG := hid sg
  have HA := hid ha
  clear sg ha
  go_enter Try.func147, Try.ntmps147
  go_wp2_with fail
  refine (Wide.size _ _ _ HA.out _).mono ?_
  rintro e w1 ⟨h, l, rfl, ⟨hsz, hh⟩, hb⟩
  obtain ⟨hc, hf⟩ := bcell hb
  have hs : w.heap.size + 1 < w1.heap.size := by have := hb.size; simp at this; omega
  have HSZ := hid hsz
  obtain ⟨n1, n2, n3, n4, n5⟩ := hsz
  clear n5
  go_wp2_with fail
  refine (Wide.size64 b b0 b1 _).mono ?_
  rintro e w' ⟨y, rfl, ⟨hy, hy0, hy1⟩, rfl⟩
  have HY := hid hy
  clear hy
  go_wp2_with fail
  refine (Bits.mul64 l y n3 (by omega) hy0 (by omega) _).mono ?_
  rintro e w' ⟨⟨ov, lo, rfl, e1, o0, o1, l0, l1'⟩, rfl⟩
  have E1 := hid e1
  clear e1
  go_wp2_with fail
  refine (Wide.size64 b b0 b1 _).mono ?_
  rintro e w' ⟨y2, rfl, ⟨hy2, _, _⟩, rfl⟩
  obtain rfl : y2 = y := by rw [hy2, HY.out]
  clear hy2
  go_wp2_with fail
  refine (Bits.mul64 h y2 n1 (by omega) hy0 (by omega) _).mono ?_
  rintro e w' ⟨⟨tp, mi, rfl, e2, t0, t1, m0, m1⟩, rfl⟩
  have E2 := hid e2
  clear e2
  have M := isSz_mul HSZ.out (absI b) HY.out E1.out E2.out o0 o1 l0 l1' t0 m0 m1
  have HM := hid M
  clear M
  have k0 : 0 ≤ (mi + ov) / 18446744073709551616 := by omega
  go_wp2_with (first | simp only [Bits.add64_0 _ _ m0 o0])
  · have p : ((mi + ov) / 18446744073709551616 != 0) = true := by assumption
    have q : tp = 0 := by assumption
    refine bodyPost_ret (v := .tuple #[.agg #[.int .i64 0, .int .u64 0], .bool false]) (by simp [results, Try.results147, go_sem, hc]) rfl ⟨_, _, _, rfl, .inr ⟨rfl, ?_, rfl, rfl⟩, ?_⟩
    · have p' : (mi + ov) / 18446744073709551616 ≠ 0 := by simpa using p
      have := HM.out.2 (.inr (by omega))
      rw [absI_mul] at this
      exact not_wr_of_abs this
    · exact (((((Below.refl _ _).alloc (Nat.le_refl _) _).alloc (by simp) _).trans (hb.mono (by simp; omega))).setCell (by simp) _).setCell (by simp) _
  · have p : ((mi + ov) / 18446744073709551616 != 0) = false := by assumption
    have q : tp = 0 := by assumption
    have p' : (mi + ov) / 18446744073709551616 = 0 := by simpa using p
    have HZ := hid (HM.out.1 q p')
    have HS := hid (sgn_mul a b _ rfl)
    refine (Wide.signed _ _ _ _ HZ.out _).mono ?_
    rintro e w2 ⟨h', l', ok, rfl, hr, hb2⟩
    have hr2 : WRes h' l' ok (a * b) := by rw [← HS.out, ← SG.out]; simpa using hr
    have HR := hid hr2
    clear hr hr2 p q p'
    obtain ⟨hc2, hf2⟩ := bcell hb2
    have hs2 : w.heap.size + 1 < w2.heap.size := by have := hb2.size; omega
    go_wp2
    refine bodyPost_ret (v := .tuple #[.agg #[.int .i64 h', .int .u64 l'], .bool ok]) (by simp [results, Try.results147, go_sem, hc, hs, hc2]) rfl ⟨_, _, _, rfl, HR.out, ?_⟩
    exact ((((((Below.refl _ _).alloc (Nat.le_refl _) _).alloc (by simp) _).trans (hb.mono (by simp; omega))).trans (hb2.mono (by omega))).setCell (by simp) _).setCell (by simp) _
  · have q : ¬ tp = 0 := by assumption
    refine bodyPost_ret (v := .tuple #[.agg #[.int .i64 0, .int .u64 0], .bool false]) (by simp [results, Try.results147, go_sem, hc]) rfl ⟨_, _, _, rfl, .inr ⟨rfl, ?_, rfl, rfl⟩, ?_⟩
    · have := HM.out.2 (.inl (by omega))
      rw [absI_mul] at this
      exact not_wr_of_abs this
    · exact (((((Below.refl _ _).alloc (Nat.le_refl _) _).alloc (by simp) _).trans (hb.mono (by simp; omega))).setCell (by simp) _).setCell (by simp) _

end Go.Proofs.Ytcnmobehamgmbaa
