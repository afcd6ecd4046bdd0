/- Plain facts on positions that move: nothing of the program. -/
import Derived.Test.YtcnmobehamgmbaaVnum
namespace Go.Proofs.Ytcnmobehamgmbaa
open Go.RowKit

theorem quot_bd {a R W : Int} (h : IsP R W) (a0 : 0 ≤ a) (a1 : a ≤ 4611686018427387904) : 0 ≤ (a + R) / W ∧ (a + R) / W ≤ a + R := by
  obtain ⟨h1, h2, h3, h4⟩ := h
  exact ⟨Int.ediv_nonneg (by omega) (by omega), Int.ediv_le_self _ (by omega)⟩
theorem quot_le {a R W : Int} (h : IsP R W) (a0 : 0 ≤ a) : (a + R) / W ≤ a := by
  obtain ⟨h1, h2, h3, h4⟩ := h
  have e := Int.emod_add_mul_ediv (a + R) W
  have e2 := Int.emod_nonneg (a + R) (show W ≠ 0 by omega)
  have h0 : 0 ≤ (a + R) / W := Int.ediv_nonneg (by omega) (by omega)
  by_cases c : a < (a + R) / W
  · exfalso
    have : W * (a + 1) ≤ W * ((a + R) / W) := Int.mul_le_mul_of_nonneg_left (by omega) (by omega)
    rw [Int.mul_add, Int.mul_one] at this
    have g : 1 * a ≤ W * a := Int.mul_le_mul_of_nonneg_right h1 a0
    omega
  · omega
theorem move_ok {a R W : Int} (h : IsP R W) (a0 : 0 ≤ a) (a1 : a ≤ 4611686018427387904) : AtOk (a + R) W := by
  have := quot_le h a0
  have := (quot_bd h a0 a1).1
  obtain ⟨h1, h2, h3, h4⟩ := h
  exact ⟨h1, h2, by omega, by omega⟩
theorem move_P {a R W : Int} (h : IsP R W) : IsP ((a + R) % W) W := by
  obtain ⟨h1, h2, h3, h4⟩ := h
  exact ⟨h1, h2, Int.emod_nonneg _ (by omega), Int.emod_lt_of_pos _ (by omega)⟩
theorem move_again {T R W a b : Int} (h : IsP R W) : adv (adv T ((a + R) / W)) ((b + (a + R) % W) / W) = adv T ((a + b + R) / W) ∧ (b + (a + R) % W) % W = (a + b + R) % W := by
  have := move_twice a b R (W := W) (by have := h.1; omega)
  rw [adv_adv, this.1, this.2]
  exact ⟨rfl, rfl⟩
theorem move_since {T R W a : Int} (h : IsP R W) (a0 : 0 ≤ a) (a1 : a ≤ 2305843009213693952) : dif (adv T ((a + R) / W)) T = (a + R) / W := by
  have := quot_le h a0
  have := (quot_bd h a0 (by omega)).1
  exact dif_adv T (by omega) (by omega)
theorem dist_split (a R : Int) (W : Int) : (a + R) % W = a + R - W * ((a + R) / W) := by
  have := Int.emod_add_mul_ediv (a + R) W; omega
theorem move_cmp {T R S W U a : Int} (h : IsP R W) (g : IsP S W) (a0 : 0 ≤ a) (a1 : a ≤ 2305843009213693952) (d0 : -2305843009213693952 < dif U T) (d1 : dif U T < 2305843009213693952) :
    posC (adv U ((a + S) / W)) ((a + S) % W) W (adv T ((a + R) / W)) ((a + R) % W) W = posC U S W T R W := by
  have q0 := quot_le h a0
  have q1 := (quot_bd h a0 (by omega)).1
  have p0 := quot_le g a0
  have p1 := (quot_bd g a0 (by omega)).1
  rw [posC_eq (move_P g) (move_P h), posC_eq g h]
  have e1 : dif T U = -dif U T := dif_anti (by omega)
  have e2 : dif (adv T ((a + R) / W)) (adv U ((a + S) / W)) = dif T U + (a + R) / W - (a + S) / W := by
    have : dif T U = (T - U + 9223372036854775808) % 18446744073709551616 - 9223372036854775808 := rfl
    unfold dif adv
    unfold dif at e1 d0 d1
    omega
  rw [e2, dist_split a R W, dist_split a S W, Int.mul_sub, Int.mul_add]
  generalize W * dif T U = x at *
  generalize W * ((a + R) / W) = y at *
  generalize W * ((a + S) / W) = z at *
  rw [cmpI_less, cmpI_less (S - R)]
  congr 1; omega
theorem move_ahead {T R W a : Int} (h : IsP R W) (a0 : 0 ≤ a) (a1 : a ≤ 2305843009213693952) :
    posC (adv T ((a + R) / W)) ((a + R) % W) W T R W = if 1 ≤ a then 1 else a := by
  rw [posC_eq (move_P h) h]
  have q0 := quot_le h a0
  have q1 := (quot_bd h a0 (by omega)).1
  have e1 : dif T (adv T ((a + R) / W)) = - ((a + R) / W) := by unfold dif adv; omega
  rw [e1, dist_split a R W, cmpI_less, Int.mul_neg]
  generalize W * ((a + R) / W) = y at *
  rw [show a + R - y - R - -y = a by omega]
  by_cases c : 1 ≤ a
  · rw [if_pos c, cmpI_gt (by omega)]
  · rw [if_neg c, show a = 0 by omega, cmpI_eq]

/-- A position is where its distance tells. -/
theorem back_div {d R W : Int} (h : IsP R W) : (d * W + R) / W = d ∧ (d * W + R) % W = R := by
  obtain ⟨h1, h2, h3, h4⟩ := h
  obtain ⟨e1, e2⟩ := div_uniq (q := d) (b := W) (r := R) rfl h3 h4
  exact ⟨e1.symm, e2.symm⟩
theorem back_ok {d R W : Int} (h : IsP R W) (d0 : -9223372036854775808 ≤ d) (d1 : d ≤ 9223372036854775807) : AtOk (d * W + R) W := by
  unfold AtOk; rw [(back_div h).1]; exact ⟨h.1, h.2.1, d0, d1⟩
theorem one_div {R W : Int} (h : IsP R W) : (W + R) / W = 1 ∧ (W + R) % W = R := by
  have := back_div (d := 1) h
  rwa [Int.one_mul] at this
theorem posC_self (t r w : Int) : posC t r w t r w = 0 := by
  unfold posC; rw [dif_self, if_neg (by omega), cmpI_eq]
theorem posC_next (t r w s v : Int) : posC t r w (adv t 1) s v = -1 := by
  unfold posC
  rw [dif_adv t (by omega) (by omega), if_pos (by omega), cmpI_lt (by omega)]

end Go.Proofs.Ytcnmobehamgmbaa
