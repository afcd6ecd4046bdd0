/- Texts of DtreeShifts's proof, together. -/
import Derived.Test.YtmklbmiddeonkaaDtreeShiftsZ2
namespace Go.Proofs.Ytmklbmiddeonkaa
/- Plain facts on times that go round, and on positions: nothing of the program. -/
section
open Go.RowKit

/-- A time. -/
def IsT (t : Int) : Prop := 0 ≤ t ∧ t ≤ 18446744073709551615
/-- The difference of two times. -/
def dif (t u : Int) : Int := (t - u + 9223372036854775808) % 18446744073709551616 - 9223372036854775808
/-- A time so much later. -/
def adv (t d : Int) : Int := (t + d) % 18446744073709551616
theorem dif_bd (t u : Int) : -9223372036854775808 ≤ dif t u ∧ dif t u ≤ 9223372036854775807 := by unfold dif; omega
theorem adv_T (t d : Int) : IsT (adv t d) := by unfold IsT adv; omega
theorem dif_self (t : Int) : dif t t = 0 := by unfold dif; omega
theorem dif_adv (t : Int) {d : Int} (h0 : -9223372036854775808 ≤ d) (h1 : d ≤ 9223372036854775807) : dif (adv t d) t = d := by unfold dif adv; omega
theorem dif_near (t : Int) {d e : Int} (h0 : -9223372036854775808 ≤ d - e) (h1 : d - e ≤ 9223372036854775807) : dif (adv t d) (adv t e) = d - e := by unfold dif adv; omega
theorem adv_adv (t d e : Int) : adv (adv t d) e = adv t (d + e) := by unfold adv; omega
theorem adv_comm (t d e : Int) : adv (adv t d) e = adv (adv t e) d := by unfold adv; omega
theorem adv_zero {t : Int} (h : IsT t) : adv t 0 = t := by unfold IsT at h; unfold adv; omega
theorem adv_dif {t u : Int} (h : IsT t) : adv u (dif t u) = t := by unfold IsT at h; unfold adv dif; omega
theorem dif_anti {t u : Int} (h : dif t u ≠ -9223372036854775808) : dif u t = -dif t u := by unfold dif at *; omega
theorem dif_sum {t u v : Int} (h0 : -9223372036854775808 ≤ dif t u + dif u v) (h1 : dif t u + dif u v ≤ 9223372036854775807) : dif t v = dif t u + dif u v := by unfold dif at *; omega

/-- The first of several: one by one. -/
def fstep (t u : Int) : Int := if dif u t < 0 then u else t
def lstep (t u : Int) : Int := if dif t u < 0 then u else t
def firstL (t : Int) (zs : List Int) : Int := zs.foldl fstep t
def lastL (t : Int) (zs : List Int) : Int := zs.foldl lstep t
theorem take_step {f : Int → Int → Int} {t : Int} {zs : List Int} {k : Nat} (hk : k < zs.length) : (zs.take (k + 1)).foldl f t = f ((zs.take k).foldl f t) (zs.getD k 0) := by
  have e : zs.getD k 0 = zs[k] := by simp [List.getD, hk]
  rw [List.take_succ_eq_append_getElem hk, List.foldl_append, e]; rfl
theorem fstep_T {t u : Int} (h : IsT t) (g : IsT u) : IsT (fstep t u) := by unfold fstep; split <;> assumption
theorem lstep_T {t u : Int} (h : IsT t) (g : IsT u) : IsT (lstep t u) := by unfold lstep; split <;> assumption
theorem fold_T {f : Int → Int → Int} (hf : ∀ {t u}, IsT t → IsT u → IsT (f t u)) : ∀ (zs : List Int) {t : Int}, IsT t → (∀ z ∈ zs, 0 ≤ z ∧ z ≤ 18446744073709551615) → IsT (zs.foldl f t)
  | [], _, h, _ => h
  | z :: zs, _, h, hz => fold_T hf zs (hf h (hz z (by simp))) (fun x hx => hz x (by simp [hx]))

/-- A position that may be. -/
def IsP (R W : Int) : Prop := 1 ≤ W ∧ W ≤ 1048576 ∧ 0 ≤ R ∧ R < W
/-- Is there the position of the distance d, and the weight w? -/
def AtOk (d w : Int) : Prop := 1 ≤ w ∧ w ≤ 1048576 ∧ -9223372036854775808 ≤ d / w ∧ d / w ≤ 9223372036854775807
theorem div_uniq {q b r a : Int} (h : q * b + r = a) (r0 : 0 ≤ r) (r1 : r < b) : q = a / b ∧ r = a % b := by
  have hb : 0 < b := by omega
  have e : a = r + b * q := by rw [Int.mul_comm b q]; omega
  constructor
  · rw [e, Int.add_mul_ediv_left _ _ (by omega), Int.ediv_eq_zero_of_lt r0 r1]; omega
  · rw [e, Int.add_mul_emod_self_left, Int.emod_eq_of_lt r0 r1]
/-- Moved in two parts, or at once. -/
theorem move_twice (a b R : Int) {W : Int} (hW : 0 < W) : (a + b + R) / W = (a + R) / W + (b + (a + R) % W) / W ∧ (a + b + R) % W = (b + (a + R) % W) % W := by
  have h1 := Int.emod_add_mul_ediv (a + R) W
  have h2 := Int.emod_add_mul_ediv (b + (a + R) % W) W
  have h3 := Int.emod_nonneg (b + (a + R) % W) (show W ≠ 0 by omega)
  have h4 := Int.emod_lt_of_pos (b + (a + R) % W) hW
  have := div_uniq (q := (a + R) / W + (b + (a + R) % W) / W) (b := W) (r := (b + (a + R) % W) % W) (a := a + b + R) (by rw [Int.add_mul, Int.mul_comm ((a + R) / W) W, Int.mul_comm ((b + (a + R) % W) / W) W]; omega) h3 h4
  exact ⟨this.1.symm, this.2.symm⟩
/-- Which is ahead, of two at the times t, u from one base. -/
def posC (t r w u s v : Int) : Int := if dif u t ≠ 0 then cmpI 0 (dif u t) else cmpI (r * v) (s * w)
theorem cmpI_less (a b : Int) : cmpI a b = cmpI (a - b) 0 := by
  unfold cmpI; split <;> split <;> (try split) <;> (try split) <;> omega
/-- Of one weight the order is that of the distances. -/
theorem posC_eq {t u r s w : Int} (hr : IsP r w) (hs : IsP s w) : posC t r w u s w = cmpI (r - s) (w * dif u t) := by
  obtain ⟨h1, h2, h3, h4⟩ := hr
  obtain ⟨g1, g2, g3, g4⟩ := hs
  unfold posC
  generalize dif u t = d
  by_cases h : d = 0
  · subst h
    rw [if_neg (by omega), Int.mul_zero]
    rcases Int.lt_trichotomy r s with h | h | h
    · rw [cmpI_lt (Int.mul_lt_mul_of_pos_right h (by omega)), cmpI_lt (by omega)]
    · subst h; rw [cmpI_eq, Int.sub_self, cmpI_eq]
    · rw [cmpI_gt (Int.mul_lt_mul_of_pos_right h (by omega)), cmpI_gt (by omega)]
  · rw [if_pos h]
    rcases Int.lt_trichotomy d 0 with h | h | h
    · have : w * d ≤ w * -1 := Int.mul_le_mul_of_nonneg_left (by omega) (by omega)
      rw [cmpI_gt h, cmpI_gt (by omega)]
    · contradiction
    · have : w * 1 ≤ w * d := Int.mul_le_mul_of_nonneg_left (by omega) (by omega)
      rw [cmpI_lt h, cmpI_lt (by omega)]
end

/- Plain facts on positions that move: nothing of the program. -/
section
open Go.RowKit

theorem quot_bd {a R W : Int} (h : IsP R W) (a0 : 0 ≤ a) (a1 : a ≤ 4611686018427387904) : 0 ≤ (a + R) / W ∧ (a + R) / W ≤ a + R := by
  obtain ⟨h1, h2, h3, h4⟩ := h
  exact ⟨Int.ediv_nonneg (by omega) (by omega), Int.ediv_le_self _ (by omega)⟩
theorem quot_le {a R W : Int} (h : IsP R W) (a0 : 0 ≤ a) : (a + R) / W ≤ a := by
  obtain ⟨h1, h2, h3, h4⟩ := h
  have e := Int.emod_add_mul_ediv (a + R) W
  have e2 := Int.emod_nonneg (a + R) (show W ≠ 0 by omega)
  have h0 : 0 ≤ (a + R) / W := Int.ediv_nonneg (by omega) (by omega)
  by_cases c : a < (a + R) / W
  · exfalso
    have : W * (a + 1) ≤ W * ((a + R) / W) := Int.mul_le_mul_of_nonneg_left (by omega) (by omega)
    rw [Int.mul_add, Int.mul_one] at this
    have g : 1 * a ≤ W * a := Int.mul_le_mul_of_nonneg_right h1 a0
    omega
  · omega
theorem move_ok {a R W : Int} (h : IsP R W) (a0 : 0 ≤ a) (a1 : a ≤ 4611686018427387904) : AtOk (a + R) W := by
  have := quot_le h a0
  have := (quot_bd h a0 a1).1
  obtain ⟨h1, h2, h3, h4⟩ := h
  exact ⟨h1, h2, by omega, by omega⟩
theorem move_P {a R W : Int} (h : IsP R W) : IsP ((a + R) % W) W := by
  obtain ⟨h1, h2, h3, h4⟩ := h
  exact ⟨h1, h2, Int.emod_nonneg _ (by omega), Int.emod_lt_of_pos _ (by omega)⟩
theorem move_again {T R W a b : Int} (h : IsP R W) : adv (adv T ((a + R) / W)) ((b + (a + R) % W) / W) = adv T ((a + b + R) / W) ∧ (b + (a + R) % W) % W = (a + b + R) % W := by
  have := move_twice a b R (W := W) (by have := h.1; omega)
  rw [adv_adv, this.1, this.2]
  exact ⟨rfl, rfl⟩
theorem move_since {T R W a : Int} (h : IsP R W) (a0 : 0 ≤ a) (a1 : a ≤ 2305843009213693952) : dif (adv T ((a + R) / W)) T = (a + R) / W := by
  have := quot_le h a0
  have := (quot_bd h a0 (by omega)).1
  exact dif_adv T (by omega) (by omega)
theorem dist_split (a R : Int) (W : Int) : (a + R) % W = a + R - W * ((a + R) / W) := by
  have := Int.emod_add_mul_ediv (a + R) W; omega
theorem move_cmp {T R S W U a : Int} (h : IsP R W) (g : IsP S W) (a0 : 0 ≤ a) (a1 : a ≤ 2305843009213693952) (d0 : -2305843009213693952 < dif U T) (d1 : dif U T < 2305843009213693952) :
    posC (adv U ((a + S) / W)) ((a + S) % W) W (adv T ((a + R) / W)) ((a + R) % W) W = posC U S W T R W := by
  have q0 := quot_le h a0
  have q1 := (quot_bd h a0 (by omega)).1
  have p0 := quot_le g a0
  have p1 := (quot_bd g a0 (by omega)).1
  rw [posC_eq (move_P g) (move_P h), posC_eq g h]
  have e1 : dif T U = -dif U T := dif_anti (by omega)
  have e2 : dif (adv T ((a + R) / W)) (adv U ((a + S) / W)) = dif T U + (a + R) / W - (a + S) / W := by
    have : dif T U = (T - U + 9223372036854775808) % 18446744073709551616 - 9223372036854775808 := rfl
    unfold dif adv
    unfold dif at e1 d0 d1
    omega
  rw [e2, dist_split a R W, dist_split a S W, Int.mul_sub, Int.mul_add]
  generalize W * dif T U = x at *
  generalize W * ((a + R) / W) = y at *
  generalize W * ((a + S) / W) = z at *
  rw [cmpI_less, cmpI_less (S - R)]
  congr 1; omega
theorem move_ahead {T R W a : Int} (h : IsP R W) (a0 : 0 ≤ a) (a1 : a ≤ 2305843009213693952) :
    posC (adv T ((a + R) / W)) ((a + R) % W) W T R W = if 1 ≤ a then 1 else a := by
  rw [posC_eq (move_P h) h]
  have q0 := quot_le h a0
  have q1 := (quot_bd h a0 (by omega)).1
  have e1 : dif T (adv T ((a + R) / W)) = - ((a + R) / W) := by unfold dif adv; omega
  rw [e1, dist_split a R W, cmpI_less, Int.mul_neg]
  generalize W * ((a + R) / W) = y at *
  rw [show a + R - y - R - -y = a by omega]
  by_cases c : 1 ≤ a
  · rw [if_pos c, cmpI_gt (by omega)]
  · rw [if_neg c, show a = 0 by omega, cmpI_eq]

/-- A position is where its distance tells. -/
theorem back_div {d R W : Int} (h : IsP R W) : (d * W + R) / W = d ∧ (d * W + R) % W = R := by
  obtain ⟨h1, h2, h3, h4⟩ := h
  obtain ⟨e1, e2⟩ := div_uniq (q := d) (b := W) (r := R) rfl h3 h4
  exact ⟨e1.symm, e2.symm⟩
theorem back_ok {d R W : Int} (h : IsP R W) (d0 : -9223372036854775808 ≤ d) (d1 : d ≤ 9223372036854775807) : AtOk (d * W + R) W := by
  unfold AtOk; rw [(back_div h).1]; exact ⟨h.1, h.2.1, d0, d1⟩
theorem one_div {R W : Int} (h : IsP R W) : (W + R) / W = 1 ∧ (W + R) % W = R := by
  have := back_div (d := 1) h
  rwa [Int.one_mul] at this
theorem posC_self (t r w : Int) : posC t r w t r w = 0 := by
  unfold posC; rw [dif_self, if_neg (by omega), cmpI_eq]
theorem posC_next (t r w s v : Int) : posC t r w (adv t 1) s v = -1 := by
  unfold posC
  rw [dif_adv t (by omega) (by omega), if_pos (by omega), cmpI_lt (by omega)]
end

end Go.Proofs.Ytmklbmiddeonkaa
