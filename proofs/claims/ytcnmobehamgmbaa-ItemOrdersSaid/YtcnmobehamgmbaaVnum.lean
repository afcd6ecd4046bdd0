/- Plain facts on times that go round, and on positions: nothing of the program. -/
import Derived.Test.YtcnmobehamgmbaaNum
namespace Go.Proofs.Ytcnmobehamgmbaa
open Go.RowKit

/-- A time. -/
def IsT (t : Int) : Prop := 0 ≤ t ∧ t ≤ 18446744073709551615
/-- The difference of two times. -/
def dif (t u : Int) : Int := (t - u + 9223372036854775808) % 18446744073709551616 - 9223372036854775808
/-- A time so much later. -/
def adv (t d : Int) : Int := (t + d) % 18446744073709551616
theorem dif_bd (t u : Int) : -9223372036854775808 ≤ dif t u ∧ dif t u ≤ 9223372036854775807 := by unfold dif; omega
theorem adv_T (t d : Int) : IsT (adv t d) := by unfold IsT adv; omega
theorem dif_self (t : Int) : dif t t = 0 := by unfold dif; omega
theorem dif_adv (t : Int) {d : Int} (h0 : -9223372036854775808 ≤ d) (h1 : d ≤ 9223372036854775807) : dif (adv t d) t = d := by unfold dif adv; omega
theorem dif_near (t : Int) {d e : Int} (h0 : -9223372036854775808 ≤ d - e) (h1 : d - e ≤ 9223372036854775807) : dif (adv t d) (adv t e) = d - e := by unfold dif adv; omega
theorem adv_adv (t d e : Int) : adv (adv t d) e = adv t (d + e) := by unfold adv; omega
theorem adv_comm (t d e : Int) : adv (adv t d) e = adv (adv t e) d := by unfold adv; omega
theorem adv_zero {t : Int} (h : IsT t) : adv t 0 = t := by unfold IsT at h; unfold adv; omega
theorem adv_dif {t u : Int} (h : IsT t) : adv u (dif t u) = t := by unfold IsT at h; unfold adv dif; omega
theorem dif_anti {t u : Int} (h : dif t u ≠ -9223372036854775808) : dif u t = -dif t u := by unfold dif at *; omega
theorem dif_sum {t u v : Int} (h0 : -9223372036854775808 ≤ dif t u + dif u v) (h1 : dif t u + dif u v ≤ 9223372036854775807) : dif t v = dif t u + dif u v := by unfold dif at *; omega

/-- The first of several: one by one. -/
def fstep (t u : Int) : Int := if dif u t < 0 then u else t
def lstep (t u : Int) : Int := if dif t u < 0 then u else t
def firstL (t : Int) (zs : List Int) : Int := zs.foldl fstep t
def lastL (t : Int) (zs : List Int) : Int := zs.foldl lstep t
theorem take_step {f : Int → Int → Int} {t : Int} {zs : List Int} {k : Nat} (hk : k < zs.length) : (zs.take (k + 1)).foldl f t = f ((zs.take k).foldl f t) (zs.getD k 0) := by
  have e : zs.getD k 0 = zs[k] := by simp [List.getD, hk]
  rw [List.take_succ_eq_append_getElem hk, List.foldl_append, e]; rfl
theorem fstep_T {t u : Int} (h : IsT t) (g : IsT u) : IsT (fstep t u) := by unfold fstep; split <;> assumption
theorem lstep_T {t u : Int} (h : IsT t) (g : IsT u) : IsT (lstep t u) := by unfold lstep; split <;> assumption
theorem fold_T {f : Int → Int → Int} (hf : ∀ {t u}, IsT t → IsT u → IsT (f t u)) : ∀ (zs : List Int) {t : Int}, IsT t → (∀ z ∈ zs, 0 ≤ z ∧ z ≤ 18446744073709551615) → IsT (zs.foldl f t)
  | [], _, h, _ => h
  | z :: zs, _, h, hz => fold_T hf zs (hf h (hz z (by simp))) (fun x hx => hz x (by simp [hx]))

/-- A position that may be. -/
def IsP (R W : Int) : Prop := 1 ≤ W ∧ W ≤ 1048576 ∧ 0 ≤ R ∧ R < W
/-- Is there the position of the distance d, and the weight w? -/
def AtOk (d w : Int) : Prop := 1 ≤ w ∧ w ≤ 1048576 ∧ -9223372036854775808 ≤ d / w ∧ d / w ≤ 9223372036854775807
theorem div_uniq {q b r a : Int} (h : q * b + r = a) (r0 : 0 ≤ r) (r1 : r < b) : q = a / b ∧ r = a % b := by
  have hb : 0 < b := by omega
  have e : a = r + b * q := by rw [Int.mul_comm b q]; omega
  constructor
  · rw [e, Int.add_mul_ediv_left _ _ (by omega), Int.ediv_eq_zero_of_lt r0 r1]; omega
  · rw [e, Int.add_mul_emod_self_left, Int.emod_eq_of_lt r0 r1]
/-- Moved in two parts, or at once. -/
theorem move_twice (a b R : Int) {W : Int} (hW : 0 < W) : (a + b + R) / W = (a + R) / W + (b + (a + R) % W) / W ∧ (a + b + R) % W = (b + (a + R) % W) % W := by
  have h1 := Int.emod_add_mul_ediv (a + R) W
  have h2 := Int.emod_add_mul_ediv (b + (a + R) % W) W
  have h3 := Int.emod_nonneg (b + (a + R) % W) (show W ≠ 0 by omega)
  have h4 := Int.emod_lt_of_pos (b + (a + R) % W) hW
  have := div_uniq (q := (a + R) / W + (b + (a + R) % W) / W) (b := W) (r := (b + (a + R) % W) % W) (a := a + b + R) (by rw [Int.add_mul, Int.mul_comm ((a + R) / W) W, Int.mul_comm ((b + (a + R) % W) / W) W]; omega) h3 h4
  exact ⟨this.1.symm, this.2.symm⟩
/-- Which is ahead, of two at the times t, u from one base. -/
def posC (t r w u s v : Int) : Int := if dif u t ≠ 0 then cmpI 0 (dif u t) else cmpI (r * v) (s * w)
theorem cmpI_less (a b : Int) : cmpI a b = cmpI (a - b) 0 := by
  unfold cmpI; split <;> split <;> (try split) <;> (try split) <;> omega
/-- Of one weight the order is that of the distances. -/
theorem posC_eq {t u r s w : Int} (hr : IsP r w) (hs : IsP s w) : posC t r w u s w = cmpI (r - s) (w * dif u t) := by
  obtain ⟨h1, h2, h3, h4⟩ := hr
  obtain ⟨g1, g2, g3, g4⟩ := hs
  unfold posC
  generalize dif u t = d
  by_cases h : d = 0
  · subst h
    rw [if_neg (by omega), Int.mul_zero]
    rcases Int.lt_trichotomy r s with h | h | h
    · rw [cmpI_lt (Int.mul_lt_mul_of_pos_right h (by omega)), cmpI_lt (by omega)]
    · subst h; rw [cmpI_eq, Int.sub_self, cmpI_eq]
    · rw [cmpI_gt (Int.mul_lt_mul_of_pos_right h (by omega)), cmpI_gt (by omega)]
  · rw [if_pos h]
    rcases Int.lt_trichotomy d 0 with h | h | h
    · have : w * d ≤ w * -1 := Int.mul_le_mul_of_nonneg_left (by omega) (by omega)
      rw [cmpI_gt h, cmpI_gt (by omega)]
    · contradiction
    · have : w * 1 ≤ w * d := Int.mul_le_mul_of_nonneg_left (by omega) (by omega)
      rw [cmpI_lt h, cmpI_lt (by omega)]

end Go.Proofs.Ytcnmobehamgmbaa
