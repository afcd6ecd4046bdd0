/- Plain arithmetic under math/bits.Div64: the quotient of two words by one, digit by digit of 32 bits. Nothing of the program. -/
import Derived.Lib.BitFns
namespace Go.Proofs.YtegohmeapamoaaaGreatDoor.Knuth
/-- The invariant of the two loops: q is no less than the digit looked for; r is what is left of u; v is the next half-word; the divisor is y1, y0. -/
def K (u v y1 y0 q r : Int) : Prop :=
  0 ≤ q ∧ 0 ≤ r ∧ q * y1 + r = u ∧ u * 4294967296 + v < q * y1 * 4294967296 + q * y0 + y1 * 4294967296 + y0 ∧ q ≤ 4294967297
/-- The divisor: two halves, the upper one with its top bit. -/
def D (y1 y0 : Int) : Prop := 2147483648 ≤ y1 ∧ y1 < 4294967296 ∧ 0 ≤ y0 ∧ y0 < 4294967296
theorem start {u v y1 y0 : Int} (hD : D y1 y0) (hu : 0 ≤ u) (hu' : u < y1 * 4294967296 + y0) (hv : 0 ≤ v) (hv' : v < 4294967296) :
    K u v y1 y0 (u / y1) (u - u / y1 * y1) ∧ u - u / y1 * y1 < 4294967296 := by
  obtain ⟨d1, d2, d3, d4⟩ := hD
  have h1 := Int.ediv_mul_le u (b := y1) (by omega)
  have h2 := Int.lt_ediv_add_one_mul_self u (b := y1) (by omega)
  have h3 : 0 ≤ u / y1 := Int.ediv_nonneg hu (by omega)
  rw [Int.add_mul, Int.one_mul] at h2
  have h4 : 0 ≤ u / y1 * y0 := Int.mul_nonneg h3 d3
  refine ⟨⟨h3, by omega, by omega, by omega, ?_⟩, by omega⟩
  refine Int.le_of_lt_add_one ?_
  refine (Int.ediv_lt_of_lt_mul (by omega) ?_)
  have : (4294967297 + 1) * y1 = 4294967298 * y1 := by omega
  omega
/-- The test holds: one less. -/
theorem step {u v y1 y0 q r : Int} (hD : D y1 y0) (hK : K u v y1 y0 q r) (hu' : u < y1 * 4294967296 + y0) (hv : 0 ≤ v) (hv' : v < 4294967296)
    (h : 4294967296 ≤ q ∨ 4294967296 * r + v < q * y0) : K u v y1 y0 (q - 1) (r + y1) ∧ 1 ≤ q ∧ q - 1 ≤ 4294967296 := by
  obtain ⟨d1, d2, d3, d4⟩ := hD
  obtain ⟨k1, k2, k3, k4, k5⟩ := hK
  have hq : 1 ≤ q := by
    rcases h with h | h
    · omega
    · rcases Int.lt_or_eq_of_le k1 with p | p
      · omega
      · subst p; simp at h; omega
  have e1 : (q - 1) * y1 = q * y1 - y1 := by rw [Int.sub_mul, Int.one_mul]
  have e0 : (q - 1) * y0 = q * y0 - y0 := by rw [Int.sub_mul, Int.one_mul]
  refine ⟨⟨by omega, by omega, by rw [e1]; omega, ?_, by omega⟩, hq, by omega⟩
  rw [e1, e0]
  rcases h with h | h
  · have m1 : 4294967296 * y1 ≤ q * y1 := Int.mul_le_mul_of_nonneg_right h (by omega)
    have m0 : 4294967296 * y0 ≤ q * y0 := Int.mul_le_mul_of_nonneg_right h d3
    omega
  · omega
end Go.Proofs.YtegohmeapamoaaaGreatDoor.Knuth
