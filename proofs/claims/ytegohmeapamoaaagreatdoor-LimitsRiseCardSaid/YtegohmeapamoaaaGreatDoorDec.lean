/- Plain facts on decimal texts: nothing of the program. -/
import Derived.Test.YtegohmeapamoaaaGreatDoorLimitsRiseZ0
import Derived.Lib.ItoaNum
namespace Go.Proofs.YtegohmeapamoaaaGreatDoor
open Go.RowKit Go
/-- The last k decimal digits, noughts ahead. -/
def pad : Nat → Nat → List UInt8
  | 0, _ => []
  | k + 1, u => pad k (u / 10) ++ [UInt8.ofNat (48 + u % 10)]
theorem dec_small {u : Nat} (h : u < 10) : Lib.decDigits u = [UInt8.ofNat (48 + u)] := by rw [Lib.decDigits, dif_pos h]
theorem dec_step {u : Nat} (h : ¬ u < 10) : Lib.decDigits u = Lib.decDigits (u / 10) ++ [UInt8.ofNat (48 + u % 10)] := by rw [Lib.decDigits, dif_neg h]
theorem dec_pad : ∀ (k a b : Nat), 0 < a → b < 10 ^ k → Lib.decDigits (a * 10 ^ k + b) = Lib.decDigits a ++ pad k b
  | 0, a, b, _, h => by
    obtain rfl : b = 0 := by simpa using h
    simp [pad]
  | k + 1, a, b, ha, h => by
    have h1 : b / 10 < 10 ^ k := Nat.div_lt_of_lt_mul (by rw [Nat.pow_succ, Nat.mul_comm] at h; exact h)
    have hp : 1 ≤ 10 ^ k := Nat.pow_pos (by decide)
    have hb : ¬ a * 10 ^ (k + 1) + b < 10 := by
      have : 1 * 1 ≤ a * 10 ^ k := Nat.mul_le_mul ha hp
      rw [Nat.pow_succ, ← Nat.mul_assoc]; omega
    have e1 : (a * 10 ^ (k + 1) + b) / 10 = a * 10 ^ k + b / 10 := by
      rw [Nat.pow_succ, ← Nat.mul_assoc, Nat.mul_comm _ 10, Nat.mul_add_div (by decide)]
    have e2 : (a * 10 ^ (k + 1) + b) % 10 = b % 10 := by
      rw [Nat.pow_succ, ← Nat.mul_assoc, Nat.mul_comm _ 10, Nat.mul_add_mod]
    rw [dec_step hb, e1, e2, dec_pad k a (b / 10) ha h1, List.append_assoc]; rfl
/-- A padded number is noughts and its numeral. -/
theorem pad_dec : ∀ (k u : Nat), u < 10 ^ (k + 1) → ∃ m, pad (k + 1) u = List.replicate m 48 ++ Lib.decDigits u ∧ m + (Lib.decDigits u).length = k + 1
  | 0, u, h => ⟨0, by
      have hu : u < 10 := by simpa using h
      rw [dec_small hu]
      refine ⟨?_, rfl⟩
      simp [pad, Nat.mod_eq_of_lt hu]⟩
  | k + 1, u, h => by
    by_cases hu : u < 10
    · refine ⟨k + 1, ?_, by rw [dec_small hu]; rfl⟩
      have hz : ∀ j, pad j 0 = List.replicate j (48 : UInt8) := fun j => by
        induction j with
        | zero => rfl
        | succ j ih => rw [List.replicate_succ', ← ih]; rfl
      rw [dec_small hu, ← hz]
      show pad (k + 1) (u / 10) ++ [UInt8.ofNat (48 + u % 10)] = _
      rw [Nat.div_eq_of_lt hu, Nat.mod_eq_of_lt hu]
    · have h1 : u / 10 < 10 ^ (k + 1) := Nat.div_lt_of_lt_mul (by rw [Nat.pow_succ, Nat.mul_comm] at h; exact h)
      obtain ⟨m, e, hm⟩ := pad_dec k (u / 10) h1
      refine ⟨m, ?_, by rw [dec_step hu, List.length_append]; simp; omega⟩
      show pad (k + 1) (u / 10) ++ [UInt8.ofNat (48 + u % 10)] = _
      rw [e, dec_step hu, List.append_assoc]
end Go.Proofs.YtegohmeapamoaaaGreatDoor
