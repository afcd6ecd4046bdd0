/- Plain facts on digits, continued: products. Nothing of the program. -/
import Derived.Test.YtjklcbbanlaicaaDoorDig
namespace Go.Proofs.YtjklcbbanlaicaaDoor
open Go.RowKit

theorem val_set : ∀ (ws : List Int) (j : Nat) (z : Int), j < ws.length → val (ws.set j z) = val ws + 10000 ^ j * (z - dg ws j)
  | [], j, z, h => by simp at h
  | w :: ws, 0, z, _ => by simp [val, dg]; omega
  | w :: ws, j + 1, z, h => by
    have ih := val_set ws j z (by simpa using h)
    have e : dg (w :: ws) (j + 1) = dg ws j := by simp [dg]
    rw [e, List.set_cons_succ]
    simp only [val]
    rw [ih, Int.pow_succ, Int.mul_comm (10000 ^ j) 10000, Int.mul_assoc, Int.mul_add]
    omega
theorem dg_set_same (ws : List Int) (j : Nat) (z : Int) (h : j < ws.length) : dg (ws.set j z) j = z := by simp [dg, List.getD, h]
theorem dg_set_other (ws : List Int) (j k : Nat) (z : Int) (h : j ≠ k) : dg (ws.set j z) k = dg ws k := by simp [dg, List.getD, List.getElem?_set_ne h]
theorem Dg.set {ws : List Int} (h : Dg ws) (j : Nat) {z : Int} (h0 : 0 ≤ z) (h1 : z ≤ 9999) : Dg (ws.set j z) := fun x hx => by
  rcases List.mem_or_eq_of_mem_set hx with h2 | h2
  · exact h x h2
  · subst h2; exact ⟨h0, h1⟩
theorem val_nought (n : Nat) : val (List.replicate n (0 : Int)) = 0 := by
  induction n with
  | zero => rfl
  | succ n ih => rw [List.replicate_succ]; simp [val, ih]
theorem Dg.nought (n : Nat) : Dg (List.replicate n (0 : Int)) := fun x hx => by rw [List.eq_of_mem_replicate hx]; decide
theorem dg_nought (n k : Nat) : dg (List.replicate n (0 : Int)) k = 0 := by
  unfold dg; rw [List.getD, List.getElem?_replicate]; split <;> rfl

/-- A digit more of a row of a product. -/
theorem mul_step {ws ys : List Int} {i k : Nat} {V x cy s : Int} (hl : i + k < ws.length) (h : val ws = V + 10000 ^ i * (x * val (ys.take k)) - 10000 ^ (i + k) * cy) (hs : s = dg ws (i + k) + x * dg ys k + cy) :
    val (ws.set (i + k) (s % 10000)) = V + 10000 ^ i * (x * val (ys.take (k + 1))) - 10000 ^ (i + (k + 1)) * (s / 10000) := by
  rw [val_set _ _ _ hl, h, val_take_succ, ← Nat.add_assoc, Int.pow_succ]
  have e : s % 10000 = s - 10000 * (s / 10000) := by omega
  rw [e, hs]
  generalize (dg ws (i + k) + x * dg ys k + cy) / 10000 = q
  rw [Int.pow_add]
  generalize (10000 : Int) ^ i = P
  generalize (10000 : Int) ^ k = Q
  grind
/-- All digits of a row. -/
theorem mul_row {xs ys ws : List Int} {i k : Nat} {V : Int} (hk : ys.length ≤ k) (h : val ws = V + 10000 ^ i * (dg xs i * val (ys.take k)) - 10000 ^ (i + k) * 0) (hV : V = val (xs.take i) * val ys) :
    val ws = val (xs.take (i + 1)) * val ys := by
  rw [h, hV, val_take_all ys hk, val_take_succ]
  grind

end Go.Proofs.YtjklcbbanlaicaaDoor
