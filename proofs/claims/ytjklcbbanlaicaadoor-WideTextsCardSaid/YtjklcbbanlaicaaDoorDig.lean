/- Plain facts on digits, continued: sums, differences, which is larger. Nothing of the program. -/
import Derived.Test.YtjklcbbanlaicaaDoorRefB
namespace Go.Proofs.YtjklcbbanlaicaaDoor
open Go.RowKit

theorem dg_lt {zs : List Int} {k : Nat} (hk : k < zs.length) : dg zs k = zs[k] := by unfold dg; simp [List.getD, hk]
theorem dg_ge {zs : List Int} {k : Nat} (hk : zs.length ≤ k) : dg zs k = 0 := by unfold dg; simp [List.getD, List.getElem?_eq_none hk]
theorem Dg.dg {zs : List Int} (h : Dg zs) (k : Nat) : 0 ≤ dg zs k ∧ dg zs k ≤ 9999 := h.getD k
theorem val_take_succ (zs : List Int) (k : Nat) : val (zs.take (k + 1)) = val (zs.take k) + 10000 ^ k * dg zs k := by
  by_cases hk : k < zs.length
  · have := take_snocD hk
    rw [this, val_snoc, List.length_take, show min k zs.length = k by omega]; rfl
  · rw [dg_ge (by omega), List.take_of_length_le (by omega), List.take_of_length_le (by omega)]; simp
theorem val_take_all (zs : List Int) {k : Nat} (hk : zs.length ≤ k) : val (zs.take k) = val zs := by rw [List.take_of_length_le hk]

/-- A digit more of a sum. -/
theorem plus_step {xs ys zs : List Int} {k : Nat} {c : Int} (hl : zs.length = k) (h : val (xs.take k) + val (ys.take k) = val zs + 10000 ^ k * c) :
    val (xs.take (k + 1)) + val (ys.take (k + 1)) = val (zs ++ [(dg xs k + dg ys k + c) % 10000]) + 10000 ^ (k + 1) * ((dg xs k + dg ys k + c) / 10000) := by
  rw [val_take_succ, val_take_succ, val_snoc, hl, Int.pow_succ, Int.mul_assoc]
  have e : (dg xs k + dg ys k + c) = (dg xs k + dg ys k + c) % 10000 + 10000 * ((dg xs k + dg ys k + c) / 10000) := by omega
  have e2 : (10000 : Int) ^ k * (dg xs k + dg ys k + c) = 10000 ^ k * ((dg xs k + dg ys k + c) % 10000) + 10000 ^ k * (10000 * ((dg xs k + dg ys k + c) / 10000)) := by
    rw [← Int.mul_add]; congr 1
  rw [Int.mul_add, Int.mul_add] at e2
  omega
/-- A digit more of a difference. -/
theorem minus_step {xs ys zs : List Int} {k : Nat} {b : Int} (hl : zs.length = k) (h : val (xs.take k) - val (ys.take k) = val zs - 10000 ^ k * b) (d b' : Int) (hd : d = dg xs k - dg ys k - b + 10000 * b') :
    val (xs.take (k + 1)) - val (ys.take (k + 1)) = val (zs ++ [d]) - 10000 ^ (k + 1) * b' := by
  rw [val_take_succ, val_take_succ, val_snoc, hl, hd, Int.pow_succ, Int.mul_assoc, Int.mul_add, Int.mul_sub, Int.mul_sub]
  omega
/-- Behind all digits nothing is borrowed. -/
theorem minus_end {xs ys zs : List Int} {n : Nat} {b : Int} (hx : xs.length ≤ n) (hy : ys.length ≤ n) (hl : zs.length = n) (hd : Dg zs) (h : val (xs.take n) - val (ys.take n) = val zs - 10000 ^ n * b) (hb : b = 0 ∨ b = 1) (hle : val ys ≤ val xs) :
    val zs = val xs - val ys := by
  rw [val_take_all _ hx, val_take_all _ hy] at h
  have h1 := val_lt hd
  rw [hl] at h1
  rcases hb with rfl | rfl
  · simp at h; omega
  · simp at h; omega

theorem val_split (zs : List Int) (k : Nat) : val zs = val (zs.take k) + 10000 ^ (zs.take k).length * val (zs.drop k) := by
  rw [← val_append, List.take_append_drop]
theorem val_of_dg : ∀ {xs ys : List Int}, (∀ j, dg xs j = dg ys j) → val xs = val ys
  | [], [], _ => rfl
  | [], y :: ys, h => by
    have h0 := h 0
    have h1 : val [] = val ys := val_of_dg (fun j => by have := h (j + 1); simpa [dg, List.getD] using this)
    simp [dg, List.getD] at h0
    simp only [val] at h1 ⊢; omega
  | x :: xs, [], h => by
    have h0 := h 0
    have h1 : val xs = val [] := val_of_dg (fun j => by have := h (j + 1); simpa [dg, List.getD] using this)
    simp [dg, List.getD] at h0
    simp only [val] at h1 ⊢; omega
  | x :: xs, y :: ys, h => by
    have h0 := h 0
    have h1 : val xs = val ys := val_of_dg (fun j => by have := h (j + 1); simpa [dg, List.getD] using this)
    simp [dg, List.getD] at h0
    simp only [val]; omega
theorem dg_drop (zs : List Int) (k j : Nat) : dg (zs.drop k) j = dg zs (k + j) := by simp [dg, List.getD, List.getElem?_drop]
/-- Which is larger is told by the highest digit that isn't the same. -/
theorem larger_at {xs ys : List Int} (hx : Dg xs) (hy : Dg ys) {k : Nat} (h : ∀ j, k < j → dg xs j = dg ys j) (hlt : dg xs k < dg ys k) : val xs < val ys := by
  have hk : k < ys.length := by
    rcases Nat.lt_or_ge k ys.length with h1 | h1
    · exact h1
    · have := dg_ge h1; have := hx.dg k; omega
  have ey := val_split ys (k + 1)
  rw [List.length_take, show min (k + 1) ys.length = k + 1 by omega, val_take_succ] at ey
  have hdrop : val (xs.drop (k + 1)) = val (ys.drop (k + 1)) := val_of_dg (fun j => by rw [dg_drop, dg_drop]; exact h _ (by omega))
  have p : (0 : Int) < 10000 ^ k := Int.pow_pos (by decide)
  have hyt := val_nonneg (hy.take k)
  have m : 10000 ^ k * (dg xs k + 1) ≤ 10000 ^ k * dg ys k := Int.mul_le_mul_of_nonneg_left (by omega) (by omega)
  rw [Int.mul_add, Int.mul_one] at m
  by_cases hkx : k < xs.length
  · have ex := val_split xs (k + 1)
    rw [List.length_take, show min (k + 1) xs.length = k + 1 by omega, val_take_succ, hdrop] at ex
    have hxt := val_lt (hx.take k)
    rw [List.length_take, show min k xs.length = k by omega] at hxt
    omega
  · have e0 : dg xs k = 0 := dg_ge (by omega)
    have hxt := val_lt hx
    have hpow : (10000 : Int) ^ xs.length ≤ 10000 ^ k := by
      obtain ⟨m', hm'⟩ : ∃ m', k = xs.length + m' := ⟨k - xs.length, by omega⟩
      rw [hm', Int.pow_add]
      have : (10000 : Int) ^ xs.length * 1 ≤ 10000 ^ xs.length * 10000 ^ m' := Int.mul_le_mul_of_nonneg_left (Int.pow_pos (by decide)) (Int.le_of_lt (Int.pow_pos (by decide)))
      omega
    have hdn : 0 ≤ (10000 : Int) ^ (k + 1) * val (ys.drop (k + 1)) := Int.mul_nonneg (Int.le_of_lt (Int.pow_pos (by decide))) (val_nonneg (fun z hz => hy z (List.mem_of_mem_drop hz)))
    have m3 : (10000 : Int) ^ k * 1 ≤ 10000 ^ k * dg ys k := Int.mul_le_mul_of_nonneg_left (by omega) (by omega)
    omega
theorem larger_none {xs ys : List Int} (h : ∀ j, 0 ≤ j → dg xs j = dg ys j) : val xs = val ys := val_of_dg (fun j => h j (Nat.zero_le _))
/-- What isn't smaller has no fewer digits. -/
theorem len_of_le {xs ys : List Int} (hx : Dg xs) (hy : Dg ys) (ny : Nm ys) (h : val ys ≤ val xs) : ys.length ≤ xs.length := by
  rcases Nat.lt_or_ge xs.length ys.length with h1 | h1
  · obtain ⟨k, hk⟩ : ∃ k, ys.length = k + 1 := ⟨ys.length - 1, by omega⟩
    have h2 : dg ys k ≠ 0 := ny.ne hk
    have h3 := hy.dg k
    have := larger_at hx hy (k := k) (fun j hj => by rw [dg_ge (by omega), dg_ge (by omega)]) (by rw [dg_ge (by omega)]; omega)
    omega
  · exact h1

end Go.Proofs.YtjklcbbanlaicaaDoor
