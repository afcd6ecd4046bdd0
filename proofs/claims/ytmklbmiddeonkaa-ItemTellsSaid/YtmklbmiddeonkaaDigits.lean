/- Plain facts on digits of base 10000, the lowest first: nothing of the program. -/
import Derived.Test.YtmklbmiddeonkaaItemTellsZ0
namespace Go.Proofs.Ytmklbmiddeonkaa
open Go.RowKit

def val : List Int → Int
  | [] => 0
  | d :: ds => d + 10000 * val ds
def Dg (zs : List Int) : Prop := ∀ z ∈ zs, 0 ≤ z ∧ z ≤ 9999

theorem Dg.nil : Dg [] := fun _ h => by cases h
theorem Dg.cons {z : Int} {zs : List Int} (h0 : 0 ≤ z) (h1 : z ≤ 9999) (h : Dg zs) : Dg (z :: zs) := fun x hx => by
  rcases List.mem_cons.1 hx with rfl | hx
  · exact ⟨h0, h1⟩
  · exact h x hx
theorem Dg.tail {z : Int} {zs : List Int} (h : Dg (z :: zs)) : Dg zs := fun x hx => h x (List.mem_cons_of_mem _ hx)
theorem Dg.head {z : Int} {zs : List Int} (h : Dg (z :: zs)) : 0 ≤ z ∧ z ≤ 9999 := h z List.mem_cons_self
theorem Dg.append {xs ys : List Int} (h : Dg xs) (g : Dg ys) : Dg (xs ++ ys) := fun x hx => by
  rcases List.mem_append.1 hx with hx | hx
  · exact h x hx
  · exact g x hx
theorem Dg.take {zs : List Int} (h : Dg zs) (k : Nat) : Dg (zs.take k) := fun x hx => h x (List.mem_of_mem_take hx)
theorem Dg.one {z : Int} (h0 : 0 ≤ z) (h1 : z ≤ 9999) : Dg [z] := Dg.cons h0 h1 Dg.nil
theorem Dg.getD {zs : List Int} (h : Dg zs) (k : Nat) : 0 ≤ zs.getD k 0 ∧ zs.getD k 0 ≤ 9999 := by
  by_cases hk : k < zs.length
  · have : zs.getD k 0 = zs[k] := by simp [List.getD, hk]
    rw [this]; exact h _ (List.getElem_mem hk)
  · have : zs.getD k 0 = 0 := by simp [List.getD, List.getElem?_eq_none (by omega : zs.length ≤ k)]
    rw [this]; decide

theorem val_nonneg : ∀ {zs : List Int}, Dg zs → 0 ≤ val zs
  | [], _ => by simp [val]
  | z :: zs, h => by have := val_nonneg h.tail; have := h.head; simp only [val]; omega
theorem val_append : ∀ (xs ys : List Int), val (xs ++ ys) = val xs + 10000 ^ xs.length * val ys
  | [], ys => by simp [val]
  | x :: xs, ys => by
    simp only [List.cons_append, val, List.length_cons, val_append xs ys, Int.pow_succ]
    rw [Int.mul_add, ← Int.add_assoc, Int.mul_comm (10000 ^ xs.length) 10000, Int.mul_assoc]
theorem val_snoc (xs : List Int) (d : Int) : val (xs ++ [d]) = val xs + 10000 ^ xs.length * d := by
  rw [val_append]; simp [val]
theorem val_lt : ∀ {zs : List Int}, Dg zs → val zs < 10000 ^ zs.length
  | [], _ => by simp [val]
  | z :: zs, h => by
    have h1 := val_lt h.tail
    have h2 := h.head
    simp only [val, List.length_cons, Int.pow_succ]
    omega
/-- Without noughts ahead of the highest digit. -/
def Nm (zs : List Int) : Prop := zs.getLast? ≠ some 0
theorem Nm.nil : Nm [] := by simp [Nm]
theorem getLast?_getD {zs : List Int} {k : Nat} (hl : zs.length = k + 1) : zs.getLast? = some (zs.getD k 0) := by
  rw [List.getLast?_eq_getElem?, hl]
  simp [List.getD, show k < zs.length by omega]
theorem Nm.of_ne {zs : List Int} {k : Nat} (hl : zs.length = k + 1) (h : zs.getD k 0 ≠ 0) : Nm zs := by
  unfold Nm; rw [getLast?_getD hl]; simpa using h
theorem Nm.ne {zs : List Int} {k : Nat} (hl : zs.length = k + 1) (h : Nm zs) : zs.getD k 0 ≠ 0 := by
  unfold Nm at h; rw [getLast?_getD hl] at h; simpa using h
/-- A nought at the end is nothing. -/
theorem val_take_nought {zs : List Int} {k : Nat} (hk : k < zs.length) (h : zs.getD k 0 = 0) : val (zs.take (k + 1)) = val (zs.take k) := by
  have e : zs.getD k 0 = zs[k] := by simp [List.getD, hk]
  rw [List.take_succ_eq_append_getElem hk, val_snoc, ← e, h]; simp
theorem take_snocD {zs : List Int} {k : Nat} (hk : k < zs.length) : zs.take (k + 1) = zs.take k ++ [zs.getD k 0] := by
  have e : zs.getD k 0 = zs[k] := by simp [List.getD, hk]
  rw [List.take_succ_eq_append_getElem hk, e]
theorem take_getD {zs : List Int} {k j : Nat} (hj : j < k) : (zs.take k).getD j 0 = zs.getD j 0 := by
  simp [List.getD, List.getElem?_take_of_lt hj]
/-- A digit is above 0: so is the number. -/
theorem val_pos {zs : List Int} (h : Dg zs) (hn : Nm zs) (hne : zs ≠ []) : 0 < val zs := by
  obtain ⟨k, hl⟩ : ∃ k, zs.length = k + 1 := ⟨zs.length - 1, by have := List.length_pos_iff.2 hne; omega⟩
  have h0 := hn.ne hl
  have h1 := h.getD k
  have e := take_snocD (zs := zs) (k := k) (by omega)
  rw [List.take_of_length_le (by omega)] at e
  rw [e, val_snoc]
  have h2 := val_nonneg (h.take k)
  have h3 : 0 < (10000 : Int) ^ (zs.take k).length * zs.getD k 0 := Int.mul_pos (Int.pow_pos (by decide)) (by omega)
  omega
theorem val_zero {zs : List Int} (h : Dg zs) (hn : Nm zs) : val zs = 0 ↔ zs = [] := by
  constructor
  · intro h0
    by_cases hne : zs = []
    · exact hne
    · have := val_pos h hn hne; omega
  · rintro rfl; rfl

end Go.Proofs.Ytmklbmiddeonkaa
