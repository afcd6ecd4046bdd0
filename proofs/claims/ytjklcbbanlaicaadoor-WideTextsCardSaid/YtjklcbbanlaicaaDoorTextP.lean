/- Plain facts: the digits' own text. -/
import Derived.Test.YtjklcbbanlaicaaDoorStr
import Derived.Test.YtjklcbbanlaicaaDoorDigits
namespace Go.Proofs.YtjklcbbanlaicaaDoor
open Go.RowKit Go

def pads : List Int → List UInt8
  | [] => []
  | d :: ds => pads ds ++ pad 4 d.toNat
theorem pads_length : ∀ zs : List Int, (pads zs).length = 4 * zs.length
  | [] => rfl
  | d :: ds => by rw [pads, List.length_append, pads_length ds, pad_length, List.length_cons]; omega
theorem pads_snoc (z : Int) : ∀ zs : List Int, pads (zs ++ [z]) = pad 4 z.toNat ++ pads zs
  | [] => by simp [pads]
  | d :: ds => by rw [List.cons_append, pads, pads_snoc z ds, pads, List.append_assoc]
theorem pads_take (zs : List Int) {k : Nat} (hk : k < zs.length) : pads (zs.take (k + 1)) = pad 4 (zs.getD k 0).toNat ++ pads (zs.take k) := by
  rw [List.take_succ_eq_append_getElem hk, pads_snoc]
  simp [List.getD, hk]
theorem pad_front : ∀ (k u : Nat), pad (k + 1) u = UInt8.ofNat (48 + u / 10 ^ k % 10) :: pad k u
  | 0, u => by simp [pad]
  | k + 1, u => by
    show pad (k + 1) (u / 10) ++ [UInt8.ofNat (48 + u % 10)] = _
    rw [pad_front k (u / 10), Nat.div_div_eq_div_mul, Nat.mul_comm 10, ← Nat.pow_succ]
    rfl
theorem pads_val : ∀ (zs : List Int), Dg zs → pads zs = pad (4 * zs.length) (val zs).toNat
  | [], _ => rfl
  | d :: ds, h => by
    have h0 := h d (by simp)
    have h1 : Dg ds := fun x hx => h x (by simp [hx])
    have h2 := val_nonneg h1
    have e : (val (d :: ds)).toNat = (val ds).toNat * 10 ^ 4 + d.toNat := by
      show (d + 10000 * val ds).toNat = _
      rw [show (10 : Nat) ^ 4 = 10000 by decide]; omega
    rw [e, List.length_cons, Nat.mul_add, Nat.mul_one, pad_join _ 4 _ _ (by rw [show (10 : Nat) ^ 4 = 10000 by decide]; omega), pads, pads_val ds h1]
/-- The digits' text is noughts and the numeral. -/
theorem pads_dec (zs : List Int) (hd : Dg zs) (hn : zs ≠ []) : ∃ m, pads zs = List.replicate m 48 ++ Lib.decDigits (val zs).toNat ∧ m + (Lib.decDigits (val zs).toNat).length = 4 * zs.length := by
  have hl : 0 < zs.length := List.length_pos_iff.2 hn
  have hv := val_lt hd
  have hv0 := val_nonneg hd
  have h : (val zs).toNat < 10 ^ (4 * zs.length) := by
    have e : ((10 ^ (4 * zs.length) : Nat) : Int) = 10000 ^ zs.length := by
      rw [Nat.pow_mul]; simp
    omega
  obtain ⟨j, hj⟩ : ∃ j, 4 * zs.length = j + 1 := ⟨4 * zs.length - 1, by omega⟩
  rw [pads_val zs hd, hj]
  exact pad_dec j _ (by rw [← hj]; exact h)
end Go.Proofs.YtjklcbbanlaicaaDoor
