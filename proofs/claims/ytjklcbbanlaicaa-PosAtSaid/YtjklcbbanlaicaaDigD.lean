/- Plain facts on digits: a number divided by a small one, digit by digit from the highest. -/
import Derived.Test.YtjklcbbanlaicaaDigM
namespace Go.Proofs.Ytjklcbbanlaicaa
open Go.RowKit

theorem drop_cons (zs : List Int) {i : Nat} (hi : i < zs.length) : zs.drop i = zs.getD i 0 :: zs.drop (i + 1) := by
  rw [List.drop_eq_getElem_cons hi]; simp [List.getD, hi]
theorem val_drop (zs : List Int) {i : Nat} (hi : i < zs.length) : val (zs.drop i) = zs.getD i 0 + 10000 * val (zs.drop (i + 1)) := by
  rw [drop_cons zs hi]; rfl
theorem Dg.drop {zs : List Int} (h : Dg zs) (k : Nat) : Dg (zs.drop k) := fun x hx => h x (List.mem_of_mem_drop hx)
theorem val_drop_le {zs : List Int} (h : Dg zs) (i : Nat) : val (zs.drop i) ≤ val zs := by
  have e : val zs = val (zs.take i) + 10000 ^ (zs.take i).length * val (zs.drop i) := by
    rw [← val_append, List.take_append_drop]
  have h1 := val_nonneg (h.take i)
  have h2 := val_nonneg (h.drop i)
  have h3 : (1 : Int) ≤ 10000 ^ (zs.take i).length := Int.pow_pos (by decide)
  have h4 : 1 * val (zs.drop i) ≤ 10000 ^ (zs.take i).length * val (zs.drop i) := Int.mul_le_mul_of_nonneg_right h3 h2
  omega
/-- One digit on. -/
theorem div_step {ws zs : List Int} {b rest : Int} {i : Nat} (hb : 0 < b) (hw : i < ws.length) (hz : i < zs.length) (dz : Dg zs) (dw : Dg ws) (r0 : 0 ≤ rest) (r1 : rest < b) (h : val (ws.drop (i + 1)) * b + rest = val (zs.drop (i + 1))) :
    val ((ws.set i ((rest * 10000 + zs.getD i 0) / b)).drop i) * b + (rest * 10000 + zs.getD i 0) % b = val (zs.drop i) ∧ Dg (ws.set i ((rest * 10000 + zs.getD i 0) / b)) ∧ 0 ≤ (rest * 10000 + zs.getD i 0) % b ∧ (rest * 10000 + zs.getD i 0) % b < b := by
  obtain ⟨z0, z1⟩ := dz.getD i
  rw [val_drop zs hz]
  generalize zs.getD i 0 = z at *
  have e := Int.emod_add_mul_ediv (rest * 10000 + z) b
  have m0 := Int.emod_nonneg (rest * 10000 + z) (show b ≠ 0 by omega)
  have m1 := Int.emod_lt_of_pos (rest * 10000 + z) hb
  have q0 : 0 ≤ (rest * 10000 + z) / b := Int.ediv_nonneg (by omega) (by omega)
  have q1 : (rest * 10000 + z) / b ≤ 9999 := by
    have : (rest * 10000 + z) / b < 10000 := Int.ediv_lt_of_lt_mul hb (by omega)
    omega
  generalize hq : (rest * 10000 + z) / b = q at *
  generalize hm : (rest * 10000 + z) % b = m at *
  have hl : i < (ws.set i q).length := by rw [List.length_set]; exact hw
  have e1 : (ws.set i q).getD i 0 = q := by simp [List.getD, hw]
  have e2 : (ws.set i q).drop (i + 1) = ws.drop (i + 1) := by rw [List.drop_set, if_pos (by omega)]
  refine ⟨?_, ?_, m0, m1⟩
  · rw [val_drop _ hl, e1, e2, Int.add_mul, Int.mul_assoc]
    rw [Int.mul_comm b q] at e
    omega
  · intro x hx
    rcases List.mem_or_eq_of_mem_set hx with h | h
    · exact dw x h
    · rw [h]; exact ⟨q0, q1⟩

end Go.Proofs.Ytjklcbbanlaicaa
