/- Texts of DtreePlays's proof, together. -/
import Derived.Test.YtbcepkfdlaioaaaGreatBits
import Derived.Test.YtbcepkfdlaioaaaGreatBig
import Derived.Deep.LoopGhost
import Derived.Deep.QuietTactic
import Derived.BigQuiet
namespace Go.Proofs.YtbcepkfdlaioaaaGreat

section
open Go.RowKit
set_option maxHeartbeats 2000000 in
theorem Ref.trim (L : Nat) (s : Bool) (A : Option Addr) (n c : Nat) (zs : List Int) (w : World) (hr : Rd w A n zs) (hL : n ≤ L) (hL2 : L ≤ 4000000) (hc : n ≤ c) (hd : Dg zs) (z : Int) (HZ : Hid (z = if s then -val zs else val zs)) :
  Calls Tryz.prog 95 #[.agg #[.bool s, .slice A n c]] w (BAns L z w) := by
 have HR := hid hr
 have HD := hid hd
 clear hr hd
 go_enter Tryz.func95, Tryz.ntmps95
 go_wp2_with fail
 go_loopg [] n (fun g wr => ∃ k : Nat, g = k ∧ k ≤ n ∧ wr.cell? ⟨w.heap.size, 0, none⟩ = some (.bool s) ∧ wr.cell? ⟨w.heap.size, 1, none⟩ = some (.slice A k c) ∧ wr.frozen? ⟨w.heap.size, 1, none⟩ = false ∧ wr.cell? ⟨w.heap.size + 1, 0, none⟩ = some (.bool false) ∧ wr.cell? ⟨w.heap.size + 1, 1, none⟩ = some (.slice none 0 0) ∧ wr.frozen? ⟨w.heap.size + 1, 0, none⟩ = false ∧ wr.frozen? ⟨w.heap.size + 1, 1, none⟩ = false ∧ Rd wr A k (zs.take k) ∧ val zs = val (zs.take k) ∧ w.heap.size + 1 < wr.heap.size ∧ Below w.heap.size w wr)
 case atStart =>
  exact ⟨n, rfl, Nat.le_refl _, by simp [go_sem], by simp [go_sem], by simp [go_sem], by simp [go_sem], by simp [go_sem], by simp [go_sem], by simp [go_sem], by rw [List.take_of_length_le (by have := HR.out.1; omega)]; exact (HR.out.alloc _).alloc _, by rw [List.take_of_length_le (by have := HR.out.1; omega)], by simp, ((Below.refl _ _).alloc (Nat.le_refl _) _).alloc (by simp) _⟩
 case round =>
  obtain ⟨k, hg, hk, x0, x1, hf, y0, y1, g0, g1, hrd, hv, hs, hb⟩ := hrel
  have HG := hid hg
  clear hg
  have HRD := hid hrd
  have HV := hid hv
  have HB := hid hb
  clear hrd hv hb
  by_cases h0 : k = 0
  ·subst h0
   go_wp2_with fail
   have ez : z = 0 := by
    have h1 := HZ.out; have h2 := HV.out
    simp [val] at h2; rw [h2] at h1; simpa using h1
   have HE := hid ez
   clear ez
   refine bodyPost_ret (v := .agg #[.bool false, .slice none 0 0]) (by simp [results, Tryz.results95, go_sem, y0, y1]) rfl ⟨_, _, _, _, rfl, by rw [HE.out]; exact IsB.zero _ _, ?_⟩
   exact (HB.out.setCell (by simp) _).setCell (by simp) _
  ·obtain ⟨j, rfl⟩ : ∃ j, k = j + 1 := ⟨k - 1, by omega⟩
   obtain ⟨b, off, rfl, hcell⟩ := HRD.out.2 (by omega)
   have hcj := hcell j (by omega)
   rw [take_getD (by omega)] at hcj
   have hj0 : (0 : Int) < ((j + 1 : Nat) : Int) := by omega
   clear hcell
   by_cases h1 : zs.getD j 0 = 0
   ·rw [h1] at hcj
    go_wp2_with fail
    go_roundg j
    case measure => have := HG.out; omega
    case rel =>
     refine ⟨j, rfl, by omega, by simp [go_sem, x0], ?_, by simp [go_sem, hf], by simp [go_sem, y0], by simp [go_sem, y1], by simp [go_sem, g0], by simp [go_sem, g1], ?_, ?_, by simpa using hs, HB.out.setCell (by simp) _⟩
     ·simp [go_sem, x1]
     ·have h3 := (HRD.out.take (k := j) (by omega)).setCell (g := w.heap.size) (fun b' off' e' _ => by
       injection e' with e'; injection e' with e'; subst e'
       have := HR.out.lt rfl (by omega); omega) 1 (.slice (some ⟨b, off, none⟩) j c)
      rw [List.take_take, show min j (j + 1) = j by omega] at h3
      exact h3
     ·rw [HV.out]; exact val_take_nought (by have := HR.out.1; omega) h1
   ·have h2 : (zs.getD j 0 == 0) = false := by simpa using h1
    have H1 := hid h1
    clear h1
    generalize zs.getD j 0 = d at hcj h2
    go_wp2_with fail
    refine bodyPost_ret (v := .agg #[.bool s, .slice (some ⟨b, off, none⟩) (j + 1) c]) (by simp [results, Tryz.results95, go_sem, y0, y1]) rfl ⟨_, _, _, _, rfl, ?_, ?_⟩
    ·have hb : b < w.heap.size := HR.out.lt rfl (by omega)
     have hlen : (zs.take (j + 1)).length = j + 1 := HRD.out.1
     refine ⟨zs.take (j + 1), ?_, by omega, by omega, HD.out.take _, Nm.of_ne hlen (by rw [take_getD (by omega)]; exact H1.out), fun _ e => (by rw [e] at hlen; simp at hlen), by rw [HZ.out, HV.out]⟩
     exact (HRD.out.setCell (g := w.heap.size + 1) (fun b' off' e' _ => by injection e' with e'; injection e' with e'; omega) 0 _).setCell (g := w.heap.size + 1) (fun b' off' e' _ => by injection e' with e'; injection e' with e'; omega) 1 _
    ·exact (HB.out.setCell (by simp) _).setCell (by simp) _
end


section
open Go.RowKit
def dg (zs : List Int) (i : Nat) : Int := zs.getD i 0
set_option maxHeartbeats 1000000 in
theorem Ref.digit (s : Bool) (A : Option Addr) (n c i : Nat) (zs : List Int) (w : World) (hr : Rd w A n zs) (hn : n ≤ 4000000) (hi : i ≤ 8000000) :
  Calls Tryz.prog 94 #[.agg #[.bool s, .slice A n c], .int .i64 i] w fun e w' => e = .returned (.int .i64 (dg zs i)) ∧ Below w.heap.size w w' := by
 by_cases h : i < n
 ·obtain ⟨b, off, rfl, hc⟩ := hr.2 (by omega)
  have hci : w.cell? ⟨b, off + i, none⟩ = some (.int .i64 (dg zs i)) := hc i h
  have hb := World.block_lt_of_cell? w _ hci
  have hci2 : ∀ o, (w.alloc o).cell? ⟨b, off + i, none⟩ = some (.int .i64 (dg zs i)) := fun o => cell_alloc o hci
  have hlt : (i : Int) < (n : Int) := by omega
  clear hr hc h
  go_enter Tryz.func94, Tryz.ntmps94
  go_wp2
  go_ret
  exact ⟨rfl, (Below.refl _ _).alloc (Nat.le_refl _) _⟩
 ·have hz : dg zs i = 0 := by unfold dg; simp [List.getD, List.getElem?_eq_none (by have := hr.1; omega : zs.length ≤ i)]
  have HZ := hid hz
  have hlt : ¬ (i : Int) < (n : Int) := by omega
  clear hr hz h
  go_enter Tryz.func94, Tryz.ntmps94
  go_wp2
  go_ret
  exact ⟨by rw [HZ.out]; rfl, (Below.refl _ _).alloc (Nat.le_refl _) _⟩
theorem IsB.sgn {w : World} {L : Nat} {s : Bool} {A : Option Addr} {n c : Nat} {z : Int} (h : IsB w L s A n c z) : (n = 0 → z = 0 ∧ s = false) ∧ (0 < n → s = true → z < 0) ∧ (0 < n → s = false → 0 < z) := by
 obtain ⟨zs, h1, _, _, h2, h3, h4, h5⟩ := h
 refine ⟨fun e => ?_, fun e e' => ?_, fun e e' => ?_⟩
 ·have : zs = [] := List.eq_nil_of_length_eq_zero (by rw [h1.1, e])
  subst this
  have hs : s = false := by cases s; rfl; exact absurd rfl (h4 rfl)
  subst hs
  exact ⟨by simpa [val] using h5, rfl⟩
 ·have := val_pos h2 h3 (by intro e2; subst e2; have := h1.1; simp at this; omega)
  rw [h5, if_pos e']; omega
 ·have := val_pos h2 h3 (by intro e2; subst e2; have := h1.1; simp at this; omega)
  rw [h5, e']; simpa using this
set_option maxHeartbeats 1000000 in
theorem Ref.sign (L : Nat) (s : Bool) (A : Option Addr) (n c : Nat) (z : Int) (w : World) (hz : IsB w L s A n c z) :
  Calls Tryz.prog 72 #[.agg #[.bool s, .slice A n c]] w fun e w' => e = .returned (.int .i64 (cmpI z 0)) ∧ Below w.heap.size w w' := by
 obtain ⟨g0, g1, g2⟩ := hz.sgn
 by_cases h : n = 0
 ·subst h
  have HZ := hid (g0 rfl).1
  clear g0 g1 g2
  go_enter Tryz.func72, Tryz.ntmps72
  go_wp2
  go_ret
  exact ⟨by rw [HZ.out, cmpI_eq]; rfl, (Below.refl _ _).alloc (Nat.le_refl _) _⟩
 ·have hn : ((n : Int) == 0) = false := by simpa using h
  have HG := hid (And.intro (g1 (by omega)) (g2 (by omega)))
  clear g0 g1 g2 h
  rcases s with _ | _
  ·go_enter Tryz.func72, Tryz.ntmps72
   go_wp2
   go_ret
   exact ⟨by rw [cmpI_gt (HG.out.2 (by trivial))]; rfl, (Below.refl _ _).alloc (Nat.le_refl _) _⟩
  ·go_enter Tryz.func72, Tryz.ntmps72
   go_wp2
   go_ret
   exact ⟨by rw [cmpI_lt (HG.out.1 (by trivial))]; rfl, (Below.refl _ _).alloc (Nat.le_refl _) _⟩
end


section
open Go.RowKit
theorem dg_ge {zs : List Int} {k : Nat} (hk : zs.length ≤ k) : dg zs k = 0 := by unfold dg; simp [List.getD, List.getElem?_eq_none hk]
theorem Dg.dg {zs : List Int} (h : Dg zs) (k : Nat) : 0 ≤ dg zs k ∧ dg zs k ≤ 9999 := h.getD k
theorem val_take_succ (zs : List Int) (k : Nat) : val (zs.take (k + 1)) = val (zs.take k) + 10000 ^ k * dg zs k := by
 by_cases hk : k < zs.length
 ·have := take_snocD hk
  rw [this, val_snoc, List.length_take, show min k zs.length = k by omega]; rfl
 ·rw [dg_ge (by omega), List.take_of_length_le (by omega), List.take_of_length_le (by omega)]; simp
theorem val_take_all (zs : List Int) {k : Nat} (hk : zs.length ≤ k) : val (zs.take k) = val zs := by rw [List.take_of_length_le hk]
theorem plus_step {xs ys zs : List Int} {k : Nat} {c : Int} (hl : zs.length = k) (h : val (xs.take k) + val (ys.take k) = val zs + 10000 ^ k * c) :
  val (xs.take (k + 1)) + val (ys.take (k + 1)) = val (zs ++ [(dg xs k + dg ys k + c) % 10000]) + 10000 ^ (k + 1) * ((dg xs k + dg ys k + c) / 10000) := by
 rw [val_take_succ, val_take_succ, val_snoc, hl, Int.pow_succ, Int.mul_assoc]
 have e : (dg xs k + dg ys k + c) = (dg xs k + dg ys k + c) % 10000 + 10000 * ((dg xs k + dg ys k + c) / 10000) := by omega
 have e2 : (10000 : Int) ^ k * (dg xs k + dg ys k + c) = 10000 ^ k * ((dg xs k + dg ys k + c) % 10000) + 10000 ^ k * (10000 * ((dg xs k + dg ys k + c) / 10000)) := by
  rw [← Int.mul_add]; congr 1
 rw [Int.mul_add, Int.mul_add] at e2
 omega
theorem minus_step {xs ys zs : List Int} {k : Nat} {b : Int} (hl : zs.length = k) (h : val (xs.take k) - val (ys.take k) = val zs - 10000 ^ k * b) (d b' : Int) (hd : d = dg xs k - dg ys k - b + 10000 * b') :
  val (xs.take (k + 1)) - val (ys.take (k + 1)) = val (zs ++ [d]) - 10000 ^ (k + 1) * b' := by
 rw [val_take_succ, val_take_succ, val_snoc, hl, hd, Int.pow_succ, Int.mul_assoc, Int.mul_add, Int.mul_sub, Int.mul_sub]
 omega
theorem minus_end {xs ys zs : List Int} {n : Nat} {b : Int} (hx : xs.length ≤ n) (hy : ys.length ≤ n) (hl : zs.length = n) (hd : Dg zs) (h : val (xs.take n) - val (ys.take n) = val zs - 10000 ^ n * b) (hb : b = 0 ∨ b = 1) (hle : val ys ≤ val xs) :
  val zs = val xs - val ys := by
 rw [val_take_all _ hx, val_take_all _ hy] at h
 have h1 := val_lt hd
 rw [hl] at h1
 rcases hb with rfl | rfl
 ·simp at h; omega
 ·simp at h; omega
theorem val_split (zs : List Int) (k : Nat) : val zs = val (zs.take k) + 10000 ^ (zs.take k).length * val (zs.drop k) := by
 rw [← val_append, List.take_append_drop]
theorem val_of_dg : ∀ {xs ys : List Int}, (∀ j, dg xs j = dg ys j) → val xs = val ys
 | [], [], _ => rfl
 | [], y :: ys, h => by
  have h0 := h 0
  have h1 : val [] = val ys := val_of_dg (fun j => by have := h (j + 1); simpa [dg, List.getD] using this)
  simp [dg, List.getD] at h0
  simp only [val] at h1 ⊢; omega
 | x :: xs, [], h => by
  have h0 := h 0
  have h1 : val xs = val [] := val_of_dg (fun j => by have := h (j + 1); simpa [dg, List.getD] using this)
  simp [dg, List.getD] at h0
  simp only [val] at h1 ⊢; omega
 | x :: xs, y :: ys, h => by
  have h0 := h 0
  have h1 : val xs = val ys := val_of_dg (fun j => by have := h (j + 1); simpa [dg, List.getD] using this)
  simp [dg, List.getD] at h0
  simp only [val]; omega
theorem dg_drop (zs : List Int) (k j : Nat) : dg (zs.drop k) j = dg zs (k + j) := by simp [dg, List.getD, List.getElem?_drop]
theorem larger_at {xs ys : List Int} (hx : Dg xs) (hy : Dg ys) {k : Nat} (h : ∀ j, k < j → dg xs j = dg ys j) (hlt : dg xs k < dg ys k) : val xs < val ys := by
 have hk : k < ys.length := by
  rcases Nat.lt_or_ge k ys.length with h1 | h1
  ·exact h1
  ·have := dg_ge h1; have := hx.dg k; omega
 have ey := val_split ys (k + 1)
 rw [List.length_take, show min (k + 1) ys.length = k + 1 by omega, val_take_succ] at ey
 have hdrop : val (xs.drop (k + 1)) = val (ys.drop (k + 1)) := val_of_dg (fun j => by rw [dg_drop, dg_drop]; exact h _ (by omega))
 have p : (0 : Int) < 10000 ^ k := Int.pow_pos (by decide)
 have hyt := val_nonneg (hy.take k)
 have m : 10000 ^ k * (dg xs k + 1) ≤ 10000 ^ k * dg ys k := Int.mul_le_mul_of_nonneg_left (by omega) (by omega)
 rw [Int.mul_add, Int.mul_one] at m
 by_cases hkx : k < xs.length
 ·have ex := val_split xs (k + 1)
  rw [List.length_take, show min (k + 1) xs.length = k + 1 by omega, val_take_succ, hdrop] at ex
  have hxt := val_lt (hx.take k)
  rw [List.length_take, show min k xs.length = k by omega] at hxt
  omega
 ·have e0 : dg xs k = 0 := dg_ge (by omega)
  have hxt := val_lt hx
  have hpow : (10000 : Int) ^ xs.length ≤ 10000 ^ k := by
   obtain ⟨m', hm'⟩ : ∃ m', k = xs.length + m' := ⟨k - xs.length, by omega⟩
   rw [hm', Int.pow_add]
   have : (10000 : Int) ^ xs.length * 1 ≤ 10000 ^ xs.length * 10000 ^ m' := Int.mul_le_mul_of_nonneg_left (Int.pow_pos (by decide)) (Int.le_of_lt (Int.pow_pos (by decide)))
   omega
  have hdn : 0 ≤ (10000 : Int) ^ (k + 1) * val (ys.drop (k + 1)) := Int.mul_nonneg (Int.le_of_lt (Int.pow_pos (by decide))) (val_nonneg (fun z hz => hy z (List.mem_of_mem_drop hz)))
  have m3 : (10000 : Int) ^ k * 1 ≤ 10000 ^ k * dg ys k := Int.mul_le_mul_of_nonneg_left (by omega) (by omega)
  omega
theorem larger_none {xs ys : List Int} (h : ∀ j, 0 ≤ j → dg xs j = dg ys j) : val xs = val ys := val_of_dg (fun j => h j (Nat.zero_le _))
theorem len_of_le {xs ys : List Int} (hx : Dg xs) (hy : Dg ys) (ny : Nm ys) (h : val ys ≤ val xs) : ys.length ≤ xs.length := by
 rcases Nat.lt_or_ge xs.length ys.length with h1 | h1
 ·obtain ⟨k, hk⟩ : ∃ k, ys.length = k + 1 := ⟨ys.length - 1, by omega⟩
  have h2 : dg ys k ≠ 0 := ny.ne hk
  have h3 := hy.dg k
  have := larger_at hx hy (k := k) (fun j hj => by rw [dg_ge (by omega), dg_ge (by omega)]) (by rw [dg_ge (by omega)]; omega)
  omega
 ·exact h1
end


section
open Go.RowKit
theorem val_set : ∀ (ws : List Int) (j : Nat) (z : Int), j < ws.length → val (ws.set j z) = val ws + 10000 ^ j * (z - dg ws j)
 | [], j, z, h => by simp at h
 | w :: ws, 0, z, _ => by simp [val, dg]; omega
 | w :: ws, j + 1, z, h => by
  have ih := val_set ws j z (by simpa using h)
  have e : dg (w :: ws) (j + 1) = dg ws j := by simp [dg]
  rw [e, List.set_cons_succ]
  simp only [val]
  rw [ih, Int.pow_succ, Int.mul_comm (10000 ^ j) 10000, Int.mul_assoc, Int.mul_add]
  omega
theorem dg_set_other (ws : List Int) (j k : Nat) (z : Int) (h : j ≠ k) : dg (ws.set j z) k = dg ws k := by simp [dg, List.getD, List.getElem?_set_ne h]
theorem Dg.set {ws : List Int} (h : Dg ws) (j : Nat) {z : Int} (h0 : 0 ≤ z) (h1 : z ≤ 9999) : Dg (ws.set j z) := fun x hx => by
 rcases List.mem_or_eq_of_mem_set hx with h2 | h2
 ·exact h x h2
 ·subst h2; exact ⟨h0, h1⟩
theorem val_nought (n : Nat) : val (List.replicate n (0 : Int)) = 0 := by
 induction n with
 | zero => rfl
 | succ n ih => rw [List.replicate_succ]; simp [val, ih]
theorem Dg.nought (n : Nat) : Dg (List.replicate n (0 : Int)) := fun x hx => by rw [List.eq_of_mem_replicate hx]; decide
theorem dg_nought (n k : Nat) : dg (List.replicate n (0 : Int)) k = 0 := by
 unfold dg; rw [List.getD, List.getElem?_replicate]; split <;> rfl
theorem mul_step {ws ys : List Int} {i k : Nat} {V x cy s : Int} (hl : i + k < ws.length) (h : val ws = V + 10000 ^ i * (x * val (ys.take k)) - 10000 ^ (i + k) * cy) (hs : s = dg ws (i + k) + x * dg ys k + cy) :
  val (ws.set (i + k) (s % 10000)) = V + 10000 ^ i * (x * val (ys.take (k + 1))) - 10000 ^ (i + (k + 1)) * (s / 10000) := by
 rw [val_set _ _ _ hl, h, val_take_succ, ← Nat.add_assoc, Int.pow_succ]
 have e : s % 10000 = s - 10000 * (s / 10000) := by omega
 rw [e, hs]
 generalize (dg ws (i + k) + x * dg ys k + cy) / 10000 = q
 rw [Int.pow_add]
 generalize (10000 : Int) ^ i = P
 generalize (10000 : Int) ^ k = Q
 grind
theorem mul_row {xs ys ws : List Int} {i k : Nat} {V : Int} (hk : ys.length ≤ k) (h : val ws = V + 10000 ^ i * (dg xs i * val (ys.take k)) - 10000 ^ (i + k) * 0) (hV : V = val (xs.take i) * val ys) :
  val ws = val (xs.take (i + 1)) * val ys := by
 rw [h, hV, val_take_all ys hk, val_take_succ]
 grind
end

end Go.Proofs.YtbcepkfdlaioaaaGreat
