/- Texts of MeanShifts's proof, together. -/
import Derived.Test.YtoioeginfhkjjaaGreatDoorBits
import Derived.Test.YtoioeginfhkjjaaGreatDoorBig
import Derived.Deep.LoopGhost
import Derived.Deep.QuietTactic
import Derived.BigQuiet
namespace Go.Proofs.YtoioeginfhkjjaaGreatDoor
/- The contracts of the document's answer for layer 1 (turnstoneref01). -/
section
open Go.RowKit

set_option maxHeartbeats 2000000 in
theorem Ref.trim (L : Nat) (s : Bool) (A : Option Addr) (n c : Nat) (zs : List Int) (w : World) (hr : Rd w A n zs) (hL : n ≤ L) (hL2 : L ≤ 4000000) (hc : n ≤ c) (hd : Dg zs) (z : Int) (HZ : Hid (z = if s then -val zs else val zs)) :
    Calls Tryz.prog 80 #[.agg #[.bool s, .slice A n c]] w (BAns L z w) := by
  have HR := hid hr
  have HD := hid hd
  clear hr hd
  go_enter Tryz.func80, Tryz.ntmps80
  go_wp2_with fail
  go_loopg [] n (fun g wr => ∃ k : Nat, g = k ∧ k ≤ n ∧ wr.cell? ⟨w.heap.size, 0, none⟩ = some (.bool s) ∧ wr.cell? ⟨w.heap.size, 1, none⟩ = some (.slice A k c) ∧ wr.frozen? ⟨w.heap.size, 1, none⟩ = false ∧ wr.cell? ⟨w.heap.size + 1, 0, none⟩ = some (.bool false) ∧ wr.cell? ⟨w.heap.size + 1, 1, none⟩ = some (.slice none 0 0) ∧ wr.frozen? ⟨w.heap.size + 1, 0, none⟩ = false ∧ wr.frozen? ⟨w.heap.size + 1, 1, none⟩ = false ∧ Rd wr A k (zs.take k) ∧ val zs = val (zs.take k) ∧ w.heap.size + 1 < wr.heap.size ∧ Below w.heap.size w wr)
  case atStart =>
    exact ⟨n, rfl, Nat.le_refl _, by simp [go_sem], by simp [go_sem], by simp [go_sem], by simp [go_sem], by simp [go_sem], by simp [go_sem], by simp [go_sem], by rw [List.take_of_length_le (by have := HR.out.1; omega)]; exact (HR.out.alloc _).alloc _, by rw [List.take_of_length_le (by have := HR.out.1; omega)], by simp, ((Below.refl _ _).alloc (Nat.le_refl _) _).alloc (by simp) _⟩
  case round =>
    obtain ⟨k, hg, hk, x0, x1, hf, y0, y1, g0, g1, hrd, hv, hs, hb⟩ := hrel
    have HG := hid hg
    clear hg
    have HRD := hid hrd
    have HV := hid hv
    have HB := hid hb
    clear hrd hv hb
    by_cases h0 : k = 0
    · subst h0
      go_wp2_with fail
      have ez : z = 0 := by
        have h1 := HZ.out; have h2 := HV.out
        simp [val] at h2; rw [h2] at h1; simpa using h1
      have HE := hid ez
      clear ez
      refine bodyPost_ret (v := .agg #[.bool false, .slice none 0 0]) (by simp [results, Tryz.results80, go_sem, y0, y1]) rfl ⟨_, _, _, _, rfl, by rw [HE.out]; exact IsB.zero _ _, ?_⟩
      exact (HB.out.setCell (by simp) _).setCell (by simp) _
    · obtain ⟨j, rfl⟩ : ∃ j, k = j + 1 := ⟨k - 1, by omega⟩
      obtain ⟨b, off, rfl, hcell⟩ := HRD.out.2 (by omega)
      have hcj := hcell j (by omega)
      rw [take_getD (by omega)] at hcj
      have hj0 : (0 : Int) < ((j + 1 : Nat) : Int) := by omega
      clear hcell
      by_cases h1 : zs.getD j 0 = 0
      · rw [h1] at hcj
        go_wp2_with fail
        go_roundg j
        case measure => have := HG.out; omega
        case rel =>
          refine ⟨j, rfl, by omega, by simp [go_sem, x0], ?_, by simp [go_sem, hf], by simp [go_sem, y0], by simp [go_sem, y1], by simp [go_sem, g0], by simp [go_sem, g1], ?_, ?_, by simpa using hs, HB.out.setCell (by simp) _⟩
          · simp [go_sem, x1]
          · have h3 := (HRD.out.take (k := j) (by omega)).setCell (g := w.heap.size) (fun b' off' e' _ => by
              injection e' with e'; injection e' with e'; subst e'
              have := HR.out.lt rfl (by omega); omega) 1 (.slice (some ⟨b, off, none⟩) j c)
            rw [List.take_take, show min j (j + 1) = j by omega] at h3
            exact h3
          · rw [HV.out]; exact val_take_nought (by have := HR.out.1; omega) h1
      · have h2 : (zs.getD j 0 == 0) = false := by simpa using h1
        have H1 := hid h1
        clear h1
        generalize zs.getD j 0 = d at hcj h2
        go_wp2_with fail
        refine bodyPost_ret (v := .agg #[.bool s, .slice (some ⟨b, off, none⟩) (j + 1) c]) (by simp [results, Tryz.results80, go_sem, y0, y1]) rfl ⟨_, _, _, _, rfl, ?_, ?_⟩
        · have hb : b < w.heap.size := HR.out.lt rfl (by omega)
          have hlen : (zs.take (j + 1)).length = j + 1 := HRD.out.1
          refine ⟨zs.take (j + 1), ?_, by omega, by omega, HD.out.take _, Nm.of_ne hlen (by rw [take_getD (by omega)]; exact H1.out), fun _ e => (by rw [e] at hlen; simp at hlen), by rw [HZ.out, HV.out]⟩
          exact (HRD.out.setCell (g := w.heap.size + 1) (fun b' off' e' _ => by injection e' with e'; injection e' with e'; omega) 0 _).setCell (g := w.heap.size + 1) (fun b' off' e' _ => by injection e' with e'; injection e' with e'; omega) 1 _
        · exact (HB.out.setCell (by simp) _).setCell (by simp) _
end

/- The contracts of the document's answer for layer 1, continued: digits, numbers of 64 bits. -/
section
open Go.RowKit

/-- Digit number i; 0 beyond the last. -/
def dg (zs : List Int) (i : Nat) : Int := zs.getD i 0

set_option maxHeartbeats 1000000 in
theorem Ref.digit (s : Bool) (A : Option Addr) (n c i : Nat) (zs : List Int) (w : World) (hr : Rd w A n zs) (hn : n ≤ 4000000) (hi : i ≤ 8000000) :
    Calls Tryz.prog 103 #[.agg #[.bool s, .slice A n c], .int .i64 i] w fun e w' => e = .returned (.int .i64 (dg zs i)) ∧ Below w.heap.size w w' := by
  by_cases h : i < n
  · obtain ⟨b, off, rfl, hc⟩ := hr.2 (by omega)
    have hci : w.cell? ⟨b, off + i, none⟩ = some (.int .i64 (dg zs i)) := hc i h
    have hb := World.block_lt_of_cell? w _ hci
    have hci2 : ∀ o, (w.alloc o).cell? ⟨b, off + i, none⟩ = some (.int .i64 (dg zs i)) := fun o => cell_alloc o hci
    have hlt : (i : Int) < (n : Int) := by omega
    clear hr hc h
    go_enter Tryz.func103, Tryz.ntmps103
    go_wp2
    go_ret
    exact ⟨rfl, (Below.refl _ _).alloc (Nat.le_refl _) _⟩
  · have hz : dg zs i = 0 := by unfold dg; simp [List.getD, List.getElem?_eq_none (by have := hr.1; omega : zs.length ≤ i)]
    have HZ := hid hz
    have hlt : ¬ (i : Int) < (n : Int) := by omega
    clear hr hz h
    go_enter Tryz.func103, Tryz.ntmps103
    go_wp2
    go_ret
    exact ⟨by rw [HZ.out]; rfl, (Below.refl _ _).alloc (Nat.le_refl _) _⟩

/-- Sign of a Big: as the number is. -/
theorem IsB.sgn {w : World} {L : Nat} {s : Bool} {A : Option Addr} {n c : Nat} {z : Int} (h : IsB w L s A n c z) : (n = 0 → z = 0 ∧ s = false) ∧ (0 < n → s = true → z < 0) ∧ (0 < n → s = false → 0 < z) := by
  obtain ⟨zs, h1, _, _, h2, h3, h4, h5⟩ := h
  refine ⟨fun e => ?_, fun e e' => ?_, fun e e' => ?_⟩
  · have : zs = [] := List.eq_nil_of_length_eq_zero (by rw [h1.1, e])
    subst this
    have hs : s = false := by cases s; rfl; exact absurd rfl (h4 rfl)
    subst hs
    exact ⟨by simpa [val] using h5, rfl⟩
  · have := val_pos h2 h3 (by intro e2; subst e2; have := h1.1; simp at this; omega)
    rw [h5, if_pos e']; omega
  · have := val_pos h2 h3 (by intro e2; subst e2; have := h1.1; simp at this; omega)
    rw [h5, e']; simpa using this

set_option maxHeartbeats 1000000 in
theorem Ref.sign (L : Nat) (s : Bool) (A : Option Addr) (n c : Nat) (z : Int) (w : World) (hz : IsB w L s A n c z) :
    Calls Tryz.prog 39 #[.agg #[.bool s, .slice A n c]] w fun e w' => e = .returned (.int .i64 (cmpI z 0)) ∧ Below w.heap.size w w' := by
  obtain ⟨g0, g1, g2⟩ := hz.sgn
  by_cases h : n = 0
  · subst h
    have HZ := hid (g0 rfl).1
    clear g0 g1 g2
    go_enter Tryz.func39, Tryz.ntmps39
    go_wp2
    go_ret
    exact ⟨by rw [HZ.out, cmpI_eq]; rfl, (Below.refl _ _).alloc (Nat.le_refl _) _⟩
  · have hn : ((n : Int) == 0) = false := by simpa using h
    have HG := hid (And.intro (g1 (by omega)) (g2 (by omega)))
    clear g0 g1 g2 h
    rcases s with _ | _
    · go_enter Tryz.func39, Tryz.ntmps39
      go_wp2
      go_ret
      exact ⟨by rw [cmpI_gt (HG.out.2 (by trivial))]; rfl, (Below.refl _ _).alloc (Nat.le_refl _) _⟩
    · go_enter Tryz.func39, Tryz.ntmps39
      go_wp2
      go_ret
      exact ⟨by rw [cmpI_lt (HG.out.1 (by trivial))]; rfl, (Below.refl _ _).alloc (Nat.le_refl _) _⟩
end

end Go.Proofs.YtoioeginfhkjjaaGreatDoor
