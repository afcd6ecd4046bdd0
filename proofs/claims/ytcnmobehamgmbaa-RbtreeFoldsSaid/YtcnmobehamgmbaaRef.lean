/- The contracts of the document's answer for layer 1 (turnstoneref01). -/
import Derived.Test.YtcnmobehamgmbaaBits
import Derived.Test.YtcnmobehamgmbaaBig
import Derived.Deep.LoopGhost
import Derived.Deep.QuietTactic
import Derived.BigQuiet
namespace Go.Proofs.Ytcnmobehamgmbaa
open Go.RowKit

set_option maxHeartbeats 2000000 in
theorem Ref.trim (L : Nat) (s : Bool) (A : Option Addr) (n c : Nat) (zs : List Int) (w : World) (hr : Rd w A n zs) (hL : n ≤ L) (hL2 : L ≤ 4000000) (hc : n ≤ c) (hd : Dg zs) (z : Int) (HZ : Hid (z = if s then -val zs else val zs)) :
    Calls Try.prog 111 #[.agg #[.bool s, .slice A n c]] w (BAns L z w) := by
  have HR := hid hr
  have HD := hid hd
  clear hr hd
  go_enter Try.func111, Try.ntmps111
  go_wp2_with fail
  go_loopg [] n (fun g wr => ∃ k : Nat, g = k ∧ k ≤ n ∧ wr.cell? ⟨w.heap.size, 0, none⟩ = some (.bool s) ∧ wr.cell? ⟨w.heap.size, 1, none⟩ = some (.slice A k c) ∧ wr.frozen? ⟨w.heap.size, 1, none⟩ = false ∧ wr.cell? ⟨w.heap.size + 1, 0, none⟩ = some (.bool false) ∧ wr.cell? ⟨w.heap.size + 1, 1, none⟩ = some (.slice none 0 0) ∧ wr.frozen? ⟨w.heap.size + 1, 0, none⟩ = false ∧ wr.frozen? ⟨w.heap.size + 1, 1, none⟩ = false ∧ Rd wr A k (zs.take k) ∧ val zs = val (zs.take k) ∧ w.heap.size + 1 < wr.heap.size ∧ Below w.heap.size w wr)
  case atStart =>
    exact ⟨n, rfl, Nat.le_refl _, by simp [go_sem], by simp [go_sem], by simp [go_sem], by simp [go_sem], by simp [go_sem], by simp [go_sem], by simp [go_sem], by rw [List.take_of_length_le (by have := HR.out.1; omega)]; exact (HR.out.alloc _).alloc _, by rw [List.take_of_length_le (by have := HR.out.1; omega)], by simp, ((Below.refl _ _).alloc (Nat.le_refl _) _).alloc (by simp) _⟩
  case round =>
    obtain ⟨k, hg, hk, x0, x1, hf, y0, y1, g0, g1, hrd, hv, hs, hb⟩ := hrel
    have HG := hid hg
    clear hg
    have HRD := hid hrd
    have HV := hid hv
    have HB := hid hb
    clear hrd hv hb
    by_cases h0 : k = 0
    · subst h0
      go_wp2_with fail
      have ez : z = 0 := by
        have h1 := HZ.out; have h2 := HV.out
        simp [val] at h2; rw [h2] at h1; simpa using h1
      have HE := hid ez
      clear ez
      refine bodyPost_ret (v := .agg #[.bool false, .slice none 0 0]) (by simp [results, Try.results111, go_sem, y0, y1]) rfl ⟨_, _, _, _, rfl, by rw [HE.out]; exact IsB.zero _ _, ?_⟩
      exact (HB.out.setCell (by simp) _).setCell (by simp) _
    · obtain ⟨j, rfl⟩ : ∃ j, k = j + 1 := ⟨k - 1, by omega⟩
      obtain ⟨b, off, rfl, hcell⟩ := HRD.out.2 (by omega)
      have hcj := hcell j (by omega)
      rw [take_getD (by omega)] at hcj
      have hj0 : (0 : Int) < ((j + 1 : Nat) : Int) := by omega
      clear hcell
      by_cases h1 : zs.getD j 0 = 0
      · rw [h1] at hcj
        go_wp2_with fail
        go_roundg j
        case measure => have := HG.out; omega
        case rel =>
          refine ⟨j, rfl, by omega, by simp [go_sem, x0], ?_, by simp [go_sem, hf], by simp [go_sem, y0], by simp [go_sem, y1], by simp [go_sem, g0], by simp [go_sem, g1], ?_, ?_, by simpa using hs, HB.out.setCell (by simp) _⟩
          · simp [go_sem, x1]
          · have h3 := (HRD.out.take (k := j) (by omega)).setCell (g := w.heap.size) (fun b' off' e' _ => by
              injection e' with e'; injection e' with e'; subst e'
              have := HR.out.lt rfl (by omega); omega) 1 (.slice (some ⟨b, off, none⟩) j c)
            rw [List.take_take, show min j (j + 1) = j by omega] at h3
            exact h3
          · rw [HV.out]; exact val_take_nought (by have := HR.out.1; omega) h1
      · have h2 : (zs.getD j 0 == 0) = false := by simpa using h1
        have H1 := hid h1
        clear h1
        generalize zs.getD j 0 = d at hcj h2
        go_wp2_with fail
        refine bodyPost_ret (v := .agg #[.bool s, .slice (some ⟨b, off, none⟩) (j + 1) c]) (by simp [results, Try.results111, go_sem, y0, y1]) rfl ⟨_, _, _, _, rfl, ?_, ?_⟩
        · have hb : b < w.heap.size := HR.out.lt rfl (by omega)
          have hlen : (zs.take (j + 1)).length = j + 1 := HRD.out.1
          refine ⟨zs.take (j + 1), ?_, by omega, by omega, HD.out.take _, Nm.of_ne hlen (by rw [take_getD (by omega)]; exact H1.out), fun _ e => (by rw [e] at hlen; simp at hlen), by rw [HZ.out, HV.out]⟩
          exact (HRD.out.setCell (g := w.heap.size + 1) (fun b' off' e' _ => by injection e' with e'; injection e' with e'; omega) 0 _).setCell (g := w.heap.size + 1) (fun b' off' e' _ => by injection e' with e'; injection e' with e'; omega) 1 _
        · exact (HB.out.setCell (by simp) _).setCell (by simp) _

end Go.Proofs.Ytcnmobehamgmbaa
