/- The contracts of the package vtime, continued: the spread; the chapter's example. -/
import Derived.Test.YtjklcbbanlaicaaVtime
import Derived.Test.YtjklcbbanlaicaaAwake
namespace Go.Proofs.Ytjklcbbanlaicaa
open Go.RowKit

theorem RdU.tail {k : IntKind} {w : World} {b off n : Nat} {z : Int} {zs : List Int} (h : RdU k w (some ⟨b, off, none⟩) (n + 1) (z :: zs)) : RdU k w (some ⟨b, off + 1, none⟩) n zs :=
  ⟨by have := h.1; simp at this; exact this, fun i hi => by
    obtain ⟨b', o', e, hl, hc⟩ := h.2 0 (by omega)
    injection e with e; injection e with e1 e2
    subst e1 e2
    refine ⟨b, off + 1, rfl, hl, fun j hj => ?_⟩
    have := hc (j + 1) (by omega)
    rw [show off + 1 + j = off + (j + 1) by omega, this]; rfl⟩
theorem RdU.head {k : IntKind} {w : World} {A : Option Addr} {n : Nat} {z : Int} {zs : List Int} (h : RdU k w A (n + 1) (z :: zs)) : ∃ b off, A = some ⟨b, off, none⟩ ∧ w.cell? ⟨b, off, none⟩ = some (.int k z) := by
  obtain ⟨b, off, e, hl, hc⟩ := h.2 0 (by omega)
  exact ⟨b, off, e, by have := hc 0 (by omega); simpa using this⟩

theorem below_on {W w w' : World} (h : Below W.heap.size W w) (hb : Below w.heap.size w w') : Below W.heap.size W w' := h.trans (hb.mono h.size)
/-- How far apart several are. -/
def spreadL : List Int → Int
  | [] => 0
  | z :: zs => IntKind.u64.wrap (dif (lastL z zs) (firstL z zs))

set_option maxHeartbeats 2000000 in
theorem Vtime.spread0 (w : World) :
    Calls Try.prog 48 #[.slice none 0 0] w fun e w' => e = .returned (.int .u64 0) ∧ Below w.heap.size w w' := by
  go_enter Try.func48, Try.ntmps48
  go_wp2
  go_ret
  exact ⟨rfl, Below.refl _ _⟩

set_option maxHeartbeats 2000000 in
theorem Vtime.spread (A : Option Addr) (n c : Nat) (z : Int) (zs : List Int) (w : World) (hz : RdU .u64 w A (n + 1) (z :: zs)) (hn : n + 1 ≤ c) (hn2 : n ≤ 1152921504606846976) :
    Calls Try.prog 48 #[.slice A (n + 1) c] w fun e w' => e = .returned (.int .u64 (spreadL (z :: zs))) ∧ Below w.heap.size w w' := by
  obtain ⟨b, off, rfl, hcell⟩ := hz.head
  have HB0 := hid (Below.refl w.heap.size w)
  have l1 : (1 : Int) ≤ (n : Int) + 1 := by omega
  have l2 : (n : Int) + 1 ≤ (c : Int) := by omega
  have l3 : (0 : Int) < (n : Int) + 1 := by omega
  have HC := hid hcell
  obtain ⟨A1, c1, HT, hA⟩ : ∃ (A1 : Option Addr) (c1 : Nat), Hid (RdU .u64 w A1 n zs) ∧ Hid (A1 = (if c = 1 then some ⟨b, off, none⟩ else some ⟨b, off + 1, none⟩)) := by
    by_cases h : c = 1
    · obtain rfl : n = 0 := by omega
      have h0 := hz.1
      obtain rfl : zs = [] := by simp at h0; exact h0
      exact ⟨_, 0, hid ⟨rfl, fun i hi => absurd hi (by omega)⟩, hid (by rw [if_pos h])⟩
    · exact ⟨_, c - 1, hid hz.tail, hid (by rw [if_neg h])⟩
  clear hz
  by_cases hc : c = 1
  · rw [if_pos hc] at hA
    subst hc
    have hA' := hA.out
    clear hA
    subst hA'
    obtain rfl : n = 0 := by omega
    go_enter Try.func48, Try.ntmps48
    go_wp2_with fail
    go_region_held3 (fun w' => w'.cell? ⟨b, off, none⟩ = some (.int .u64 z) ∧ Below w.heap.size w w')
      (first | exact ⟨HC.out, HB0.out.drew⟩ | exact ⟨keep1 hb2 (And.left (by assumption : _ ∧ Below w.heap.size w _)), below_on (And.right (by assumption : _ ∧ Below w.heap.size w _)) hb2⟩)
      (first | (go_at_call 49; refine (Vtime.first z _ _ _ zs _ (HT.out.below (And.right (by assumption : _ ∧ Below w.heap.size w _))) (by omega)).mono ?_; rintro e w2 ⟨rfl, hb2⟩))
    have hS1 : w2.cell? ⟨b, off, none⟩ = some (.int .u64 z) ∧ Below w.heap.size w w2 := by assumption
    obtain ⟨hcell2, hB1⟩ := hS1
    have HC2 := hid hcell2
    have HB1 := hid hB1
    clear hB1 hb2 hcell
    go_wp2_with fail
    go_region_held3 (fun w' => w'.cell? ⟨b, off, none⟩ = some (.int .u64 z) ∧ Below w.heap.size w w')
      (first | exact ⟨HC2.out, HB1.out.drew⟩ | exact ⟨keep1 hb3 (And.left (by assumption : _ ∧ Below w.heap.size w _)), below_on (And.right (by assumption : _ ∧ Below w.heap.size w _)) hb3⟩)
      (first | (go_at_call 51; refine (Vtime.last z _ _ _ zs _ (HT.out.below (And.right (by assumption : _ ∧ Below w.heap.size w _))) (by omega)).mono ?_; rintro e w3 ⟨rfl, hb3⟩))
    have hS2 : w3.cell? ⟨b, off, none⟩ = some (.int .u64 z) ∧ Below w.heap.size w w3 := by assumption
    have HB2 := hid hS2.2
    clear hS2 hb3 hcell2
    go_wp2_with fail
    refine (Vtime.since _ _ _).mono ?_
    rintro e w4 ⟨rfl, hb4⟩
    go_wp2_with fail
    go_ret
    exact ⟨rfl, below_on HB2.out hb4⟩
  · rw [if_neg hc] at hA
    have hA' := hA.out
    clear hA
    subst hA'
    have hc2 : ¬ (c : Int) = 1 := by omega
    have l4 : (1 : Int) ≤ (c : Int) := by omega
    go_enter Try.func48, Try.ntmps48
    go_wp2_with fail
    go_region_held3 (fun w' => w'.cell? ⟨b, off, none⟩ = some (.int .u64 z) ∧ Below w.heap.size w w')
      (first | exact ⟨HC.out, HB0.out.drew⟩ | exact ⟨keep1 hb2 (And.left (by assumption : _ ∧ Below w.heap.size w _)), below_on (And.right (by assumption : _ ∧ Below w.heap.size w _)) hb2⟩)
      (first | (go_at_call 49; refine (Vtime.first z _ _ _ zs _ (HT.out.below (And.right (by assumption : _ ∧ Below w.heap.size w _))) (by omega)).mono ?_; rintro e w2 ⟨rfl, hb2⟩))
    have hS1 : w2.cell? ⟨b, off, none⟩ = some (.int .u64 z) ∧ Below w.heap.size w w2 := by assumption
    obtain ⟨hcell2, hB1⟩ := hS1
    have HC2 := hid hcell2
    have HB1 := hid hB1
    clear hB1 hb2 hcell
    go_wp2_with fail
    go_region_held3 (fun w' => w'.cell? ⟨b, off, none⟩ = some (.int .u64 z) ∧ Below w.heap.size w w')
      (first | exact ⟨HC2.out, HB1.out.drew⟩ | exact ⟨keep1 hb3 (And.left (by assumption : _ ∧ Below w.heap.size w _)), below_on (And.right (by assumption : _ ∧ Below w.heap.size w _)) hb3⟩)
      (first | (go_at_call 51; refine (Vtime.last z _ _ _ zs _ (HT.out.below (And.right (by assumption : _ ∧ Below w.heap.size w _))) (by omega)).mono ?_; rintro e w3 ⟨rfl, hb3⟩))
    have hS2 : w3.cell? ⟨b, off, none⟩ = some (.int .u64 z) ∧ Below w.heap.size w w3 := by assumption
    have HB2 := hid hS2.2
    clear hS2 hb3 hcell2
    go_wp2_with fail
    refine (Vtime.since _ _ _).mono ?_
    rintro e w4 ⟨rfl, hb4⟩
    go_wp2_with fail
    go_ret
    exact ⟨rfl, below_on HB2.out hb4⟩

end Go.Proofs.Ytjklcbbanlaicaa
