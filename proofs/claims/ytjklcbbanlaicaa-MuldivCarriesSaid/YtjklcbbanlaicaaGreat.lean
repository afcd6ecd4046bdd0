/- The contracts of the document's answer for layer 2 (turnstoneref02): is a number so great? -/
import Derived.Test.YtjklcbbanlaicaaTold
namespace Go.Proofs.Ytjklcbbanlaicaa
open Go.RowKit

set_option maxRecDepth 100000 in
set_option maxHeartbeats 4000000 in
theorem Ref2.great (K : Nat) (hK : K ≤ 1000) (s : Bool) (A : Option Addr) (n c : Nat) (x b : Int) (b0 : 0 ≤ b) (b1 : b ≤ 18446744073709551615) (w : World) (hx : IsB w K s A n c x) (v : Bool) (hv : v = true ↔ b * 18446744073709551616 ≤ x) :
    Calls Try.prog 32 #[.agg #[.bool s, .slice A n c], .int .u64 b] w fun e w' => e = .returned (.bool v) ∧ Below w.heap.size w w' := by
  obtain ⟨P, hP⟩ : ∃ P : Int, P = 2 ^ 64 := ⟨_, rfl⟩
  have hP2 : P = 18446744073709551616 := by rw [hP]; rfl
  rw [← hP2] at hv
  have HP := hid hP
  have HX := hid (hx.mono (show K ≤ 1132 by omega))
  have f : decide (0 ≤ cmpI x (b * P)) = v := by
    rcases Int.lt_trichotomy x (b * P) with h | h | h
    · rw [cmpI_lt h]
      cases v
      · rfl
      · have := hv.1 rfl; omega
    · rw [h, cmpI_eq]
      cases v
      · exact absurd (hv.2 (by omega)) (by decide)
      · rfl
    · rw [cmpI_gt h]
      cases v
      · exact absurd (hv.2 (by omega)) (by decide)
      · rfl
  clear hP hP2 hx hv
  go_enter Try.func32, Try.ntmps32
  go_wp2_with fail
  obtain ⟨W0, hW⟩ : ∃ W0, W0 = w.alloc (Obj.cells #[Value.bool s, Value.slice A n c] 26) := ⟨_, rfl⟩
  rw [← hW]
  have HS0 : Hid ((W0.cell? ⟨w.heap.size, 0, none⟩ = some (.bool s) ∧ W0.cell? ⟨w.heap.size, 1, none⟩ = some (.slice A n c) ∧ W0.cell? ⟨w.heap.size, 0, none⟩ = some (.bool s) ∧ W0.cell? ⟨w.heap.size, 1, none⟩ = some (.slice A n c)) ∧ SQ w 1132 s A n c x W0) :=
    hid (by rw [hW]; exact ⟨⟨by simp [go_sem], by simp [go_sem], by simp [go_sem], by simp [go_sem]⟩, (Below.refl _ _).alloc (Nat.le_refl _) _, HX.out.alloc _⟩)
  clear hW
  go_region_held3 (fun w' => (w'.cell? ⟨w.heap.size, 0, none⟩ = some (.bool s) ∧ w'.cell? ⟨w.heap.size, 1, none⟩ = some (.slice A n c) ∧ w'.cell? ⟨w.heap.size, 0, none⟩ = some (.bool s) ∧ w'.cell? ⟨w.heap.size, 1, none⟩ = some (.slice A n c)) ∧ SQ w 1132 s A n c x w')
    (first | exact ⟨HS0.out.1, HS0.out.2.1.drew, HS0.out.2.2.drew⟩ | exact keepP (by assumption) hb2 (fun h => SQ.below h hb2))
    (first
      | (go_at_call 34; refine (Ref.U b b0 b1 _).mono ?_; rintro e w2 ⟨s2, A2, n2, c2, rfl, hB, hb2⟩; have H2 := hid hB; clear hB)
      | (go_at_call 74; refine (Ref.power 64 (by decide) _).mono ?_; rintro e w3 ⟨s3, A3, n3, c3, rfl, hB, hb2⟩; rw [← HP.out] at hB; have H3 := hid hB; have H23 := hid (H2.out.below hb2); clear hB)
      | (go_at_call 37; refine (Ref.mul 5 69 s2 s3 A2 A3 n2 c2 n3 c3 b P _ H23.out H3.out (by decide) (by decide)).mono ?_; rintro e w4 ⟨s4, A4, n4, c4, rfl, hB, hb2⟩; have H4 := hid (hB.mono (show 75 ≤ 1132 by decide)); have HX4 := hid (SQ.below (And.right (by assumption : (_ ∧ _ ∧ _ ∧ _) ∧ SQ w 1132 s A n c x _)) hb2).2; clear hB)
      | (go_at_call 40; refine (Ref.cmp 1132 s s4 A A4 n c n4 c4 x (b * P) _ HX4.out H4.out (by decide)).mono ?_; rintro e w5 ⟨rfl, hb2⟩))
  obtain ⟨_, hfin⟩ : (_ ∧ _ ∧ _ ∧ _) ∧ SQ w 1132 s A n c x w5 := by assumption
  have HFIN := hid hfin.1
  clear hfin
  go_wp2
  go_ret
  exact ⟨rfl, HFIN.out⟩

end Go.Proofs.Ytjklcbbanlaicaa
