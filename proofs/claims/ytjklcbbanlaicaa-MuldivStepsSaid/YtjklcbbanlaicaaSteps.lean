/- MuldivSteps: the walk. -/
import Derived.Test.YtjklcbbanlaicaaAll
import Derived.Test.YtjklcbbanlaicaaVturns
namespace Go.Proofs.Ytjklcbbanlaicaa
open Go.RowKit

set_option maxRecDepth 100000 in
set_option maxHeartbeats 8000000 in
theorem Steps.walk (a num den rem : Int) (a0 : 0 ≤ a) (a1 : a ≤ 18446744073709551615) (n0 : 0 ≤ num) (n1 : num ≤ 18446744073709551615) (d0 : 0 ≤ den) (d1 : den ≤ 18446744073709551615) (r0 : 0 ≤ rem) (r1 : rem ≤ 18446744073709551615) (w : World) :
    Calls Try.prog 5 #[.int .u64 a, .int .u64 num, .int .u64 den, .int .u64 rem] w fun e w' => e = .returned (.bool true) ∧ Below w.heap.size w w' := by
  have N0 := hid (And.intro n0 n1)
  have D0 := hid (And.intro d0 d1)
  have R0 := hid (And.intro r0 r1)
  clear n0 n1 d0 d1 r0 r1
  have A0 := hid (And.intro a0 a1)
  clear a0 a1
  go_enter Try.func5, Try.ntmps5
  go_wp2_with fail
  refine (Law2.awake _).mono ?_
  rintro e w1 ⟨rfl, hb1⟩
  have HBW1 := hid hb1
  clear hb1
  go_wp2_with fail
  refine (Muldiv.step a num den rem A0.out.1 A0.out.2 N0.out.1 N0.out.2 D0.out.1 D0.out.2 R0.out.1 R0.out.2 _).mono ?_
  rintro e w2 ⟨q, r, ok, rfl, hs, hb2⟩
  have HSR := hid hs
  have HBW2 := hid (below_keep HBW1.out hb2)
  clear hs hb2
  go_wp2_with fail
  refine (Ref2.all num rem N0.out.1 N0.out.2 R0.out.1 R0.out.2 _ 1 1 [a] _ (RdU.new1 _ _ _ _) (by intro z hz; simp at hz; subst hz; exact A0.out) (by decide)).mono ?_
  rintro e w3 ⟨s3, A3, n3, c3, rfl, hB, hb3⟩
  have hB := (show IsB _ 51 s3 A3 n3 c3 (a * num + rem) by simpa using hB)
  have H3 := hid hB
  have hBW3 := below_keep HBW2.out ((((Below.refl _ w2).alloc (Nat.le_refl _) (.cells #[.int .u64 a] 27)).trans (hb3.mono (by simp))))
  have HBW3 := hid hBW3
  clear hB hb3 hBW3
  rcases HSR.out with ⟨rfl, g1, g2, g3, g4, g5, g6⟩ | ⟨rfl, rfl, rfl, h⟩
  · have G2 := hid g2
    have G3 := hid (And.intro g3 g4)
    have G5 := hid (And.intro g5 g6)
    have hlt : ¬ den ≤ rem := by omega
    have hle : ¬ den * 18446744073709551616 ≤ a * num + rem := by
      have : q * den ≤ 18446744073709551615 * den := Int.mul_le_mul_of_nonneg_right g6 D0.out.1
      omega
    have HG := hid (show false = true ↔ den * 18446744073709551616 ≤ a * num + rem from ⟨fun e => absurd e (by decide), fun e => absurd e hle⟩)
    clear g1 g2 g3 g4 g5 g6 hle HSR
    go_wp2_with fail
    refine (Ref2.great 51 (by decide) s3 A3 n3 c3 _ den D0.out.1 D0.out.2 _ (H3.out.alloc _) false HG.out).mono ?_
    rintro e w4 ⟨rfl, hb4⟩
    have hc0 := keep2 (w := w3.alloc (.cells #[.bool s3, .slice A3 n3 c3] 26)) (b0 := w3.heap.size) (o0 := 0) (v0 := .bool s3) (b1 := w3.heap.size) (o1 := 1) (v1 := .slice A3 n3 c3) ⟨by simp [go_sem], by simp [go_sem]⟩ hb4
    have HS0 : Hid ((w4.cell? ⟨w3.heap.size, 0, none⟩ = some (.bool s3) ∧ w4.cell? ⟨w3.heap.size, 1, none⟩ = some (.slice A3 n3 c3) ∧ w4.cell? ⟨w3.heap.size, 0, none⟩ = some (.bool s3) ∧ w4.cell? ⟨w3.heap.size, 1, none⟩ = some (.slice A3 n3 c3)) ∧ SQ w 500 s3 A3 n3 c3 (a * num + rem) w4) := hid ⟨⟨hc0.1, hc0.2, hc0.1, hc0.2⟩, below_keep (HBW3.out.alloc HBW3.out.size _) hb4, ((H3.out.alloc _).below hb4).mono (by decide)⟩
    clear hb4 hc0 H3 HBW3
    go_wp2_with fail
    go_region_held3 (fun w' => (w'.cell? ⟨w3.heap.size, 0, none⟩ = some (.bool s3) ∧ w'.cell? ⟨w3.heap.size, 1, none⟩ = some (.slice A3 n3 c3) ∧ w'.cell? ⟨w3.heap.size, 0, none⟩ = some (.bool s3) ∧ w'.cell? ⟨w3.heap.size, 1, none⟩ = some (.slice A3 n3 c3)) ∧ SQ w 500 s3 A3 n3 c3 (a * num + rem) w')
      (first | exact ⟨HS0.out.1, HS0.out.2.1.drew, HS0.out.2.2.drew⟩ | exact keepP (by assumption) hb5 (fun h => SQ.below h hb5))
      (first
        | (go_at_call_of 34 (Value.int .u64 q); refine (Ref.U q G5.out.1 G5.out.2 _).mono ?_; rintro e w5 ⟨s5, A5, n5, c5, rfl, hB, hb5⟩; have H5 := hid (hB.mono (show 5 ≤ 300 by decide)); clear hB)
        | (go_at_call_of 34 (Value.int .u64 r); refine (Ref.U r G3.out.1 (by have := G3.out.2; have := D0.out.2; omega) _).mono ?_; rintro e w6 ⟨s6, A6, n6, c6, rfl, hB, hb5⟩; have H6 := hid (hB.mono (show 5 ≤ 300 by decide)); have H5' := hid (H5.out.below hb5); have HX := hid (SQ.below (And.right (by assumption : (_ ∧ _ ∧ _ ∧ _) ∧ SQ w 500 s3 A3 n3 c3 (a * num + rem) _)) hb5).2; clear hB)
        | (go_at_call 33; refine (Ref2.is den _ q r D0.out.1 D0.out.2 G3.out.1 G3.out.2 G2.out s3 s5 s6 A3 A5 A6 n3 c3 n5 c5 n6 c6 _ HX.out H5'.out H6.out).mono ?_; rintro e w7 ⟨rfl, hb5⟩))
    have HFIN := hid (And.right (by assumption : (_ ∧ _ ∧ _ ∧ _) ∧ SQ w 500 s3 A3 n3 c3 (a * num + rem) w7)).1
    go_wp2
    go_ret
    exact ⟨rfl, HFIN.out⟩
  · by_cases c1 : den ≤ rem
    · clear h HSR
      go_wp2_with fail
      go_ret
      exact ⟨rfl, HBW3.out.alloc HBW3.out.size _⟩
    · have HG := hid (show True ↔ den * 18446744073709551616 ≤ a * num + rem from ⟨fun _ => by omega, fun _ => trivial⟩)
      clear h HSR
      go_wp2_with fail
      refine (Ref2.great 51 (by decide) s3 A3 n3 c3 _ den D0.out.1 D0.out.2 _ (H3.out.alloc _) true ⟨fun _ => HG.out.1 trivial, fun _ => rfl⟩).mono ?_
      rintro e w4 ⟨rfl, hb4⟩
      have HFIN := hid (below_keep (HBW3.out.alloc HBW3.out.size _) hb4)
      clear hb4
      go_wp2_with fail
      go_ret
      exact ⟨rfl, HFIN.out⟩

theorem Steps.law (a num den rem : Int) (w : World) (w0 : (Lit.int .u64 a).wf = true) (w1 : (Lit.int .u64 num).wf = true) (w2 : (Lit.int .u64 den).wf = true) (w3 : (Lit.int .u64 rem).wf = true) :
    Calls Try.prog 5 #[.int .u64 a, .int .u64 num, .int .u64 den, .int .u64 rem] w fun e w' => e = .returned (.bool true) ∧ Below w.heap.size w w' :=
  Steps.walk a num den rem (bounds_u64 w0).1 (bounds_u64 w0).2 (bounds_u64 w1).1 (bounds_u64 w1).2 (bounds_u64 w2).1 (bounds_u64 w2).2 (bounds_u64 w3).1 (bounds_u64 w3).2 w

end Go.Proofs.Ytjklcbbanlaicaa
