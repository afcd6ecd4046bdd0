/- MuldivCarries: the walk. -/
import Derived.Test.YtjklcbbanlaicaaAll
import Derived.Test.YtjklcbbanlaicaaVturns
namespace Go.Proofs.Ytjklcbbanlaicaa
open Go.RowKit

set_option maxRecDepth 100000 in
set_option maxHeartbeats 8000000 in
theorem Carries.walk (num den rem : Int) (A : Option Addr) (n c : Nat) (zs : List Int) (n0 : 0 ≤ num) (n1 : num ≤ 18446744073709551615) (d0 : 0 ≤ den) (d1 : den ≤ 18446744073709551615) (r0 : 0 ≤ rem) (r1 : rem ≤ 18446744073709551615) (w : World) (hz : RdU .u64 w A n zs) (hi : InU zs) (hn : n ≤ 40) :
    Calls Try.prog 6 #[.int .u64 num, .int .u64 den, .int .u64 rem, .slice A n c] w fun e w' => e = .returned (.bool true) ∧ Below w.heap.size w w' := by
  have N0 := hid (And.intro n0 n1)
  have D0 := hid (And.intro d0 d1)
  have R0 := hid (And.intro r0 r1)
  clear n0 n1 d0 d1 r0 r1
  have HZ := hid hz
  have HI := hid hi
  have hl : ¬ (40 : Int) < (n : Int) := by omega
  clear hz hi
  go_enter Try.func6, Try.ntmps6
  go_wp2_with fail
  refine (Law2.awake _).mono ?_
  rintro e w1 ⟨rfl, hb1⟩
  have HBW1 := hid hb1
  clear hb1
  go_wp2_with fail
  refine (Muldiv.steps num den rem A n c zs N0.out.1 N0.out.2 D0.out.1 D0.out.2 R0.out.1 _ (HZ.out.below HBW1.out) HI.out (by omega)).mono ?_
  rintro e w2 ⟨q, r, ok, rfl, hs, hb2⟩
  have HSR := hid hs
  have HBW2 := hid (below_keep HBW1.out hb2)
  clear hs hb2
  go_wp2_with fail
  refine (Ref2.all num rem N0.out.1 N0.out.2 R0.out.1 R0.out.2 A n c zs _ (HZ.out.below HBW2.out) HI.out hn).mono ?_
  rintro e w3 ⟨s3, A3, n3, c3, rfl, hB, hb3⟩
  
  have H3 := hid hB
  have hBW3 := below_keep HBW2.out hb3
  have HBW3 := hid hBW3
  clear hB hb3 hBW3
  rcases HSR.out with ⟨rfl, g1, g2, g3, g4, g5, g6⟩ | ⟨rfl, rfl, rfl, h⟩
  · have G2 := hid g2
    have G3 := hid (And.intro g3 g4)
    have G5 := hid (And.intro g5 g6)
    have hlt : ¬ den ≤ rem := by omega
    have hle : ¬ den * 18446744073709551616 ≤ zs.sum * num + rem := by
      have : q * den ≤ 18446744073709551615 * den := Int.mul_le_mul_of_nonneg_right g6 D0.out.1
      omega
    have HG := hid (show false = true ↔ den * 18446744073709551616 ≤ zs.sum * num + rem from ⟨fun e => absurd e (by decide), fun e => absurd e hle⟩)
    clear g1 g2 g3 g4 g5 g6 hle HSR
    go_wp2_with fail
    refine (Ref2.great 51 (by decide) s3 A3 n3 c3 _ den D0.out.1 D0.out.2 _ (H3.out.alloc _) false HG.out).mono ?_
    rintro e w4 ⟨rfl, hb4⟩
    have hc0 := keep2 (w := w3.alloc (.cells #[.bool s3, .slice A3 n3 c3] 26)) (b0 := w3.heap.size) (o0 := 0) (v0 := .bool s3) (b1 := w3.heap.size) (o1 := 1) (v1 := .slice A3 n3 c3) ⟨by simp [go_sem], by simp [go_sem]⟩ hb4
    have HS0 : Hid ((w4.cell? ⟨w3.heap.size, 0, none⟩ = some (.bool s3) ∧ w4.cell? ⟨w3.heap.size, 1, none⟩ = some (.slice A3 n3 c3) ∧ w4.cell? ⟨w3.heap.size, 0, none⟩ = some (.bool s3) ∧ w4.cell? ⟨w3.heap.size, 1, none⟩ = some (.slice A3 n3 c3)) ∧ SQ w 500 s3 A3 n3 c3 (zs.sum * num + rem) w4) := hid ⟨⟨hc0.1, hc0.2, hc0.1, hc0.2⟩, below_keep (HBW3.out.alloc HBW3.out.size _) hb4, ((H3.out.alloc _).below hb4).mono (by decide)⟩
    clear hb4 hc0 H3 HBW3
    go_wp2_with fail
    go_region_held3 (fun w' => (w'.cell? ⟨w3.heap.size, 0, none⟩ = some (.bool s3) ∧ w'.cell? ⟨w3.heap.size, 1, none⟩ = some (.slice A3 n3 c3) ∧ w'.cell? ⟨w3.heap.size, 0, none⟩ = some (.bool s3) ∧ w'.cell? ⟨w3.heap.size, 1, none⟩ = some (.slice A3 n3 c3)) ∧ SQ w 500 s3 A3 n3 c3 (zs.sum * num + rem) w')
      (first | exact ⟨HS0.out.1, HS0.out.2.1.drew, HS0.out.2.2.drew⟩ | exact keepP (by assumption) hb5 (fun h => SQ.below h hb5))
      (first
        | (go_at_call_of 34 (Value.int .u64 q); refine (Ref.U q G5.out.1 G5.out.2 _).mono ?_; rintro e w5 ⟨s5, A5, n5, c5, rfl, hB, hb5⟩; have H5 := hid (hB.mono (show 5 ≤ 300 by decide)); clear hB)
        | (go_at_call_of 34 (Value.int .u64 r); refine (Ref.U r G3.out.1 (by have := G3.out.2; have := D0.out.2; omega) _).mono ?_; rintro e w6 ⟨s6, A6, n6, c6, rfl, hB, hb5⟩; have H6 := hid (hB.mono (show 5 ≤ 300 by decide)); have H5' := hid (H5.out.below hb5); have HX := hid (SQ.below (And.right (by assumption : (_ ∧ _ ∧ _ ∧ _) ∧ SQ w 500 s3 A3 n3 c3 (zs.sum * num + rem) _)) hb5).2; clear hB)
        | (go_at_call 33; refine (Ref2.is den _ q r D0.out.1 D0.out.2 G3.out.1 G3.out.2 G2.out s3 s5 s6 A3 A5 A6 n3 c3 n5 c5 n6 c6 _ HX.out H5'.out H6.out).mono ?_; rintro e w7 ⟨rfl, hb5⟩))
    have HFIN := hid (And.right (by assumption : (_ ∧ _ ∧ _ ∧ _) ∧ SQ w 500 s3 A3 n3 c3 (zs.sum * num + rem) w7)).1
    go_wp2
    go_ret
    exact ⟨rfl, HFIN.out⟩
  · by_cases c1 : den ≤ rem
    · clear h HSR
      go_wp2_with fail
      go_ret
      exact ⟨rfl, HBW3.out.alloc HBW3.out.size _⟩
    · have HG := hid (show True ↔ den * 18446744073709551616 ≤ zs.sum * num + rem from ⟨fun _ => by omega, fun _ => trivial⟩)
      clear h HSR
      go_wp2_with fail
      refine (Ref2.great 51 (by decide) s3 A3 n3 c3 _ den D0.out.1 D0.out.2 _ (H3.out.alloc _) true ⟨fun _ => HG.out.1 trivial, fun _ => rfl⟩).mono ?_
      rintro e w4 ⟨rfl, hb4⟩
      have HFIN := hid (below_keep (HBW3.out.alloc HBW3.out.size _) hb4)
      clear hb4
      go_wp2_with fail
      go_ret
      exact ⟨rfl, HFIN.out⟩

set_option maxHeartbeats 1000000 in
theorem Carries.away (num den rem : Int) (A : Option Addr) (n c : Nat) (w : World) (hn : 40 < n) :
    Calls Try.prog 6 #[.int .u64 num, .int .u64 den, .int .u64 rem, .slice A n c] w fun e w' => e = .returned (.bool true) ∧ Below w.heap.size w w' := by
  have h2 : (40 : Int) < (n : Int) := by omega
  clear hn
  go_enter Try.func6, Try.ntmps6
  go_wp2_with fail
  refine (Law2.awake _).mono ?_
  rintro e w1 ⟨rfl, hb1⟩
  go_wp2_with fail
  go_ret
  exact ⟨rfl, hb1⟩

theorem Carries.law (num den rem : Int) (A : Option Addr) (n c : Nat) (zs : List Int) (w : World) (w1 : (Lit.int .u64 num).wf = true) (w2 : (Lit.int .u64 den).wf = true) (w3 : (Lit.int .u64 rem).wf = true) (h : RdU .u64 w A n zs ∧ InU zs ∧ n ≤ c ∧ n ≤ 9223372036854775807) :
    Calls Try.prog 6 #[.int .u64 num, .int .u64 den, .int .u64 rem, .slice A n c] w fun e w' => e = .returned (.bool true) ∧ Below w.heap.size w w' := by
  by_cases hn : n ≤ 40
  · exact Carries.walk num den rem A n c zs (bounds_u64 w1).1 (bounds_u64 w1).2 (bounds_u64 w2).1 (bounds_u64 w2).2 (bounds_u64 w3).1 (bounds_u64 w3).2 w h.1 h.2.1 hn
  · exact Carries.away num den rem A n c w (by omega)

end Go.Proofs.Ytjklcbbanlaicaa
