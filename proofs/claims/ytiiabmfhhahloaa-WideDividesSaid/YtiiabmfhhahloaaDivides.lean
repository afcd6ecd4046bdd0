/- WideDivides: the walk. -/
import Derived.Test.YtiiabmfhhahloaaTold
import Derived.Test.YtiiabmfhhahloaaWideD
import Derived.Test.YtiiabmfhhahloaaOpen
namespace Go.Proofs.Ytiiabmfhhahloaa
open Go.RowKit

set_option maxRecDepth 100000 in
set_option maxHeartbeats 8000000 in
theorem Divides.walk (ah al b a : Int) (ha : IsW ah al a) (b0 : 0 ≤ b) (b1 : b ≤ 18446744073709551615) (w : World) :
    Calls Try.prog 4 #[.agg #[.int .i64 ah, .int .u64 al], .int .u64 b] w fun e w' => e = .returned (.bool true) ∧ Below w.heap.size w w' := by
  go_enter Try.func4, Try.ntmps4
  go_wp2_with fail
  refine (Law1.awake _).mono ?_
  rintro e w1 ⟨rfl, hb1⟩
  obtain ⟨x0, x1⟩ : w1.cell? ⟨w.heap.size, 0, none⟩ = some (.int .i64 ah) ∧ w1.cell? ⟨w.heap.size, 1, none⟩ = some (.int .u64 al) := keep2 ⟨by simp [go_sem], by simp [go_sem]⟩ hb1
  have HB1 := hid (((Below.refl _ w).alloc (Nat.le_refl _) (.cells #[.int .i64 ah, .int .u64 al] 24)).trans (hb1.mono (by simp)))
  clear hb1
  by_cases hz : b = 0
  · subst hz
    go_wp2_with fail
    refine (Wide.div0 ah al _).mono ?_
    rintro e w2 ⟨rfl, hb2⟩
    have HB2 := hid (below_keep HB1.out hb2)
    clear hb2
    go_wp2_with fail
    go_ret
    exact ⟨rfl, HB2.out.alloc HB2.out.size _⟩
  · have hz' : (b == 0) = false := by simpa using hz
    go_wp2_with fail
    refine (Wide.div ah al a b ha (by omega) b1 _).mono ?_
    rintro e w2 ⟨qh, ql, q, r, rfl, ⟨hq, he, r0, r1⟩, hb2⟩
    obtain ⟨y0, y1⟩ : w2.cell? ⟨w.heap.size, 0, none⟩ = some (.int .i64 ah) ∧ w2.cell? ⟨w.heap.size, 1, none⟩ = some (.int .u64 al) := keep2 ⟨x0, x1⟩ hb2
    have HB2 := hid (below_keep HB1.out hb2)
    have HQ := hid hq
    have f : (cmpI (q * b + r) a == 0) = true := by rw [he, cmpI_eq]; rfl
    have HS0 : Hid (((w2.alloc (.cells #[.int .i64 qh, .int .u64 ql] 24)).cell? ⟨w.heap.size, 0, none⟩ = some (.int .i64 ah) ∧ (w2.alloc (.cells #[.int .i64 qh, .int .u64 ql] 24)).cell? ⟨w.heap.size, 1, none⟩ = some (.int .u64 al) ∧
        (w2.alloc (.cells #[.int .i64 qh, .int .u64 ql] 24)).cell? ⟨w2.heap.size, 0, none⟩ = some (.int .i64 qh) ∧ (w2.alloc (.cells #[.int .i64 qh, .int .u64 ql] 24)).cell? ⟨w2.heap.size, 1, none⟩ = some (.int .u64 ql)) ∧ Below w.heap.size w (w2.alloc (.cells #[.int .i64 qh, .int .u64 ql] 24))) :=
      hid ⟨⟨cell_alloc _ y0, cell_alloc _ y1, by simp [go_sem], by simp [go_sem]⟩, HB2.out.alloc HB2.out.size _⟩
    clear hb2 hq he y0 y1 x0 x1
    go_wp2_with fail
    go_region_held3 (fun w' => (w'.cell? ⟨w.heap.size, 0, none⟩ = some (.int .i64 ah) ∧ w'.cell? ⟨w.heap.size, 1, none⟩ = some (.int .u64 al) ∧ w'.cell? ⟨w2.heap.size, 0, none⟩ = some (.int .i64 qh) ∧ w'.cell? ⟨w2.heap.size, 1, none⟩ = some (.int .u64 ql)) ∧ Below w.heap.size w w')
      (first | exact ⟨HS0.out.1, HS0.out.2.drew⟩ | exact keepP (by assumption) hb2 (fun h => below_keep h hb2))
      (first
        | (go_at_call_of 14 (Value.agg #[.int .i64 qh, .int .u64 ql]); refine (Law.of qh ql q HQ.out _).mono ?_; rintro e w3 ⟨s3, A3, n3, c3, rfl, hB, hb2⟩; have H3 := hid hB; clear hB)
        | (go_at_call_of 30 (Value.int .u64 b); refine (Ref.U b b0 b1 _).mono ?_; rintro e w4 ⟨s4, A4, n4, c4, rfl, hB, hb2⟩; have H4 := hid hB; have H34 := hid (H3.out.below hb2); clear hB)
        | (go_at_call 23; refine (Ref.mul 18 5 s3 s4 A3 A4 n3 c3 n4 c4 q b _ H34.out H4.out (by decide) (by decide)).mono ?_; rintro e w5 ⟨s5, A5, n5, c5, rfl, hB, hb2⟩; have H5 := hid hB; clear hB)
        | (go_at_call_of 30 (Value.int .u64 r); refine (Ref.U r r0 (by omega) _).mono ?_; rintro e w6 ⟨s6, A6, n6, c6, rfl, hB, hb2⟩; have H6 := hid (hB.mono (show 5 ≤ 24 by decide)); have H56 := hid (H5.out.below hb2); clear hB)
        | (go_at_call 20; refine (Ref.add 24 s5 s6 A5 A6 n5 c5 n6 c6 _ _ _ H56.out H6.out (by decide)).mono ?_; rintro e w7 ⟨s7, A7, n7, c7, rfl, hB, hb2⟩; have H7 := hid hB; clear hB)
        | (go_at_call_of 14 (Value.agg #[.int .i64 ah, .int .u64 al]); refine (Law.of ah al a ha _).mono ?_; rintro e w8 ⟨s8, A8, n8, c8, rfl, hB, hb2⟩; have H8 := hid (hB.mono (show 18 ≤ 25 by decide)); have H78 := hid (H7.out.below hb2); clear hB)
        | (go_at_call 26; refine (Ref.cmp 25 s7 s8 A7 A8 n7 c7 n8 c8 _ _ _ H78.out H8.out (by decide)).mono ?_; rintro e w9 ⟨rfl, hb2⟩))
    obtain ⟨_, hfin⟩ : (_ ∧ _ ∧ _ ∧ _) ∧ Below w.heap.size w w9 := by assumption
    have HFIN := hid hfin
    clear hfin
    go_wp2
    go_ret
    exact ⟨rfl, HFIN.out⟩

theorem Divides.law (a0 b0 a1 : Int) (w : World) (w0 : IsWd a0 b0) (w1 : (Lit.int .u64 a1).wf = true) :
    Calls Try.prog 4 #[.agg #[.int .i64 a0, .int .u64 b0], .int .u64 a1] w fun e w' => e = .returned (.bool true) ∧ Below w.heap.size w w' :=
  Divides.walk a0 b0 a1 _ w0 (bounds_u64 w1).1 (bounds_u64 w1).2 w

end Go.Proofs.Ytiiabmfhhahloaa
