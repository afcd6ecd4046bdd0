/- MuldivGrows: the walk. -/
import Derived.Test.YtiiabmfhhahloaaMuldiv
namespace Go.Proofs.Ytiiabmfhhahloaa
open Go.RowKit

/-- For a greater amount the quotient is no less. -/
theorem StepR.mono {a b num den rem q r p s : Int} {ok is : Bool} (h : StepR a num den rem q r ok) (g : StepR b num den rem p s is) (hab : a ≤ b) (n0 : 0 ≤ num) (hi : is = true) : ok = true ∧ q ≤ p := by
  have hm := Int.mul_le_mul_of_nonneg_right hab n0
  rcases g with ⟨_, g1, g2, g3, g4, g5, g6⟩ | ⟨gi, _⟩
  · rcases h with ⟨rfl, h1, h2, h3, h4, h5, h6⟩ | ⟨rfl, _, _, h1⟩
    · refine ⟨rfl, ?_⟩
      rcases Int.lt_or_le p q with hh | hh
      · have : (p + 1) * den ≤ q * den := Int.mul_le_mul_of_nonneg_right (by omega) (by omega)
        rw [Int.add_mul, Int.one_mul] at this; omega
      · exact hh
    · have : p * den ≤ 18446744073709551615 * den := Int.mul_le_mul_of_nonneg_right g6 (by omega)
      omega
  · rw [hi] at gi; cases gi
/-- For one of den more it is num more, with the same left. -/
theorem StepR.more {a num den rem q r p s : Int} {ok is : Bool} (h : StepR a num den rem q r ok) (g : StepR (a + den) num den rem p s is) (n0 : 0 ≤ num) (d0 : 0 ≤ den) (hi : is = true) : ok = true ∧ p = q + num ∧ r = s := by
  obtain ⟨rfl, _⟩ := h.mono g (by omega) n0 hi
  refine ⟨rfl, ?_⟩
  rcases g with ⟨_, g1, g2, g3, g4, g5, g6⟩ | ⟨gi, _⟩
  · rcases h with ⟨_, h1, h2, h3, h4, h5, h6⟩ | ⟨hh, _⟩
    · have e : (a + den) * num + rem = (q + num) * den + r := by rw [Int.add_mul, Int.add_mul, Int.mul_comm num den]; omega
      rw [e] at g2
      have e2 : p = q + num := by
        rcases Int.lt_trichotomy p (q + num) with hh | hh | hh
        · have : (p + 1) * den ≤ (q + num) * den := Int.mul_le_mul_of_nonneg_right (by omega) (by omega)
          rw [Int.add_mul p, Int.one_mul] at this; omega
        · exact hh
        · have : (q + num + 1) * den ≤ p * den := Int.mul_le_mul_of_nonneg_right (by omega) (by omega)
          rw [Int.add_mul (q + num) 1, Int.one_mul] at this; omega
      subst e2
      exact ⟨rfl, by omega⟩
    · cases hh
  · rw [hi] at gi; cases gi

set_option maxHeartbeats 2000000 in
theorem Grows.law (a b num den rem : Int) (w : World) (wa : (Lit.int .u64 a).wf = true) (wb : (Lit.int .u64 b).wf = true) (wn : (Lit.int .u64 num).wf = true) (wd : (Lit.int .u64 den).wf = true) (wr : (Lit.int .u64 rem).wf = true) :
    Calls Try.prog 12 #[.int .u64 a, .int .u64 b, .int .u64 num, .int .u64 den, .int .u64 rem] w fun e w' => e = .returned (.bool true) ∧ Below w.heap.size w w' := by
  obtain ⟨a0, a1⟩ := bounds_u64 wa
  obtain ⟨b0, b1⟩ := bounds_u64 wb
  obtain ⟨n0, n1⟩ := bounds_u64 wn
  obtain ⟨d0, d1⟩ := bounds_u64 wd
  obtain ⟨r0, r1⟩ := bounds_u64 wr
  clear wa wb wn wd wr
  go_enter Try.func12, Try.ntmps12
  go_wp2_with fail
  refine (Law2.awake _).mono ?_
  rintro e w1 ⟨rfl, hb1⟩
  go_wp2_with fail
  refine (Muldiv.step (min a b) num den rem (by omega) (by omega) n0 n1 d0 d1 r0 r1 _).mono ?_
  rintro e w2 ⟨q, qr, ok, rfl, hs2, hb2⟩
  go_wp2_with fail
  refine (Muldiv.step (max a b) num den rem (by omega) (by omega) n0 n1 d0 d1 r0 r1 _).mono ?_
  rintro e w3 ⟨p, pr, is, rfl, hs3, hb3⟩
  have M := hs2.mono hs3 (by omega) n0
  have BB := hid (hb1.trans ((hb2.trans (hb3.mono hb2.size)).mono hb1.size))
  clear hs2 hs3 hb1 hb2 hb3
  rcases is with _ | _
  · clear M
    by_cases c : a + den ≤ 18446744073709551615
    · have c1 : IntKind.u64.wrap (a + den) = a + den := by rw [IntKind.wrap_u64]; omega
      have c2 : ¬ a + den < a := by omega
      go_wp2_with fail
      refine (Muldiv.step a num den rem a0 a1 n0 n1 d0 d1 r0 r1 _).mono ?_
      rintro e w4 ⟨x, r, fits, rfl, hs4, hb4⟩
      go_wp2_with fail
      refine (Muldiv.step (a + den) num den rem (by omega) c n0 n1 d0 d1 r0 r1 _).mono ?_
      rintro e w5 ⟨y, s, can, rfl, hs5, hb5⟩
      have M := hs4.more hs5 n0 d0
      have HM := hid M
      have B5 := hid (BB.out.trans ((hb4.trans (hb5.mono hb4.size)).mono BB.out.size))
      clear M hs4 hs5 hb4 hb5
      rcases can with _ | _
      · go_wp2
        go_ret
        exact ⟨rfl, B5.out⟩
      · obtain ⟨rfl, rfl, rfl⟩ := HM.out rfl
        go_wp2
        go_ret
        exact ⟨by simp, B5.out⟩
    · have c1 : IntKind.u64.wrap (a + den) < a := by rw [IntKind.wrap_u64]; omega
      go_wp2
      go_ret
      exact ⟨rfl, BB.out⟩
  · obtain ⟨rfl, hqp⟩ := M rfl
    clear M
    by_cases c : a + den ≤ 18446744073709551615
    · have c1 : IntKind.u64.wrap (a + den) = a + den := by rw [IntKind.wrap_u64]; omega
      have c2 : ¬ a + den < a := by omega
      go_wp2_with fail
      refine (Muldiv.step a num den rem a0 a1 n0 n1 d0 d1 r0 r1 _).mono ?_
      rintro e w4 ⟨x, r, fits, rfl, hs4, hb4⟩
      go_wp2_with fail
      refine (Muldiv.step (a + den) num den rem (by omega) c n0 n1 d0 d1 r0 r1 _).mono ?_
      rintro e w5 ⟨y, s, can, rfl, hs5, hb5⟩
      have M := hs4.more hs5 n0 d0
      have HM := hid M
      have B5 := hid (BB.out.trans ((hb4.trans (hb5.mono hb4.size)).mono BB.out.size))
      clear M hs4 hs5 hb4 hb5
      rcases can with _ | _
      · go_wp2
        go_ret
        exact ⟨rfl, B5.out⟩
      · obtain ⟨rfl, rfl, rfl⟩ := HM.out rfl
        go_wp2
        go_ret
        exact ⟨by simp, B5.out⟩
    · have c1 : IntKind.u64.wrap (a + den) < a := by rw [IntKind.wrap_u64]; omega
      go_wp2
      go_ret
      exact ⟨rfl, BB.out⟩

end Go.Proofs.Ytiiabmfhhahloaa
