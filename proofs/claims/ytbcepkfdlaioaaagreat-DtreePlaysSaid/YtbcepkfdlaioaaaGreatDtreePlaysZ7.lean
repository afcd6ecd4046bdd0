/- Texts of DtreePlays's proof, together. -/
import Derived.Test.YtbcepkfdlaioaaaGreatDtreePlaysZ3
import Derived.Test.YtbcepkfdlaioaaaGreatDiv
namespace Go.Proofs.YtbcepkfdlaioaaaGreat

section
open Go.RowKit
def WDivAns (a b : Int) (w : World) (e : Ending) (w' : World) : Prop :=
 ∃ h l q r : Int, e = .returned (.tuple #[.agg #[.int .i64 h, .int .u64 l], .int .u64 r, .bool true]) ∧ (IsW h l q ∧ q * b + r = a ∧ 0 ≤ r ∧ r < b) ∧ Below w.heap.size w w'
theorem div_size {h l A b hq ov lq lf : Int} (hA : IsSz h l A) (h63 : h ≤ 9223372036854775808) (e1 : hq * b + ov = 0 * 18446744073709551616 + h) (e2 : lq * b + lf = ov * 18446744073709551616 + l) (b0 : 0 < b)
  (o0 : 0 ≤ ov) (q0 : 0 ≤ hq) (l0 : 0 ≤ lq) (l1 : lq ≤ 18446744073709551615) (f0 : 0 ≤ lf) :
  hq ≤ 9223372036854775808 ∧ IsSz hq lq (hq * 18446744073709551616 + lq) ∧ (hq * 18446744073709551616 + lq) * b + lf = A ∧ hq * 18446744073709551616 + lq ≤ A := by
 obtain ⟨a1, a2, a3, a4, a5⟩ := hA
 have m : hq * 1 ≤ hq * b := Int.mul_le_mul_of_nonneg_left (by omega) q0
 have e : (hq * 18446744073709551616 + lq) * b = hq * b * 18446744073709551616 + lq * b := by rw [Int.add_mul, Int.mul_right_comm]
 have m2 : (hq * 18446744073709551616 + lq) * 1 ≤ (hq * 18446744073709551616 + lq) * b := Int.mul_le_mul_of_nonneg_left (by omega) (by omega)
 refine ⟨by omega, ⟨q0, by omega, l0, l1, rfl⟩, by rw [e]; omega, by rw [e] at m2; omega⟩
theorem div_up {a Q b r : Int} (h : 0 ≤ a) (e : Q * b + r = absI a) : Q * b + r = a := by unfold absI at e; rw [if_neg (by omega)] at e; exact e
theorem div_down0 {a Q b : Int} (h : a < 0) (e : Q * b + 0 = absI a) : -Q * b + 0 = a := by
 unfold absI at e; rw [if_pos h] at e; rw [Int.neg_mul]; omega
theorem div_down1 {a Q b r : Int} (h : a < 0) (e : Q * b + r = absI a) : -(Q + 1) * b + (b - r) = a := by
 unfold absI at e; rw [if_pos h] at e; rw [Int.neg_mul, Int.add_mul, Int.one_mul]; omega
theorem absI_wr {a : Int} (h : WR a) : absI a ≤ 170141183460469231731687303715884105728 ∧ (0 ≤ a → absI a ≤ 170141183460469231731687303715884105727) := by
 unfold WR at h; unfold absI; split <;> omega
theorem wres_ok {h l n : Int} {ok : Bool} (hr : WRes h l ok n) (hn : WR n) : ok = true ∧ IsW h l n := by
 rcases hr with ⟨r1, _, r3⟩ | ⟨_, r2, _⟩
 ·exact ⟨r1, r3⟩
 ·exact absurd hn r2
set_option maxHeartbeats 2000000 in
theorem Wide.div (h1 l1 a b : Int) (ha : IsW h1 l1 a) (b0 : 0 < b) (b1 : b ≤ 18446744073709551615) (w : World) :
  Calls Tryz.prog 116 #[.agg #[.int .i64 h1, .int .u64 l1], .int .u64 b] w (WDivAns a b w) := by
 have sg : h1 < 0 ↔ a < 0 := by obtain ⟨a1, a2, a3, a4, a5⟩ := ha; omega
 have SG := hid sg
 have HA := hid ha
 have hb0 : (b == 0) = false := by simp; omega
 clear sg ha
 go_enter Tryz.func116, Tryz.ntmps116
 go_wp2_with fail
 refine (Wide.size _ _ _ HA.out _).mono ?_
 rintro e w1 ⟨h, l, rfl, ⟨hsz, hh⟩, hb⟩
 have HSZ := hid hsz
 obtain ⟨n1, n2, n3, n4, n5⟩ := hsz
 clear n5
 go_wp2_with fail
 refine (Div.div64 0 h b (by omega) b0 n1 n2 b1 _).mono ?_
 rintro e w2 ⟨hq, ov, rfl, ⟨e1, o0, o1, q0, q1⟩, hb2⟩
 have E1 := hid e1
 clear e1
 have B2 := hb.trans (hb2.mono hb.size)
 clear hb hb2
 go_wp2_with fail
 refine (Div.div64 ov l b o0 o1 n3 n4 b1 _).mono ?_
 rintro e w3 ⟨lq, lf, rfl, ⟨e2, f0, f1, p0, p1⟩, hb3⟩
 have M := div_size HSZ.out hh E1.out e2 b0 o0 q0 p0 p1 f0
 have HM := hid M
 have m1 := M.1
 clear e2 M
 have B3 := B2.trans (hb3.mono B2.size)
 clear B2 hb3
 obtain ⟨hc, hf⟩ := bcell B3
 have hs : w.heap.size + 1 < w3.heap.size := by have := B3.size; simp at this; omega
 have T3 : Below w.heap.size w w3 := (((Below.refl _ _).alloc (Nat.le_refl _) _).alloc (by simp) _).trans (B3.mono (by simp; omega))
 have HT := hid T3
 clear B3 T3
 have HAW := hid (absI_wr HA.out.wr)
 by_cases c1 : h1 < 0
 ·by_cases c2 : lf = 0
  ·subst c2
   go_wp2_with fail
   refine (Wide.signed _ _ _ _ HM.out.2.1 _).mono ?_
   rintro e w4 ⟨h', l', ok, rfl, hr, hb4⟩
   obtain ⟨rfl, hw⟩ := wres_ok hr (by have := HM.out.2.2.2; have := HAW.out.1; obtain ⟨_, _, _, _, _⟩ := HM.out.2.1; unfold WR; simp only [if_true]; omega)
   have HW := hid (show IsW h' l' (-(hq * 18446744073709551616 + lq)) from by simpa [c1] using hw)
   clear hr hw
   have hm4 := hb4.mono (B' := w.heap.size) (by omega)
   obtain ⟨hc4, hf4⟩ := bcell hb4
   have hs4 : w.heap.size + 1 < w4.heap.size := by have := hb4.size; omega
   go_wp2
   refine bodyPost_ret (v := .tuple #[.agg #[.int .i64 h', .int .u64 l'], .int .u64 0, .bool true]) (by simp [results, Tryz.results116, go_sem, hc, hc4, hs4, hs]) rfl ⟨_, _, _, _, rfl, ⟨HW.out, div_down0 (SG.out.1 c1) HM.out.2.2.1, by omega, b0⟩, ?_⟩
   exact (((HT.out.trans hm4).setCell (by simp) _).setCell (by simp) _).alloc (by simp; omega) _
  ·have c2' : (lf == 0) = false := by simpa using c2
   have k1 : (1 : Int) ≥ 0 := by decide
   have SZ : IsSz (hq + (lq + 1) / 18446744073709551616) ((lq + 1) % 18446744073709551616) (hq * 18446744073709551616 + lq + 1) := by unfold IsSz; omega
   have HSZ2 := hid SZ
   have LT : (hq * 18446744073709551616 + lq) * b < absI a := by have := HM.out.2.2.1; omega
   have LT2 : hq * 18446744073709551616 + lq + 1 ≤ absI a := by
    have : (hq * 18446744073709551616 + lq) * 1 ≤ (hq * 18446744073709551616 + lq) * b := Int.mul_le_mul_of_nonneg_left (by omega) (by omega)
    omega
   have HLT := hid LT2
   clear SZ LT LT2
   go_wp2_with (simp only [Bits.add64_0 _ _ p0 k1])
   refine (Wide.signed _ _ _ _ HSZ2.out _).mono ?_
   rintro e w4 ⟨h', l', ok, rfl, hr, hb4⟩
   obtain ⟨rfl, hw⟩ := wres_ok hr (by have := HLT.out; have := HAW.out.1; unfold WR; simp only [if_true]; omega)
   have HW := hid (show IsW h' l' (-(hq * 18446744073709551616 + lq + 1)) from by simpa [c1] using hw)
   clear hr hw
   have hm4 := hb4.mono (B' := w.heap.size) (by omega)
   obtain ⟨hc4, hf4⟩ := bcell hb4
   have hs4 : w.heap.size + 1 < w4.heap.size := by have := hb4.size; omega
   go_wp2
   refine bodyPost_ret (v := .tuple #[.agg #[.int .i64 h', .int .u64 l'], .int .u64 (b - lf), .bool true]) (by simp [results, Tryz.results116, go_sem, hc, hc4, hs4, hs]) rfl ⟨_, _, _, _, rfl, ⟨HW.out, div_down1 (SG.out.1 c1) HM.out.2.2.1, by omega, by omega⟩, ?_⟩
   exact (((HT.out.trans hm4).setCell (by simp) _).setCell (by simp) _).alloc (by simp; omega) _
 ·go_wp2_with fail
  refine (Wide.signed _ _ _ _ HM.out.2.1 _).mono ?_
  rintro e w4 ⟨h', l', ok, rfl, hr, hb4⟩
  have a0 : 0 ≤ a := by have := SG.out; omega
  obtain ⟨rfl, hw⟩ := wres_ok hr (by have := HM.out.2.2.2; have := HAW.out.2 a0; obtain ⟨_, _, _, _, _⟩ := HM.out.2.1; unfold WR; simp only [Bool.false_eq_true, if_false]; omega)
  have HW := hid (show IsW h' l' (hq * 18446744073709551616 + lq) from by simpa [c1] using hw)
  clear hr hw
  have hm4 := hb4.mono (B' := w.heap.size) (by omega)
  obtain ⟨hc4, hf4⟩ := bcell hb4
  have hs4 : w.heap.size + 1 < w4.heap.size := by have := hb4.size; omega
  go_wp2
  refine bodyPost_ret (v := .tuple #[.agg #[.int .i64 h', .int .u64 l'], .int .u64 lf, .bool true]) (by simp [results, Tryz.results116, go_sem, hc, hc4, hs4, hs]) rfl ⟨_, _, _, _, rfl, ⟨HW.out, div_up a0 HM.out.2.2.1, by omega, by omega⟩, ?_⟩
  exact (((HT.out.trans hm4).setCell (by simp) _).setCell (by simp) _).alloc (by simp; omega) _
end


section
open Go.RowKit
set_option maxHeartbeats 2000000 in
theorem Law1.awake (w : World) : Calls Tryz.prog 127 #[] w fun e w' => e = .returned (.bool true) ∧ Below w.heap.size w w' := by
 go_enter Tryz.func127, Tryz.ntmps127
 go_wp2_with fail
 refine (Wide.ofN (-7) (by decide) (by decide) _).mono ?_
 rintro e w1 ⟨h, l, rfl, hw, hb⟩
 go_wp2_with fail
 refine (Wide.div _ _ _ 2 hw (by decide) (by decide) _).mono ?_
 rintro e w2 ⟨hq, lq, q, r, rfl, ⟨hq1, hq2, r0, r1⟩, hb2⟩
 obtain rfl : r = 1 := by omega
 obtain rfl : q = -4 := by omega
 have B2 := hid (hb.trans (hb2.mono hb.size))
 have HQ := hid hq1
 clear hb hb2 hw hq1 hq2 r0 r1
 go_wp2_with fail
 refine (Wide.ofU 9223372036854775808 (by decide) (by decide) _).mono ?_
 rintro e w3 ⟨rfl, hw, hb3⟩
 go_wp2_with fail
 refine (Wide.mul _ _ 2 _ hw (by decide) (by decide) _).mono ?_
 rintro e w4 ⟨h', l', ok, rfl, hr, hb4⟩
 obtain ⟨rfl, hi⟩ := wres_ok hr (by unfold WR; omega)
 obtain ⟨rfl, rfl⟩ : h' = 1 ∧ l' = 0 := by obtain ⟨_, _, _, _, _⟩ := hi; omega
 have B4 := hb3.trans (hb4.mono hb3.size)
 clear hb3 hb4 hw hr hi
 obtain ⟨hc, hf⟩ := bcell B4
 have hs : w2.heap.size < w4.heap.size := by have := B4.size; simp at this; omega
 go_wp2_with fail
 have hcell0 : w4.cell? ⟨w2.heap.size, 0, none⟩ = some (.int .i64 hq) := by rw [hc _ _ (by simp)]; simp
 have hcell1 : w4.cell? ⟨w2.heap.size, 1, none⟩ = some (.int .u64 lq) := by rw [hc _ _ (by simp)]; simp
 clear hc hf
 have BT := hid (B2.out.trans ((((Below.refl _ _).alloc (Nat.le_refl _) (.cells #[.int .i64 hq, .int .u64 lq] 126)).trans (B4.mono (by simp))).mono B2.out.size))
 clear B4
 go_region_held3 (fun w' => w'.cell? ⟨w2.heap.size, 0, none⟩ = some (.int .i64 hq) ∧ w'.cell? ⟨w2.heap.size, 1, none⟩ = some (.int .u64 lq) ∧ w'.cell? ⟨w4.heap.size, 0, none⟩ = some (.int .i64 1) ∧ w'.cell? ⟨w4.heap.size, 1, none⟩ = some (.int .u64 0)) (first | go_keep | (refine ⟨(hb5.cell (p := ⟨w2.heap.size, 0, none⟩) ?_).trans ?_, (hb5.cell (p := ⟨w2.heap.size, 1, none⟩) ?_).trans ?_, (hb5.cell (p := ⟨w4.heap.size, 0, none⟩) ?_).trans ?_, (hb5.cell (p := ⟨w4.heap.size, 1, none⟩) ?_).trans ?_⟩ <;> first | (simp; done) | (simp; omega) | (simp [go_sem, *]; done)))
  (first | (go_at_call 125; refine (Wide.ofN (-4) (by decide) (by decide) _).mono ?_; rintro e w5 ⟨h5, l5, rfl, hw5, hb5⟩; obtain ⟨rfl, rfl⟩ := IsW.inj HQ.out hw5))
 have B5 := hid (((BT.out.alloc (BT.out.size) (.cells #[.int .i64 1, .int .u64 0] 126)).drew).trans (hb5.mono (by have := BT.out.size; simp; omega)))
 go_wp2
 go_ret
 exact ⟨rfl, B5.out⟩
theorem Law1.Awake (w : World) : Calls Tryz.prog 121 #[] w fun e w' => e = .returned (.bool true) ∧ Below w.heap.size w w' := by
 go_enter Tryz.func121, Tryz.ntmps121
 go_wp2_with (go_at_call 127; refine (Law1.awake _).mono ?_; rintro e w' ⟨rfl, hb⟩)
 go_ret
 exact ⟨rfl, hb⟩
end

end Go.Proofs.YtbcepkfdlaioaaaGreat
