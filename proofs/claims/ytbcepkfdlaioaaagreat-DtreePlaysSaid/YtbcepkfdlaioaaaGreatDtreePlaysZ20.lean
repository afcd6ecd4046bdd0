/- Texts of DtreePlays's proof, together. -/
import Derived.Test.YtbcepkfdlaioaaaGreatDtreePlaysZ17
import Derived.Test.YtbcepkfdlaioaaaGreatDtreePlaysZ0
import Derived.Test.YtbcepkfdlaioaaaGreatDtreePlaysZ19
import Derived.Test.YtbcepkfdlaioaaaGreatDtreePlaysZ7
import Derived.Deep.CutBlock
import Derived.Deep.DeepCutAuto
namespace Go.Proofs.YtbcepkfdlaioaaaGreat

section
open Go.RowKit
def SQ (w0 : World) (K : Nat) (s : Bool) (A : Option Addr) (n c : Nat) (P : Int) (w : World) : Prop := Below w0.heap.size w0 w ∧ IsB w K s A n c P
theorem SQ.below {w0 : World} {K : Nat} {s : Bool} {A : Option Addr} {n c : Nat} {P : Int} {w w' : World} (h : SQ w0 K s A n c P w) (hb : Below w.heap.size w w') : SQ w0 K s A n c P w' := ⟨below_keep h.1 hb, h.2.below hb⟩
end


section
open Go.RowKit
set_option maxRecDepth 100000 in
set_option maxHeartbeats 8000000 in
theorem Ref3.since (t u : Int) (t0 : 0 ≤ t) (t1 : t ≤ 18446744073709551615) (u0 : 0 ≤ u) (u1 : u ≤ 18446744073709551615) (w : World) :
  Calls Tryz.prog 73 #[.int .u64 t, .int .u64 u] w (BAns 70 (dif t u) w) := by
 obtain ⟨z, hz⟩ : ∃ z, z = dif t u := ⟨_, rfl⟩
 rw [← hz]
 have HZ0 := hid hz
 clear hz
 go_enter Tryz.func73, Tryz.ntmps73
 go_wp2_with fail
 refine (Ref.U t t0 t1 _).mono ?_
 rintro e w1 ⟨s1, A1, n1, c1, rfl, hB1, hb1⟩
 have H1 := hid hB1
 have HF := hid ((Fresh.new w 98).below hb1)
 have HBW := hid (((Below.refl _ w).alloc (Nat.le_refl _) (Obj.cells #[Value.bool false, Value.slice none 0 0] 98)).trans (hb1.mono (by simp)))
 clear hB1 hb1
 go_wp2_with fail
 refine (Ref.U u u0 u1 _).mono ?_
 rintro e w2 ⟨s2, A2, n2, c2, rfl, hB2, hb2⟩
 have H2 := hid hB2
 have H12 := hid (H1.out.below hb2)
 have HF2 := hid (HF.out.below hb2)
 have HBW2 := hid (below_keep HBW.out hb2)
 clear hB2 hb2 HF HBW
 go_wp2_with fail
 refine (Ref.sub 5 s1 s2 A1 A2 n1 c1 n2 c2 _ _ _ H12.out H2.out (by decide)).mono ?_
 rintro e w3 ⟨s3, A3, n3, c3, rfl, hB3, hb3⟩
 have hF3 := HF2.out.below hb3
 have hBW3 := below_keep HBW2.out hb3
 have hlt : w.heap.size < w3.heap.size := World.block_lt_of_cell? w3 _ hF3.1
 have H3 := hid (hB3.mono (show 5 + 1 ≤ 69 by decide))
 have HF3 := hid hF3
 have HBW3 := hid hBW3
 clear hB3 hb3 hF3 hBW3 HF2 HBW2
 obtain ⟨x, hx⟩ : ∃ x, x = t - u := ⟨_, rfl⟩
 have HD : Hid (z = if 9223372036854775808 ≤ x then x - 18446744073709551616 else if x < -9223372036854775808 then x + 18446744073709551616 else x) := hid (by rw [hx, HZ0.out]; unfold dif; split <;> (try split) <;> omega)
 rw [← hx] at H3
 clear hx HZ0 t0 t1 u0 u1
 obtain ⟨P, hP⟩ : ∃ P : Int, P = 2 ^ 63 := ⟨_, rfl⟩
 obtain ⟨Q, hQ⟩ : ∃ Q : Int, Q = 2 ^ 64 := ⟨_, rfl⟩
 have EP : P = 9223372036854775808 := by rw [hP]; rfl
 have EQ : Q = 18446744073709551616 := by rw [hQ]; rfl
 have HP := hid hP
 have HQ := hid hQ
 have HEP := hid EP
 have HEQ := hid EQ
 clear hP hQ EP EQ
 go_wp2_with fail
 obtain ⟨W0, hW⟩ : ∃ W0, W0 = w3.alloc (Obj.cells #[Value.bool s3, Value.slice A3 n3 c3] 98) := ⟨_, rfl⟩
 rw [← hW]
 have HS0 : Hid ((W0.cell? ⟨w3.heap.size, 0, none⟩ = some (.bool s3) ∧ W0.cell? ⟨w3.heap.size, 1, none⟩ = some (.slice A3 n3 c3) ∧ W0.cell? ⟨w3.heap.size, 0, none⟩ = some (.bool s3) ∧ W0.cell? ⟨w3.heap.size, 1, none⟩ = some (.slice A3 n3 c3)) ∧ SQ w 69 s3 A3 n3 c3 x W0) := hid (by rw [hW]; exact ⟨⟨by simp [go_sem], by simp [go_sem], by simp [go_sem], by simp [go_sem]⟩, HBW3.out.alloc (by omega) _, H3.out.alloc _⟩)
 have HF0 : Hid (Fresh W0 w.heap.size) := hid (by rw [hW]; exact HF3.out.below ((Below.refl _ _).alloc (Nat.le_refl _) _))
 clear hW
 by_cases g1 : 9223372036854775808 ≤ x
 ·have HZ := hid (HD.out.trans (if_pos g1))
  have f1 : decide (0 ≤ cmpI x P) = true := by
   rw [decide_eq_true_eq, HEP.out]
   rcases Int.lt_or_eq_of_le g1 with h | h
   ·rw [cmpI_gt (by omega)]; decide
   ·rw [← h]; decide
  clear g1
  go_wp2_with fail
  go_region_held3 (fun w' => (w'.cell? ⟨w3.heap.size, 0, none⟩ = some (.bool s3) ∧ w'.cell? ⟨w3.heap.size, 1, none⟩ = some (.slice A3 n3 c3) ∧ w'.cell? ⟨w3.heap.size, 0, none⟩ = some (.bool s3) ∧ w'.cell? ⟨w3.heap.size, 1, none⟩ = some (.slice A3 n3 c3)) ∧ SQ w 69 s3 A3 n3 c3 x w')
   (first | exact ⟨HS0.out.1, HS0.out.2.1.drew, HS0.out.2.2.drew⟩ | exact keepP (by assumption) hb4 (fun h => SQ.below h hb4))
   (first
    | (go_at_call 91; refine (Ref.power 63 (by decide) _).mono ?_; rintro e w4 ⟨s4, A4, n4, c4, rfl, hB, hb4⟩; rw [← HP.out] at hB; have H4 := hid (hB.mono (show 5 + 63 ≤ 69 by decide)); have HX4 := hid (SQ.below (And.right (by assumption : (_ ∧ _ ∧ _ ∧ _) ∧ SQ w 69 s3 A3 n3 c3 x _)) hb4).2; have HF4 := hid (Fresh.below (w := W0.drew) HF0.out hb4); clear hB)
    | (go_at_call 74; refine (Ref.cmp 69 s3 s4 A3 A4 n3 c3 n4 c4 x _ _ HX4.out H4.out (by decide)).mono ?_; rintro e w5 ⟨rfl, hb4⟩; have HF5 := hid (HF4.out.below hb4)))
  have HSA : Hid ((w5.cell? ⟨w3.heap.size, 0, none⟩ = some (.bool s3) ∧ w5.cell? ⟨w3.heap.size, 1, none⟩ = some (.slice A3 n3 c3) ∧ w5.cell? ⟨w3.heap.size, 0, none⟩ = some (.bool s3) ∧ w5.cell? ⟨w3.heap.size, 1, none⟩ = some (.slice A3 n3 c3)) ∧ SQ w 69 s3 A3 n3 c3 x w5) := hid (by assumption)
  clear HS0 HF0 HF4
  go_wp2_with fail
  clear f1
  go_region_held3 (fun w' => (w'.cell? ⟨w3.heap.size, 0, none⟩ = some (.bool s3) ∧ w'.cell? ⟨w3.heap.size, 1, none⟩ = some (.slice A3 n3 c3) ∧ w'.cell? ⟨w3.heap.size, 0, none⟩ = some (.bool s3) ∧ w'.cell? ⟨w3.heap.size, 1, none⟩ = some (.slice A3 n3 c3)) ∧ Below w.heap.size w w')
   (first | exact ⟨HSA.out.1, HSA.out.2.1.drew⟩ | exact keepP (by assumption) hb9 (fun h => below_keep h hb9) | exact keepSt (by assumption) (by omega) (by omega) (by omega) (by omega) (by omega))
   (first
    | (go_at_call 91; refine (Ref.power 64 (by decide) _).mono ?_; rintro e w9 ⟨s9, A9, n9, c9, rfl, hB, hb9⟩; rw [← HQ.out] at hB; have H9 := hid hB; have HX9 := hid (IsB.below (w := w5.drew) HSA.out.2.2 hb9); have HF9 := hid (Fresh.below (w := w5.drew) HF5.out hb9); clear hB)
    | (go_at_call 90; refine (Ref.sub 69 s3 s9 A3 A9 n3 c3 n9 c9 x _ _ HX9.out H9.out (by decide)).mono ?_; rintro e w10 ⟨s', A', n', c', rfl, hB, hb9⟩; have HB := hid hB; have HF10 := hid (HF9.out.below hb9); obtain ⟨t0, t1, t2, t3, _⟩ := HF10.out; clear hB))
  obtain ⟨_, hfin⟩ : (_ ∧ _ ∧ _ ∧ _) ∧ Below w.heap.size w ((w10.setCell ⟨w.heap.size, 0, none⟩ (.bool s')).setCell ⟨w.heap.size, 1, none⟩ (.slice A' n' c')) := by assumption
  have HFIN := hid hfin
  have HB2 : Hid (IsB w10 70 s' A' n' c' z) := hid (by rw [HZ.out, ← HEQ.out]; exact HB.out)
  clear hfin
  go_wp2
  exact bodyPost_ret (v := .agg #[.bool s', .slice A' n' c']) (by simp [results, Tryz.results73, go_sem, t0, t1]) rfl ⟨_, _, _, _, rfl, HB2.out.store HF10.out.2.2.2.2 _ _ _ _, HFIN.out⟩
 ·have HD2 := hid (HD.out.trans (if_neg g1))
  have f1 : decide (0 ≤ cmpI x P) = false := by
   rw [decide_eq_false_iff_not, HEP.out, cmpI_lt (by omega)]; decide
  clear g1
  go_wp2_with fail
  go_region_held3 (fun w' => (w'.cell? ⟨w3.heap.size, 0, none⟩ = some (.bool s3) ∧ w'.cell? ⟨w3.heap.size, 1, none⟩ = some (.slice A3 n3 c3) ∧ w'.cell? ⟨w3.heap.size, 0, none⟩ = some (.bool s3) ∧ w'.cell? ⟨w3.heap.size, 1, none⟩ = some (.slice A3 n3 c3)) ∧ SQ w 69 s3 A3 n3 c3 x w')
   (first | exact ⟨HS0.out.1, HS0.out.2.1.drew, HS0.out.2.2.drew⟩ | exact keepP (by assumption) hb4 (fun h => SQ.below h hb4))
   (first
    | (go_at_call 91; refine (Ref.power 63 (by decide) _).mono ?_; rintro e w4 ⟨s4, A4, n4, c4, rfl, hB, hb4⟩; rw [← HP.out] at hB; have H4 := hid (hB.mono (show 5 + 63 ≤ 69 by decide)); have HX4 := hid (SQ.below (And.right (by assumption : (_ ∧ _ ∧ _ ∧ _) ∧ SQ w 69 s3 A3 n3 c3 x _)) hb4).2; have HF4 := hid (Fresh.below (w := W0.drew) HF0.out hb4); clear hB)
    | (go_at_call 74; refine (Ref.cmp 69 s3 s4 A3 A4 n3 c3 n4 c4 x _ _ HX4.out H4.out (by decide)).mono ?_; rintro e w5 ⟨rfl, hb4⟩; have HF5 := hid (HF4.out.below hb4)))
  have HSA : Hid ((w5.cell? ⟨w3.heap.size, 0, none⟩ = some (.bool s3) ∧ w5.cell? ⟨w3.heap.size, 1, none⟩ = some (.slice A3 n3 c3) ∧ w5.cell? ⟨w3.heap.size, 0, none⟩ = some (.bool s3) ∧ w5.cell? ⟨w3.heap.size, 1, none⟩ = some (.slice A3 n3 c3)) ∧ SQ w 69 s3 A3 n3 c3 x w5) := hid (by assumption)
  clear HS0 HF0 HF4
  go_wp2_with fail
  clear f1
  by_cases g2 : x < -9223372036854775808
  ·have HZ := hid (HD2.out.trans (if_pos g2))
   have f2 : decide (cmpI x (-P) < 0) = true := by
    rw [decide_eq_true_eq, HEP.out, cmpI_lt (by omega)]; decide
   clear g2
   go_region_held3 (fun w' => (w'.cell? ⟨w3.heap.size, 0, none⟩ = some (.bool s3) ∧ w'.cell? ⟨w3.heap.size, 1, none⟩ = some (.slice A3 n3 c3) ∧ w'.cell? ⟨w3.heap.size, 0, none⟩ = some (.bool s3) ∧ w'.cell? ⟨w3.heap.size, 1, none⟩ = some (.slice A3 n3 c3)) ∧ SQ w 69 s3 A3 n3 c3 x w')
    (first | exact ⟨HSA.out.1, HSA.out.2.1.drew, HSA.out.2.2.drew⟩ | exact keepP (by assumption) hb6 (fun h => SQ.below h hb6))
    (first
     | (go_at_call 91; refine (Ref.power 63 (by decide) _).mono ?_; rintro e w6 ⟨s6, A6, n6, c6, rfl, hB, hb6⟩; rw [← HP.out] at hB; have H6 := hid hB; have HX6 := hid (SQ.below (And.right (by assumption : (_ ∧ _ ∧ _ ∧ _) ∧ SQ w 69 s3 A3 n3 c3 x _)) hb6).2; have HF6 := hid (Fresh.below (w := w5.drew) HF5.out hb6); clear hB)
     | (go_at_call 92; refine (Ref.neg 68 s6 A6 n6 c6 _ _ H6.out (by decide)).mono ?_; rintro e w7 ⟨s7, A7, n7, c7, rfl, hB, hb6⟩; have H7 := hid (hB.mono (show 68 ≤ 69 by decide)); have HX7 := hid (HX6.out.below hb6); have HF7 := hid (HF6.out.below hb6); clear hB)
     | (go_at_call 74; refine (Ref.cmp 69 s3 s7 A3 A7 n3 c3 n7 c7 x _ _ HX7.out H7.out (by decide)).mono ?_; rintro e w8 ⟨rfl, hb6⟩; have HFB := hid (HF7.out.below hb6)))
   have HSB : Hid ((w8.cell? ⟨w3.heap.size, 0, none⟩ = some (.bool s3) ∧ w8.cell? ⟨w3.heap.size, 1, none⟩ = some (.slice A3 n3 c3) ∧ w8.cell? ⟨w3.heap.size, 0, none⟩ = some (.bool s3) ∧ w8.cell? ⟨w3.heap.size, 1, none⟩ = some (.slice A3 n3 c3)) ∧ SQ w 69 s3 A3 n3 c3 x w8) := hid (by assumption)
   clear HSA HF5 HF6 HF7
   go_wp2_with fail
   clear f2
   go_region_held3 (fun w' => (w'.cell? ⟨w3.heap.size, 0, none⟩ = some (.bool s3) ∧ w'.cell? ⟨w3.heap.size, 1, none⟩ = some (.slice A3 n3 c3) ∧ w'.cell? ⟨w3.heap.size, 0, none⟩ = some (.bool s3) ∧ w'.cell? ⟨w3.heap.size, 1, none⟩ = some (.slice A3 n3 c3)) ∧ Below w.heap.size w w')
    (first | exact ⟨HSB.out.1, HSB.out.2.1.drew⟩ | exact keepP (by assumption) hb9 (fun h => below_keep h hb9) | exact keepSt (by assumption) (by omega) (by omega) (by omega) (by omega) (by omega))
    (first
     | (go_at_call 91; refine (Ref.power 64 (by decide) _).mono ?_; rintro e w9 ⟨s9, A9, n9, c9, rfl, hB, hb9⟩; rw [← HQ.out] at hB; have H9 := hid hB; have HX9 := hid (IsB.below (w := w8.drew) HSB.out.2.2 hb9); have HF9 := hid (Fresh.below (w := w8.drew) HFB.out hb9); clear hB)
     | (go_at_call 93; refine (Ref.add 69 s3 s9 A3 A9 n3 c3 n9 c9 x _ _ HX9.out H9.out (by decide)).mono ?_; rintro e w10 ⟨s', A', n', c', rfl, hB, hb9⟩; have HB := hid hB; have HF10 := hid (HF9.out.below hb9); obtain ⟨t0, t1, t2, t3, _⟩ := HF10.out; clear hB))
   obtain ⟨_, hfin⟩ : (_ ∧ _ ∧ _ ∧ _) ∧ Below w.heap.size w ((w10.setCell ⟨w.heap.size, 0, none⟩ (.bool s')).setCell ⟨w.heap.size, 1, none⟩ (.slice A' n' c')) := by assumption
   have HFIN := hid hfin
   have HB2 : Hid (IsB w10 70 s' A' n' c' z) := hid (by rw [HZ.out, ← HEQ.out]; exact HB.out)
   clear hfin
   go_wp2
   exact bodyPost_ret (v := .agg #[.bool s', .slice A' n' c']) (by simp [results, Tryz.results73, go_sem, t0, t1]) rfl ⟨_, _, _, _, rfl, HB2.out.store HF10.out.2.2.2.2 _ _ _ _, HFIN.out⟩
  ·have HZ := hid (HD2.out.trans (if_neg g2))
   have f2 : decide (cmpI x (-P) < 0) = false := by
    rw [decide_eq_false_iff_not, HEP.out]
    rcases Int.lt_or_eq_of_le (show -9223372036854775808 ≤ x by omega) with h | h
    ·rw [cmpI_gt (by omega)]; decide
    ·rw [← h]; decide
   clear g2
   go_region_held3 (fun w' => (w'.cell? ⟨w3.heap.size, 0, none⟩ = some (.bool s3) ∧ w'.cell? ⟨w3.heap.size, 1, none⟩ = some (.slice A3 n3 c3) ∧ w'.cell? ⟨w3.heap.size, 0, none⟩ = some (.bool s3) ∧ w'.cell? ⟨w3.heap.size, 1, none⟩ = some (.slice A3 n3 c3)) ∧ SQ w 69 s3 A3 n3 c3 x w')
    (first | exact ⟨HSA.out.1, HSA.out.2.1.drew, HSA.out.2.2.drew⟩ | exact keepP (by assumption) hb6 (fun h => SQ.below h hb6))
    (first
     | (go_at_call 91; refine (Ref.power 63 (by decide) _).mono ?_; rintro e w6 ⟨s6, A6, n6, c6, rfl, hB, hb6⟩; rw [← HP.out] at hB; have H6 := hid hB; have HX6 := hid (SQ.below (And.right (by assumption : (_ ∧ _ ∧ _ ∧ _) ∧ SQ w 69 s3 A3 n3 c3 x _)) hb6).2; have HF6 := hid (Fresh.below (w := w5.drew) HF5.out hb6); clear hB)
     | (go_at_call 92; refine (Ref.neg 68 s6 A6 n6 c6 _ _ H6.out (by decide)).mono ?_; rintro e w7 ⟨s7, A7, n7, c7, rfl, hB, hb6⟩; have H7 := hid (hB.mono (show 68 ≤ 69 by decide)); have HX7 := hid (HX6.out.below hb6); have HF7 := hid (HF6.out.below hb6); clear hB)
     | (go_at_call 74; refine (Ref.cmp 69 s3 s7 A3 A7 n3 c3 n7 c7 x _ _ HX7.out H7.out (by decide)).mono ?_; rintro e w8 ⟨rfl, hb6⟩; have HFB := hid (HF7.out.below hb6)))
   have HSB : Hid ((w8.cell? ⟨w3.heap.size, 0, none⟩ = some (.bool s3) ∧ w8.cell? ⟨w3.heap.size, 1, none⟩ = some (.slice A3 n3 c3) ∧ w8.cell? ⟨w3.heap.size, 0, none⟩ = some (.bool s3) ∧ w8.cell? ⟨w3.heap.size, 1, none⟩ = some (.slice A3 n3 c3)) ∧ SQ w 69 s3 A3 n3 c3 x w8) := hid (by assumption)
   clear HSA HF5 HF6 HF7
   obtain ⟨x0, x1, _, _⟩ := HSB.out.1
   obtain ⟨t0, t1, t2, t3, _⟩ := HFB.out
   go_wp2_with fail
   refine bodyPost_ret (v := .agg #[.bool s3, .slice A3 n3 c3]) (by simp [results, Tryz.results73, go_sem, t0, t1]) rfl ⟨_, _, _, _, rfl, (show IsB w8 70 s3 A3 n3 c3 z by rw [HZ.out]; exact HSB.out.2.2.mono (by decide)).store HFB.out.2.2.2.2 _ _ _ _, (HSB.out.2.1.setCell (by simp) _).setCell (by simp) _⟩
end

end Go.Proofs.YtbcepkfdlaioaaaGreat
