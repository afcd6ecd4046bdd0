/- Texts of ReqMakes's proof, together. -/
import Derived.Test.YtjndmmcjobbcbaaGreatDoorReqMakesZ19
import Derived.Deep.CutBlock
import Derived.Deep.DeepCutAuto
import Derived.Test.YtjndmmcjobbcbaaGreatDoorReqMakesZ17
import Derived.Test.YtjndmmcjobbcbaaGreatDoorReqMakesZ0
import Derived.Test.YtjndmmcjobbcbaaGreatDoorReqMakesZ7
import Derived.Deep.LoopGhost
import Derived.Deep.RegionWith
namespace Go.Proofs.YtjndmmcjobbcbaaGreatDoor

section
open Go.RowKit
def PQ (w0 : World) (s : Bool) (A : Option Addr) (n c : Nat) (P : Int) (w : World) : Prop := Below w0.heap.size w0 w ∧ IsB w 1132 s A n c P
theorem PQ.below {w0 : World} {s : Bool} {A : Option Addr} {n c : Nat} {P : Int} {w w' : World} (h : PQ w0 s A n c P w) (hb : Below w.heap.size w w') : PQ w0 s A n c P w' := ⟨below_keep h.1 hb, h.2.below hb⟩
end


section
open Go.RowKit
def SQ (w0 : World) (K : Nat) (s : Bool) (A : Option Addr) (n c : Nat) (P : Int) (w : World) : Prop := Below w0.heap.size w0 w ∧ IsB w K s A n c P
theorem SQ.below {w0 : World} {K : Nat} {s : Bool} {A : Option Addr} {n c : Nat} {P : Int} {w w' : World} (h : SQ w0 K s A n c P w) (hb : Below w.heap.size w w') : SQ w0 K s A n c P w' := ⟨below_keep h.1 hb, h.2.below hb⟩
end


section
open Go.RowKit
set_option maxRecDepth 100000 in
set_option maxHeartbeats 8000000 in
theorem Ref3.since (t u : Int) (t0 : 0 ≤ t) (t1 : t ≤ 18446744073709551615) (u0 : 0 ≤ u) (u1 : u ≤ 18446744073709551615) (w : World) :
  Calls Tryz.prog 133 #[.int .u64 t, .int .u64 u] w (BAns 70 (dif t u) w) := by
 obtain ⟨z, hz⟩ : ∃ z, z = dif t u := ⟨_, rfl⟩
 rw [← hz]
 have HZ0 := hid hz
 clear hz
 go_enter Tryz.func133, Tryz.ntmps133
 go_wp2_with fail
 refine (Ref.U t t0 t1 _).mono ?_
 rintro e w1 ⟨s1, A1, n1, c1, rfl, hB1, hb1⟩
 have H1 := hid hB1
 have HF := hid ((Fresh.new w 198).below hb1)
 have HBW := hid (((Below.refl _ w).alloc (Nat.le_refl _) (Obj.cells #[Value.bool false, Value.slice none 0 0] 198)).trans (hb1.mono (by simp)))
 clear hB1 hb1
 go_wp2_with fail
 refine (Ref.U u u0 u1 _).mono ?_
 rintro e w2 ⟨s2, A2, n2, c2, rfl, hB2, hb2⟩
 have H2 := hid hB2
 have H12 := hid (H1.out.below hb2)
 have HF2 := hid (HF.out.below hb2)
 have HBW2 := hid (below_keep HBW.out hb2)
 clear hB2 hb2 HF HBW
 go_wp2_with fail
 refine (Ref.sub 5 s1 s2 A1 A2 n1 c1 n2 c2 _ _ _ H12.out H2.out (by decide)).mono ?_
 rintro e w3 ⟨s3, A3, n3, c3, rfl, hB3, hb3⟩
 have hF3 := HF2.out.below hb3
 have hBW3 := below_keep HBW2.out hb3
 have hlt : w.heap.size < w3.heap.size := World.block_lt_of_cell? w3 _ hF3.1
 have H3 := hid (hB3.mono (show 5 + 1 ≤ 69 by decide))
 have HF3 := hid hF3
 have HBW3 := hid hBW3
 clear hB3 hb3 hF3 hBW3 HF2 HBW2
 obtain ⟨x, hx⟩ : ∃ x, x = t - u := ⟨_, rfl⟩
 have HD : Hid (z = if 9223372036854775808 ≤ x then x - 18446744073709551616 else if x < -9223372036854775808 then x + 18446744073709551616 else x) := hid (by rw [hx, HZ0.out]; unfold dif; split <;> (try split) <;> omega)
 rw [← hx] at H3
 clear hx HZ0 t0 t1 u0 u1
 obtain ⟨P, hP⟩ : ∃ P : Int, P = 2 ^ 63 := ⟨_, rfl⟩
 obtain ⟨Q, hQ⟩ : ∃ Q : Int, Q = 2 ^ 64 := ⟨_, rfl⟩
 have EP : P = 9223372036854775808 := by rw [hP]; rfl
 have EQ : Q = 18446744073709551616 := by rw [hQ]; rfl
 have HP := hid hP
 have HQ := hid hQ
 have HEP := hid EP
 have HEQ := hid EQ
 clear hP hQ EP EQ
 go_wp2_with fail
 obtain ⟨W0, hW⟩ : ∃ W0, W0 = w3.alloc (Obj.cells #[Value.bool s3, Value.slice A3 n3 c3] 198) := ⟨_, rfl⟩
 rw [← hW]
 have HS0 : Hid ((W0.cell? ⟨w3.heap.size, 0, none⟩ = some (.bool s3) ∧ W0.cell? ⟨w3.heap.size, 1, none⟩ = some (.slice A3 n3 c3) ∧ W0.cell? ⟨w3.heap.size, 0, none⟩ = some (.bool s3) ∧ W0.cell? ⟨w3.heap.size, 1, none⟩ = some (.slice A3 n3 c3)) ∧ SQ w 69 s3 A3 n3 c3 x W0) := hid (by rw [hW]; exact ⟨⟨by simp [go_sem], by simp [go_sem], by simp [go_sem], by simp [go_sem]⟩, HBW3.out.alloc (by omega) _, H3.out.alloc _⟩)
 have HF0 : Hid (Fresh W0 w.heap.size) := hid (by rw [hW]; exact HF3.out.below ((Below.refl _ _).alloc (Nat.le_refl _) _))
 clear hW
 by_cases g1 : 9223372036854775808 ≤ x
 ·have HZ := hid (HD.out.trans (if_pos g1))
  have f1 : decide (0 ≤ cmpI x P) = true := by
   rw [decide_eq_true_eq, HEP.out]
   rcases Int.lt_or_eq_of_le g1 with h | h
   ·rw [cmpI_gt (by omega)]; decide
   ·rw [← h]; decide
  clear g1
  go_wp2_with fail
  go_region_held3 (fun w' => (w'.cell? ⟨w3.heap.size, 0, none⟩ = some (.bool s3) ∧ w'.cell? ⟨w3.heap.size, 1, none⟩ = some (.slice A3 n3 c3) ∧ w'.cell? ⟨w3.heap.size, 0, none⟩ = some (.bool s3) ∧ w'.cell? ⟨w3.heap.size, 1, none⟩ = some (.slice A3 n3 c3)) ∧ SQ w 69 s3 A3 n3 c3 x w')
   (first | exact ⟨HS0.out.1, HS0.out.2.1.drew, HS0.out.2.2.drew⟩ | exact keepP (by assumption) hb4 (fun h => SQ.below h hb4))
   (first
    | (go_at_call 137; refine (Ref.power 63 (by decide) _).mono ?_; rintro e w4 ⟨s4, A4, n4, c4, rfl, hB, hb4⟩; rw [← HP.out] at hB; have H4 := hid (hB.mono (show 5 + 63 ≤ 69 by decide)); have HX4 := hid (SQ.below (And.right (by assumption : (_ ∧ _ ∧ _ ∧ _) ∧ SQ w 69 s3 A3 n3 c3 x _)) hb4).2; have HF4 := hid (Fresh.below (w := W0.drew) HF0.out hb4); clear hB)
    | (go_at_call 136; refine (Ref.cmp 69 s3 s4 A3 A4 n3 c3 n4 c4 x _ _ HX4.out H4.out (by decide)).mono ?_; rintro e w5 ⟨rfl, hb4⟩; have HF5 := hid (HF4.out.below hb4)))
  have HSA : Hid ((w5.cell? ⟨w3.heap.size, 0, none⟩ = some (.bool s3) ∧ w5.cell? ⟨w3.heap.size, 1, none⟩ = some (.slice A3 n3 c3) ∧ w5.cell? ⟨w3.heap.size, 0, none⟩ = some (.bool s3) ∧ w5.cell? ⟨w3.heap.size, 1, none⟩ = some (.slice A3 n3 c3)) ∧ SQ w 69 s3 A3 n3 c3 x w5) := hid (by assumption)
  clear HS0 HF0 HF4
  go_wp2_with fail
  clear f1
  go_region_held3 (fun w' => (w'.cell? ⟨w3.heap.size, 0, none⟩ = some (.bool s3) ∧ w'.cell? ⟨w3.heap.size, 1, none⟩ = some (.slice A3 n3 c3) ∧ w'.cell? ⟨w3.heap.size, 0, none⟩ = some (.bool s3) ∧ w'.cell? ⟨w3.heap.size, 1, none⟩ = some (.slice A3 n3 c3)) ∧ Below w.heap.size w w')
   (first | exact ⟨HSA.out.1, HSA.out.2.1.drew⟩ | exact keepP (by assumption) hb9 (fun h => below_keep h hb9) | exact keepSt (by assumption) (by omega) (by omega) (by omega) (by omega) (by omega))
   (first
    | (go_at_call 137; refine (Ref.power 64 (by decide) _).mono ?_; rintro e w9 ⟨s9, A9, n9, c9, rfl, hB, hb9⟩; rw [← HQ.out] at hB; have H9 := hid hB; have HX9 := hid (IsB.below (w := w5.drew) HSA.out.2.2 hb9); have HF9 := hid (Fresh.below (w := w5.drew) HF5.out hb9); clear hB)
    | (go_at_call 187; refine (Ref.sub 69 s3 s9 A3 A9 n3 c3 n9 c9 x _ _ HX9.out H9.out (by decide)).mono ?_; rintro e w10 ⟨s', A', n', c', rfl, hB, hb9⟩; have HB := hid hB; have HF10 := hid (HF9.out.below hb9); obtain ⟨t0, t1, t2, t3, _⟩ := HF10.out; clear hB))
  obtain ⟨_, hfin⟩ : (_ ∧ _ ∧ _ ∧ _) ∧ Below w.heap.size w ((w10.setCell ⟨w.heap.size, 0, none⟩ (.bool s')).setCell ⟨w.heap.size, 1, none⟩ (.slice A' n' c')) := by assumption
  have HFIN := hid hfin
  have HB2 : Hid (IsB w10 70 s' A' n' c' z) := hid (by rw [HZ.out, ← HEQ.out]; exact HB.out)
  clear hfin
  go_wp2
  exact bodyPost_ret (v := .agg #[.bool s', .slice A' n' c']) (by simp [results, Tryz.results133, go_sem, t0, t1]) rfl ⟨_, _, _, _, rfl, HB2.out.store HF10.out.2.2.2.2 _ _ _ _, HFIN.out⟩
 ·have HD2 := hid (HD.out.trans (if_neg g1))
  have f1 : decide (0 ≤ cmpI x P) = false := by
   rw [decide_eq_false_iff_not, HEP.out, cmpI_lt (by omega)]; decide
  clear g1
  go_wp2_with fail
  go_region_held3 (fun w' => (w'.cell? ⟨w3.heap.size, 0, none⟩ = some (.bool s3) ∧ w'.cell? ⟨w3.heap.size, 1, none⟩ = some (.slice A3 n3 c3) ∧ w'.cell? ⟨w3.heap.size, 0, none⟩ = some (.bool s3) ∧ w'.cell? ⟨w3.heap.size, 1, none⟩ = some (.slice A3 n3 c3)) ∧ SQ w 69 s3 A3 n3 c3 x w')
   (first | exact ⟨HS0.out.1, HS0.out.2.1.drew, HS0.out.2.2.drew⟩ | exact keepP (by assumption) hb4 (fun h => SQ.below h hb4))
   (first
    | (go_at_call 137; refine (Ref.power 63 (by decide) _).mono ?_; rintro e w4 ⟨s4, A4, n4, c4, rfl, hB, hb4⟩; rw [← HP.out] at hB; have H4 := hid (hB.mono (show 5 + 63 ≤ 69 by decide)); have HX4 := hid (SQ.below (And.right (by assumption : (_ ∧ _ ∧ _ ∧ _) ∧ SQ w 69 s3 A3 n3 c3 x _)) hb4).2; have HF4 := hid (Fresh.below (w := W0.drew) HF0.out hb4); clear hB)
    | (go_at_call 136; refine (Ref.cmp 69 s3 s4 A3 A4 n3 c3 n4 c4 x _ _ HX4.out H4.out (by decide)).mono ?_; rintro e w5 ⟨rfl, hb4⟩; have HF5 := hid (HF4.out.below hb4)))
  have HSA : Hid ((w5.cell? ⟨w3.heap.size, 0, none⟩ = some (.bool s3) ∧ w5.cell? ⟨w3.heap.size, 1, none⟩ = some (.slice A3 n3 c3) ∧ w5.cell? ⟨w3.heap.size, 0, none⟩ = some (.bool s3) ∧ w5.cell? ⟨w3.heap.size, 1, none⟩ = some (.slice A3 n3 c3)) ∧ SQ w 69 s3 A3 n3 c3 x w5) := hid (by assumption)
  clear HS0 HF0 HF4
  go_wp2_with fail
  clear f1
  by_cases g2 : x < -9223372036854775808
  ·have HZ := hid (HD2.out.trans (if_pos g2))
   have f2 : decide (cmpI x (-P) < 0) = true := by
    rw [decide_eq_true_eq, HEP.out, cmpI_lt (by omega)]; decide
   clear g2
   go_region_held3 (fun w' => (w'.cell? ⟨w3.heap.size, 0, none⟩ = some (.bool s3) ∧ w'.cell? ⟨w3.heap.size, 1, none⟩ = some (.slice A3 n3 c3) ∧ w'.cell? ⟨w3.heap.size, 0, none⟩ = some (.bool s3) ∧ w'.cell? ⟨w3.heap.size, 1, none⟩ = some (.slice A3 n3 c3)) ∧ SQ w 69 s3 A3 n3 c3 x w')
    (first | exact ⟨HSA.out.1, HSA.out.2.1.drew, HSA.out.2.2.drew⟩ | exact keepP (by assumption) hb6 (fun h => SQ.below h hb6))
    (first
     | (go_at_call 137; refine (Ref.power 63 (by decide) _).mono ?_; rintro e w6 ⟨s6, A6, n6, c6, rfl, hB, hb6⟩; rw [← HP.out] at hB; have H6 := hid hB; have HX6 := hid (SQ.below (And.right (by assumption : (_ ∧ _ ∧ _ ∧ _) ∧ SQ w 69 s3 A3 n3 c3 x _)) hb6).2; have HF6 := hid (Fresh.below (w := w5.drew) HF5.out hb6); clear hB)
     | (go_at_call 188; refine (Ref.neg 68 s6 A6 n6 c6 _ _ H6.out (by decide)).mono ?_; rintro e w7 ⟨s7, A7, n7, c7, rfl, hB, hb6⟩; have H7 := hid (hB.mono (show 68 ≤ 69 by decide)); have HX7 := hid (HX6.out.below hb6); have HF7 := hid (HF6.out.below hb6); clear hB)
     | (go_at_call 136; refine (Ref.cmp 69 s3 s7 A3 A7 n3 c3 n7 c7 x _ _ HX7.out H7.out (by decide)).mono ?_; rintro e w8 ⟨rfl, hb6⟩; have HFB := hid (HF7.out.below hb6)))
   have HSB : Hid ((w8.cell? ⟨w3.heap.size, 0, none⟩ = some (.bool s3) ∧ w8.cell? ⟨w3.heap.size, 1, none⟩ = some (.slice A3 n3 c3) ∧ w8.cell? ⟨w3.heap.size, 0, none⟩ = some (.bool s3) ∧ w8.cell? ⟨w3.heap.size, 1, none⟩ = some (.slice A3 n3 c3)) ∧ SQ w 69 s3 A3 n3 c3 x w8) := hid (by assumption)
   clear HSA HF5 HF6 HF7
   go_wp2_with fail
   clear f2
   go_region_held3 (fun w' => (w'.cell? ⟨w3.heap.size, 0, none⟩ = some (.bool s3) ∧ w'.cell? ⟨w3.heap.size, 1, none⟩ = some (.slice A3 n3 c3) ∧ w'.cell? ⟨w3.heap.size, 0, none⟩ = some (.bool s3) ∧ w'.cell? ⟨w3.heap.size, 1, none⟩ = some (.slice A3 n3 c3)) ∧ Below w.heap.size w w')
    (first | exact ⟨HSB.out.1, HSB.out.2.1.drew⟩ | exact keepP (by assumption) hb9 (fun h => below_keep h hb9) | exact keepSt (by assumption) (by omega) (by omega) (by omega) (by omega) (by omega))
    (first
     | (go_at_call 137; refine (Ref.power 64 (by decide) _).mono ?_; rintro e w9 ⟨s9, A9, n9, c9, rfl, hB, hb9⟩; rw [← HQ.out] at hB; have H9 := hid hB; have HX9 := hid (IsB.below (w := w8.drew) HSB.out.2.2 hb9); have HF9 := hid (Fresh.below (w := w8.drew) HFB.out hb9); clear hB)
     | (go_at_call 130; refine (Ref.add 69 s3 s9 A3 A9 n3 c3 n9 c9 x _ _ HX9.out H9.out (by decide)).mono ?_; rintro e w10 ⟨s', A', n', c', rfl, hB, hb9⟩; have HB := hid hB; have HF10 := hid (HF9.out.below hb9); obtain ⟨t0, t1, t2, t3, _⟩ := HF10.out; clear hB))
   obtain ⟨_, hfin⟩ : (_ ∧ _ ∧ _ ∧ _) ∧ Below w.heap.size w ((w10.setCell ⟨w.heap.size, 0, none⟩ (.bool s')).setCell ⟨w.heap.size, 1, none⟩ (.slice A' n' c')) := by assumption
   have HFIN := hid hfin
   have HB2 : Hid (IsB w10 70 s' A' n' c' z) := hid (by rw [HZ.out, ← HEQ.out]; exact HB.out)
   clear hfin
   go_wp2
   exact bodyPost_ret (v := .agg #[.bool s', .slice A' n' c']) (by simp [results, Tryz.results133, go_sem, t0, t1]) rfl ⟨_, _, _, _, rfl, HB2.out.store HF10.out.2.2.2.2 _ _ _ _, HFIN.out⟩
  ·have HZ := hid (HD2.out.trans (if_neg g2))
   have f2 : decide (cmpI x (-P) < 0) = false := by
    rw [decide_eq_false_iff_not, HEP.out]
    rcases Int.lt_or_eq_of_le (show -9223372036854775808 ≤ x by omega) with h | h
    ·rw [cmpI_gt (by omega)]; decide
    ·rw [← h]; decide
   clear g2
   go_region_held3 (fun w' => (w'.cell? ⟨w3.heap.size, 0, none⟩ = some (.bool s3) ∧ w'.cell? ⟨w3.heap.size, 1, none⟩ = some (.slice A3 n3 c3) ∧ w'.cell? ⟨w3.heap.size, 0, none⟩ = some (.bool s3) ∧ w'.cell? ⟨w3.heap.size, 1, none⟩ = some (.slice A3 n3 c3)) ∧ SQ w 69 s3 A3 n3 c3 x w')
    (first | exact ⟨HSA.out.1, HSA.out.2.1.drew, HSA.out.2.2.drew⟩ | exact keepP (by assumption) hb6 (fun h => SQ.below h hb6))
    (first
     | (go_at_call 137; refine (Ref.power 63 (by decide) _).mono ?_; rintro e w6 ⟨s6, A6, n6, c6, rfl, hB, hb6⟩; rw [← HP.out] at hB; have H6 := hid hB; have HX6 := hid (SQ.below (And.right (by assumption : (_ ∧ _ ∧ _ ∧ _) ∧ SQ w 69 s3 A3 n3 c3 x _)) hb6).2; have HF6 := hid (Fresh.below (w := w5.drew) HF5.out hb6); clear hB)
     | (go_at_call 188; refine (Ref.neg 68 s6 A6 n6 c6 _ _ H6.out (by decide)).mono ?_; rintro e w7 ⟨s7, A7, n7, c7, rfl, hB, hb6⟩; have H7 := hid (hB.mono (show 68 ≤ 69 by decide)); have HX7 := hid (HX6.out.below hb6); have HF7 := hid (HF6.out.below hb6); clear hB)
     | (go_at_call 136; refine (Ref.cmp 69 s3 s7 A3 A7 n3 c3 n7 c7 x _ _ HX7.out H7.out (by decide)).mono ?_; rintro e w8 ⟨rfl, hb6⟩; have HFB := hid (HF7.out.below hb6)))
   have HSB : Hid ((w8.cell? ⟨w3.heap.size, 0, none⟩ = some (.bool s3) ∧ w8.cell? ⟨w3.heap.size, 1, none⟩ = some (.slice A3 n3 c3) ∧ w8.cell? ⟨w3.heap.size, 0, none⟩ = some (.bool s3) ∧ w8.cell? ⟨w3.heap.size, 1, none⟩ = some (.slice A3 n3 c3)) ∧ SQ w 69 s3 A3 n3 c3 x w8) := hid (by assumption)
   clear HSA HF5 HF6 HF7
   obtain ⟨x0, x1, _, _⟩ := HSB.out.1
   obtain ⟨t0, t1, t2, t3, _⟩ := HFB.out
   go_wp2_with fail
   refine bodyPost_ret (v := .agg #[.bool s3, .slice A3 n3 c3]) (by simp [results, Tryz.results133, go_sem, t0, t1]) rfl ⟨_, _, _, _, rfl, (show IsB w8 70 s3 A3 n3 c3 z by rw [HZ.out]; exact HSB.out.2.2.mono (by decide)).store HFB.out.2.2.2.2 _ _ _ _, (HSB.out.2.1.setCell (by simp) _).setCell (by simp) _⟩
end


section
open Go.RowKit
set_option maxRecDepth 100000 in
set_option maxHeartbeats 4000000 in
theorem Ref.small (K : Nat) (hK : K ≤ 1000) (s : Bool) (A : Option Addr) (n c : Nat) (x : Int) (w : World) (hx : IsB w K s A n c x) (v : Bool) (hv : v = true ↔ (-9223372036854775808 ≤ x ∧ x < 9223372036854775808)) :
  Calls Tryz.prog 179 #[.agg #[.bool s, .slice A n c]] w fun e w' => e = .returned (.bool v) ∧ Below w.heap.size w w' := by
 obtain ⟨P, hP⟩ : ∃ P : Int, P = 2 ^ 63 := ⟨_, rfl⟩
 have hP2 : P = 9223372036854775808 := by rw [hP]; rfl
 rw [← hP2] at hv
 have HP := hid hP
 have HX := hid (hx.mono (show K ≤ 1132 by omega))
 have HV := hid hv
 clear hP hP2 hx hv
 go_enter Tryz.func179, Tryz.ntmps179
 go_wp2_with fail
 refine (Ref.power 63 (by decide) _).mono ?_
 rintro e w1 ⟨s1, A1, n1, c1, rfl, hB1, hb1⟩
 rw [← HP.out] at hB1
 have hbw := ((Below.refl _ w).alloc (Nat.le_refl _) (Obj.cells #[.bool s, .slice A n c] 198)).trans (hb1.mono (by simp))
 have hc0 : w1.cell? ⟨w.heap.size, 0, none⟩ = some (.bool s) ∧ w1.cell? ⟨w.heap.size, 1, none⟩ = some (.slice A n c) := keep2 ⟨by simp [go_sem], by simp [go_sem]⟩ hb1
 have HS0 : Hid (((w1.alloc (Obj.cells #[.bool s1, .slice A1 n1 c1] 198)).cell? ⟨w.heap.size, 0, none⟩ = some (.bool s) ∧ (w1.alloc (Obj.cells #[.bool s1, .slice A1 n1 c1] 198)).cell? ⟨w.heap.size, 1, none⟩ = some (.slice A n c) ∧ (w1.alloc (Obj.cells #[.bool s1, .slice A1 n1 c1] 198)).cell? ⟨w1.heap.size, 0, none⟩ = some (.bool s1) ∧ (w1.alloc (Obj.cells #[.bool s1, .slice A1 n1 c1] 198)).cell? ⟨w1.heap.size, 1, none⟩ = some (.slice A1 n1 c1)) ∧ PQ w s1 A1 n1 c1 P (w1.alloc (Obj.cells #[.bool s1, .slice A1 n1 c1] 198))) := hid ⟨⟨cell_alloc _ hc0.1, cell_alloc _ hc0.2, by simp [go_sem], by simp [go_sem]⟩, hbw.alloc hbw.size _, (hB1.mono (by decide)).alloc _⟩
 clear hB1 hb1 hbw hc0
 by_cases h1 : x < P
 ·have f1 : decide (cmpI x P < 0) = true := by rw [cmpI_lt h1]; rfl
  by_cases h2 : -P ≤ x
  ·have f2 : decide (0 ≤ cmpI x (-P)) = true := by
    rw [decide_eq_true_eq]
    rcases Int.lt_or_le (-P) x with h | h
    ·rw [cmpI_gt h]; decide
    ·rw [show x = -P by omega, cmpI_eq]; decide
   have hvt : v = true := HV.out.2 ⟨h2, h1⟩
   subst hvt
   clear h1 h2
   go_wp2_with fail
   go_region_held3 (fun w' => (w'.cell? ⟨w.heap.size, 0, none⟩ = some (.bool s) ∧ w'.cell? ⟨w.heap.size, 1, none⟩ = some (.slice A n c) ∧ w'.cell? ⟨w1.heap.size, 0, none⟩ = some (.bool s1) ∧ w'.cell? ⟨w1.heap.size, 1, none⟩ = some (.slice A1 n1 c1)) ∧ PQ w s1 A1 n1 c1 P w')
    (first | exact ⟨HS0.out.1, HS0.out.2.1.drew, HS0.out.2.2.drew⟩ | exact keepP (by assumption) hb2 (fun h => PQ.below h hb2))
    (first
     | (go_at_call 188; refine (Ref.neg 1132 s1 A1 n1 c1 P _ (by assumption : (_ ∧ _ ∧ _ ∧ _) ∧ PQ w s1 A1 n1 c1 P _).2.2 (by decide)).mono ?_; rintro e w3 ⟨s3, A3, n3, c3, rfl, hB3, hb2⟩; have H3 := hid hB3; have HX3 := hid (HX.out.below (below_keep (by assumption : (_ ∧ _ ∧ _ ∧ _) ∧ PQ w s1 A1 n1 c1 P _).2.1 hb2)); clear hB3)
     | (go_at_call 136; refine (Ref.cmp 1132 s s3 A A3 n c n3 c3 x (0 - P) _ HX3.out H3.out (by decide)).mono ?_; rintro e w2 ⟨rfl, hb2⟩)
     | (go_at_call 136; refine (Ref.cmp 1132 s s1 A A1 n c n1 c1 x P _ (HX.out.below (by assumption : (_ ∧ _ ∧ _ ∧ _) ∧ PQ w s1 A1 n1 c1 P _).2.1) (by assumption : (_ ∧ _ ∧ _ ∧ _) ∧ PQ w s1 A1 n1 c1 P _).2.2 (by decide)).mono ?_; rintro e w2 ⟨rfl, hb2⟩))
   obtain ⟨_, hfin⟩ : (_ ∧ _ ∧ _ ∧ _) ∧ PQ w s1 A1 n1 c1 P w2 := by assumption
   have HFIN := hid hfin.1
   clear hfin
   go_wp2
   go_ret
   exact ⟨rfl, HFIN.out⟩
  ·have f2 : decide (0 ≤ cmpI x (-P)) = false := by
    rw [decide_eq_false_iff_not, cmpI_lt (by omega)]; decide
   have hvt : v = false := by
    cases v
    ·rfl
    ·exact absurd (HV.out.1 rfl).1 h2
   subst hvt
   clear h1 h2
   go_wp2_with fail
   go_region_held3 (fun w' => (w'.cell? ⟨w.heap.size, 0, none⟩ = some (.bool s) ∧ w'.cell? ⟨w.heap.size, 1, none⟩ = some (.slice A n c) ∧ w'.cell? ⟨w1.heap.size, 0, none⟩ = some (.bool s1) ∧ w'.cell? ⟨w1.heap.size, 1, none⟩ = some (.slice A1 n1 c1)) ∧ PQ w s1 A1 n1 c1 P w')
    (first | exact ⟨HS0.out.1, HS0.out.2.1.drew, HS0.out.2.2.drew⟩ | exact keepP (by assumption) hb2 (fun h => PQ.below h hb2))
    (first
     | (go_at_call 188; refine (Ref.neg 1132 s1 A1 n1 c1 P _ (by assumption : (_ ∧ _ ∧ _ ∧ _) ∧ PQ w s1 A1 n1 c1 P _).2.2 (by decide)).mono ?_; rintro e w3 ⟨s3, A3, n3, c3, rfl, hB3, hb2⟩; have H3 := hid hB3; have HX3 := hid (HX.out.below (below_keep (by assumption : (_ ∧ _ ∧ _ ∧ _) ∧ PQ w s1 A1 n1 c1 P _).2.1 hb2)); clear hB3)
     | (go_at_call 136; refine (Ref.cmp 1132 s s3 A A3 n c n3 c3 x (0 - P) _ HX3.out H3.out (by decide)).mono ?_; rintro e w2 ⟨rfl, hb2⟩)
     | (go_at_call 136; refine (Ref.cmp 1132 s s1 A A1 n c n1 c1 x P _ (HX.out.below (by assumption : (_ ∧ _ ∧ _ ∧ _) ∧ PQ w s1 A1 n1 c1 P _).2.1) (by assumption : (_ ∧ _ ∧ _ ∧ _) ∧ PQ w s1 A1 n1 c1 P _).2.2 (by decide)).mono ?_; rintro e w2 ⟨rfl, hb2⟩))
   obtain ⟨_, hfin⟩ : (_ ∧ _ ∧ _ ∧ _) ∧ PQ w s1 A1 n1 c1 P w2 := by assumption
   have HFIN := hid hfin.1
   clear hfin
   go_wp2
   go_ret
   exact ⟨rfl, HFIN.out⟩
 ·have f1 : decide (cmpI x P < 0) = false := by
   rw [decide_eq_false_iff_not]
   rcases Int.lt_or_le P x with h | h
   ·rw [cmpI_gt h]; decide
   ·rw [show x = P by omega, cmpI_eq]; decide
  have hvt : v = false := by
   cases v
   ·rfl
   ·exact absurd (HV.out.1 rfl).2 h1
  subst hvt
  clear h1
  go_wp2_with fail
  refine wp_region_held_drew (S := (fun w' => (w'.cell? ⟨w.heap.size, 0, none⟩ = some (.bool s) ∧ w'.cell? ⟨w.heap.size, 1, none⟩ = some (.slice A n c) ∧ w'.cell? ⟨w1.heap.size, 0, none⟩ = some (.bool s1) ∧ w'.cell? ⟨w1.heap.size, 1, none⟩ = some (.slice A1 n1 c1)) ∧ PQ w s1 A1 n1 c1 P w')) (by kernel_rfl) ⟨HS0.out.1, HS0.out.2.1.drew, HS0.out.2.2.drew⟩ (fun hHeld => ?_)
  refine wpAnyH_take (i := 0) (v := ?_) rfl (by kernel_rfl) (by kernel_rfl) (by kernel_rfl) (fun _ _ _ h => h) (Or.inl ⟨by rfl, ?_⟩) (by assumption) ?_
  rotate_left
  ·intro w hSw; (try dsimp only at hSw); go_simp; (try with_reducible rfl)
  try simp only [tdy]
  refine wpAnyH_take (i := 1) (v := ?_) rfl (by kernel_rfl) (by kernel_rfl) (by kernel_rfl) (fun _ _ _ h => h) (Or.inl ⟨by rfl, ?_⟩) (by assumption) ?_
  rotate_left
  ·intro w hSw; (try dsimp only at hSw); go_simp; (try with_reducible rfl)
  try simp only [tdy]
  refine wpAnyH_ready (rs := [2]) (by kernel_rfl) (by simp) ?_
  refine AllReadyH.cons rfl (fun K hK => ?_) AllReadyH.nil
  go_simp
  go_at_call 136
  refine (Ref.cmp 1132 s s1 A A1 n c n1 c1 x P _ (HX.out.below (by assumption : (_ ∧ _ ∧ _ ∧ _) ∧ PQ w s1 A1 n1 c1 P _).2.1) (by assumption : (_ ∧ _ ∧ _ ∧ _) ∧ PQ w s1 A1 n1 c1 P _).2.2 (by decide)).mono ?_
  rintro e w2 ⟨rfl, hb2⟩
  refine hK.out _ _ ?_ (fun hHeld => ?_)
  ·exact keepP hHeld hb2 (fun h => PQ.below h hb2)
  clear hK K
  try simp only [tdy]
  refine wpAnyH_take (i := 3) (v := ?_) rfl (by kernel_rfl) (by kernel_rfl) (by kernel_rfl) (fun _ _ _ h => h) (Or.inl ⟨by rfl, ?_⟩) (by assumption) ?_
  rotate_left
  ·intro w hSw; (try dsimp only at hSw); go_simp; (try with_reducible rfl)
  try simp only [tdy]
  refine wpAnyH_take (i := 4) (v := ?_) rfl (by kernel_rfl) (by kernel_rfl) (by kernel_rfl) (fun _ _ _ h => h) (Or.inl ⟨by rfl, ?_⟩) (by assumption) ?_
  rotate_left
  ·intro w hSw; (try dsimp only at hSw); go_simp; (try with_reducible rfl)
  try simp only [tdy]
  refine wpAnyH_take (i := 5) (v := undef) rfl (by kernel_rfl) (by kernel_rfl) (by kernel_rfl) (fun _ _ _ h => h) (Or.inr ⟨by rfl, rfl⟩) (by assumption) ?_
  try simp only [tdy]
  refine wpAnyH_take (i := 6) (v := undef) rfl (by kernel_rfl) (by kernel_rfl) (by kernel_rfl) (fun _ _ _ h => h) (Or.inr ⟨by rfl, rfl⟩) (by assumption) ?_
  try simp only [tdy]
  refine wpAnyH_take (i := 7) (v := undef) rfl (by kernel_rfl) (by kernel_rfl) (by kernel_rfl) (fun _ _ _ h => h) (Or.inr ⟨by rfl, rfl⟩) (by assumption) ?_
  try simp only [tdy]
  refine wpAnyH_take (i := 8) (v := undef) rfl (by kernel_rfl) (by kernel_rfl) (by kernel_rfl) (fun _ _ _ h => h) (Or.inr ⟨by rfl, rfl⟩) (by assumption) ?_
  try simp only [tdy]
  refine wpAnyH_take (i := 9) (v := undef) rfl (by kernel_rfl) (by kernel_rfl) (by kernel_rfl) (fun _ _ _ h => h) (Or.inr ⟨by rfl, rfl⟩) (by assumption) ?_
  try simp only [tdy]
  refine wpAnyH_take (i := 10) (v := ?_) rfl (by kernel_rfl) (by kernel_rfl) (by kernel_rfl) (fun _ _ _ h => h) (Or.inl ⟨by rfl, ?_⟩) (by assumption) ?_
  rotate_left
  ·intro w hSw; (try dsimp only at hSw); go_simp; (try with_reducible rfl)
  try simp only [tdy]
  refine wpAnyH_take (i := 11) (v := ?_) rfl (by kernel_rfl) (by kernel_rfl) (by kernel_rfl) (fun _ _ _ h => h) (Or.inl ⟨by rfl, ?_⟩) (by assumption) ?_
  rotate_left
  ·intro w hSw; (try dsimp only at hSw); go_simp; (try with_reducible rfl)
  try simp only [tdy]
  refine wpAnyH_done (by kernel_rfl) ?_ _
  obtain ⟨_, hfin⟩ : (_ ∧ _ ∧ _ ∧ _) ∧ PQ w s1 A1 n1 c1 P _ := by assumption
  have HFIN := hid hfin.1
  clear hfin
  go_wp2
  go_ret
  exact ⟨rfl, HFIN.out⟩
end


section
open Go.RowKit
def DvAns (K : Nat) (z b : Int) (w : World) (e : Ending) (w' : World) : Prop :=
 ∃ (s : Bool) (A : Option Addr) (n c : Nat), e = .returned (.tuple #[.agg #[.bool s, .slice A n c], .int .i64 (z % b)]) ∧ IsB w' (K + 5 + 1) s A n c (z / b) ∧ Below w.heap.size w w'
def DInv (w0 : World) (s : Bool) (A : Option Addr) (n c : Nat) (ws : List Int) (w : World) : Prop :=
 Var w w0.heap.size s A n c ∧ Fresh w (w0.heap.size + 1) ∧ Own w (w0.heap.size + 2) (some ⟨w0.heap.size + 2, 0, none⟩) n n ws ∧ Below w0.heap.size w0 w
theorem DInv.made {w w1 : World} {s : Bool} {A : Option Addr} {n c : Nat} {ty : TypeId} {row : Value}
  (hr : row = .slice (some ⟨((w.alloc (.cells #[.bool s, .slice A n c] ty)).alloc (.cells #[.bool false, .slice none 0 0] ty)).heap.size, 0, none⟩) n n)
  (ho : w1.ownsRow (w.heap.size + 2) 3 1 row n (madeCells (Value.int IntKind.i64 0).cells (n * 1)).toList)
  (hg : ((w.alloc (.cells #[.bool s, .slice A n c] ty)).alloc (.cells #[.bool false, .slice none 0 0] ty)).grownBy w1 none) :
  DInv w s A n c (List.replicate n 0) w1 := by
 have h1 : Var ((w.alloc (.cells #[.bool s, .slice A n c] ty)).alloc (.cells #[.bool false, .slice none 0 0] ty)) w.heap.size s A n c := (Var.new _ _ _ _ _ _).alloc _
 have h2 : Fresh ((w.alloc (.cells #[.bool s, .slice A n c] ty)).alloc (.cells #[.bool false, .slice none 0 0] ty)) (w.heap.size + 1) := by
  have := Fresh.new (w.alloc (.cells #[.bool s, .slice A n c] ty)) ty
  simpa using this
 have h3 : Below w.heap.size w ((w.alloc (.cells #[.bool s, .slice A n c] ty)).alloc (.cells #[.bool false, .slice none 0 0] ty)) := ((Below.refl _ _).alloc (Nat.le_refl _) _).alloc (by simp) _
 obtain ⟨W0, hW⟩ : ∃ W0, W0 = (w.alloc (Obj.cells #[Value.bool s, Value.slice A n c] ty)).alloc (Obj.cells #[Value.bool false, Value.slice none 0 0] ty) := ⟨_, rfl⟩
 rw [← hW] at hr hg h1 h2 h3
 have hsz : W0.heap.size = w.heap.size + 2 := by rw [hW]; simp
 have hb : Below W0.heap.size W0 w1 := (Below.refl _ W0).grown hg (Nat.le_refl _) (fun k e => by cases e)
 have hown : Own w1 (w.heap.size + 2) (some ⟨w.heap.size + 2, 0, none⟩) n n (List.replicate n 0) := by
  rw [hr, hsz] at ho
  unfold Own
  rw [List.map_replicate]
  have e : (madeCells (Value.int IntKind.i64 0).cells (n * 1)).toList = List.replicate n (Value.int .i64 0) := by
   rw [Nat.mul_one]; exact toList_madeCells_one _ _
  rw [e] at ho
  exact ho
 exact ⟨h1.below hb, h2.below hb, hown, below_keep h3 hb⟩
theorem Var.far1 {w : World} {g : Nat} {s : Bool} {A : Option Addr} {n c : Nat} (h : Var w g s A n c) {b : Nat} (hb : b ≠ g) (o : Nat) (u : Value) : Var (w.setCell ⟨b, o, none⟩ u) g s A n c := by
 have far : ∀ (p : Nat), (w.setCell ⟨b, o, none⟩ u).cell? ⟨g, p, none⟩ = w.cell? ⟨g, p, none⟩ := fun p => World.cell?_setCell_other w ⟨b, o, none⟩ ⟨g, p, none⟩ u (fun e => by injection e with e1; exact hb e1)
 refine ⟨(far 0).trans h.1, (far 1).trans h.2.1, ?_, ?_, fun p k e => h.2.2.2.2 p k ((far p).symm.trans e)⟩
 ·simpa [go_sem] using h.2.2.1
 ·simpa [go_sem] using h.2.2.2.1
theorem DInv.put {w0 w : World} {s : Bool} {A : Option Addr} {n c : Nat} {ws : List Int} (h : DInv w0 s A n c ws w) (j : Nat) (z : Int) : DInv w0 s A n c (ws.set j z) (w.setCell ⟨w0.heap.size + 2, j, none⟩ (.int .i64 z)) :=
 ⟨h.1.far1 (by omega) _ _, h.2.1.setCell (by omega) _ _, h.2.2.1.put _ _, h.2.2.2.setCell (show w0.heap.size ≤ w0.heap.size + 2 by omega) _⟩
set_option maxRecDepth 100000 in
set_option maxHeartbeats 4000000 in
theorem Ref.div (K : Nat) (hK : K ≤ 1000) (s : Bool) (A : Option Addr) (n c : Nat) (z b : Int) (b0 : 1 ≤ b) (b1 : b ≤ 33554432) (w : World) (hz : IsB w K s A n c z) :
  Calls Tryz.prog 178 #[.agg #[.bool s, .slice A n c], .int .i64 b] w (DvAns K z b w) := by
 obtain ⟨zs, hX, hn, hnc, dX, nX, sX, eX⟩ := hz
 have HX := hid hX
 have HD := hid dX
 have HE := hid eX
 have HLZ := hid hX.1
 clear hX dX nX sX eX
 obtain ⟨i0, hi, hz0, hz1, hz2⟩ := info_parts infoInt
 have wN1 : IntKind.i64.wrap ((n : Int) - 1) = (n : Int) - 1 := by rw [IntKind.wrap_i64]; omega
 have wb : (b == 0) = false := by rw [beq_eq_false_iff_ne]; omega
 go_enter Tryz.func178, Tryz.ntmps178
 go_wp2_with (first | (refine wpList_make_full _ rfl _ _ _ rfl (w.heap.size + 2) 3 i0 (.int .i64 0) 1 Tryz.underlying196 hi hz0 hz1 .i64 .i64 _ _ n rfl rfl (by simp) (by simp) (by rw [hz2]; omega) (by unfold maxLen; omega) (by simp) ?_; intro w1 hown hgrow; have HM := hid (DInv.made rfl hown hgrow); clear hown hgrow; obtain ⟨v0, v1, v2, v3, _⟩ := HM.out.1))
 go_loopg [7, 8] n (fun g rest i wr => ∃ (r : Nat) (rs x : Int) (ws : List Int), r ≤ n ∧ g = r ∧ i = .int .i64 x ∧ rest = .int .i64 rs ∧ Hid (x = (r : Int) - 1 ∧ (val (ws.drop r) * b + rs = val (zs.drop r) ∧ Dg ws ∧ ws.length = n ∧ 0 ≤ rs ∧ rs < b)) ∧ DInv w s A n c ws wr)
 case atStart =>
  refine ⟨n, 0, _, _, Nat.le_refl _, rfl, rfl, rfl, hid ⟨by omega, ⟨?_, Dg.nought _, by simp, by omega, by omega⟩⟩, HM.out⟩
  rw [List.drop_of_length_le (by simp), List.drop_of_length_le (by have := HLZ.out; omega)]; simp [val]
 case round =>
  obtain ⟨r, rs, x, ws, hr, hg, rfl, rfl, hI, hM⟩ := hrel
  have HG := hid hg
  have HM2 := hid hM
  obtain ⟨v0, v1, v2, v3, _⟩ := hM.1
  clear hg hM
  rcases r with _ | j
  ·have hx : x = -1 := by have := hI.out.1; omega
   subst hx
   have hv := hI.out.2.1
   rw [List.drop_zero, List.drop_zero] at hv
   have r0 := hI.out.2.2.2.2.1
   have r1 := hI.out.2.2.2.2.2
   have HW := hid (And.intro hv hI.out.2.2.1)
   clear hv hI
   go_wp2_with fail
   refine (Ref.trim K false _ n n ws _ HM2.out.2.2.1.rd hn (by omega) (Nat.le_refl _) HW.out.2 (val ws) (hid (by simp))).mono ?_
   rintro e w2 ⟨s2, A2, n2, c2, rfl, hB, hb2⟩
   have H2 := hid hB
   have V2 := hid (HM2.out.1.below hb2)
   have F2 := hid (HM2.out.2.1.below hb2)
   have B2 := hid (below_keep HM2.out.2.2.2 hb2)
   have z1 := V2.out.lt
   have z2 := (Var.fresh F2.out).lt
   clear hB hb2 v0 v1 v2 v3 HM2
   obtain ⟨v0, v1, _, _, _⟩ := V2.out
   obtain ⟨t0, t1, t2, t3, _⟩ := F2.out
   rcases s with _ | _
   ·have HQ := hid (show z / b = val ws ∧ z % b = rs by
     have h1 := HE.out
     have h2 := HW.out.1
     simp at h1
     obtain ⟨q1, q2⟩ := div_uniq (q := val ws) (b := b) (r := rs) (a := z) (by omega) r0 r1
     exact ⟨q1.symm, q2.symm⟩)
    go_wp2_with fail
    refine bodyPost_ret (v := .tuple #[.agg #[.bool s2, .slice A2 n2 c2], .int .i64 rs]) (by simp [results, Tryz.results178, go_sem, t0, t1, z2]) rfl ⟨s2, A2, n2, c2, by rw [HQ.out.2], ?_, ?_⟩
    ·rw [HQ.out.1]
     exact ((H2.out.mono (show K ≤ K + 5 + 1 by omega)).store F2.out.2.2.2.2 0 1 (.bool s2) (.slice A2 n2 c2)).alloc _
    ·have bs := B2.out.size
     refine Below.alloc ?_ (by simp; omega) _
     exact (B2.out.setCell (by simp) _).setCell (by simp) _
   ·have hz2 : z = -(val ws * b + rs) := by
     have h1 := HE.out
     have h2 := HW.out.1
     simp at h1
     omega
    by_cases hr0 : 0 < rs
    ·have HQ := hid (show z / b = 0 - (val ws + 1) ∧ z % b = b - rs by
      obtain ⟨q1, q2⟩ := div_uniq (q := 0 - (val ws + 1)) (b := b) (r := b - rs) (a := z) (by rw [hz2, Int.sub_mul, Int.add_mul]; omega) (by omega) (by omega)
      exact ⟨q1.symm, q2.symm⟩)
     have wr1 : IntKind.i64.wrap (b - rs) = b - rs := by rw [IntKind.wrap_i64]; omega
     clear hz2
     go_upto_region 13 with fail
     have V3 := hid (Var.new w2 198 s2 A2 n2 c2)
     have H3 := hid (H2.out.alloc (.cells #[.bool s2, .slice A2 n2 c2] 198))
     have F3 := hid (F2.out.below ((Below.refl _ w2).alloc (Nat.le_refl _) (.cells #[.bool s2, .slice A2 n2 c2] 198)))
     have B3 := hid (B2.out.alloc B2.out.size (.cells #[.bool s2, .slice A2 n2 c2] 198))
     have z3 := (Var.fresh F3.out).lt
     have bs := B2.out.size
     clear v0 v1 t0 t1 t2 t3
     generalize w2.alloc (.cells #[.bool s2, .slice A2 n2 c2] 198) = w3 at *
     obtain ⟨v0, v1, v2, v3, _⟩ := V3.out
     go_region_with (first
      | (go_at_call 189; refine (Ref.N 1 (by decide) (by decide) _).mono ?_; rintro e w4 ⟨s4, A4, n4, c4, rfl, hB, hb4⟩; have H4 := hid (hB.mono (show 5 ≤ K + 5 by omega)); have V4 := hid (V3.out.drew.below hb4); have H34 := hid ((H3.out.drew.below hb4).mono (show K ≤ K + 5 by omega)); have F4 := hid (Fresh.below (w := w3.drew) F3.out hb4); have B4 := hid (below_keep B3.out.drew hb4); obtain ⟨v0, v1, v2, v3, _⟩ := V4.out; clear hB hb4)
      | (go_at_call 130; refine (Ref.add (K + 5) s2 s4 A2 A4 n2 c2 n4 c4 _ _ _ H34.out H4.out (by omega)).mono ?_; rintro e w5 ⟨s5, A5, n5, c5, rfl, hB, hb4⟩; have H5 := hid hB; have V5 := hid (V4.out.below hb4); have F5 := hid (F4.out.below hb4); have B5 := hid (below_keep B4.out hb4); obtain ⟨v0, v1, v2, v3, _⟩ := V5.out; clear hB hb4))
     all_goals
      have H6 := hid (H5.out.storeV V5.out 0 1 (.bool s5) (.slice A5 n5 c5))
      have F6 := hid (Fresh.ofVar ((Var.fresh F5.out).far (b := w2.heap.size) (by omega) 0 1 (.bool s5) (.slice A5 n5 c5)))
      have B6 := hid ((B5.out.setCell (p := ⟨w2.heap.size, 0, none⟩) bs (.bool s5)).setCell (p := ⟨w2.heap.size, 1, none⟩) bs (.slice A5 n5 c5))
      go_wp2_with fail
      refine (Ref.neg (K + 5 + 1) s5 A5 n5 c5 _ _ H6.out (by omega)).mono ?_
      rintro e w7 ⟨s7, A7, n7, c7, rfl, hB, hb7⟩
      have H7 := hid hB
      have F7 := hid (F6.out.below hb7)
      have B7 := hid (below_keep B6.out hb7)
      clear hB hb7
      obtain ⟨t0, t1, t2, t3, _⟩ := F7.out
      go_wp2_with fail
      refine bodyPost_ret (v := .tuple #[.agg #[.bool s7, .slice A7 n7 c7], .int .i64 (b - rs)]) (by simp [results, Tryz.results178, go_sem, t0, t1]) rfl ⟨s7, A7, n7, c7, by rw [HQ.out.2], ?_, ?_⟩
      ·rw [HQ.out.1]
       exact (show IsB w7 (K + 5 + 1) s7 A7 n7 c7 (0 - (val ws + 1)) from H7.out).store F7.out.2.2.2.2 _ _ _ _
      ·exact (B7.out.setCell (by simp) _).setCell (by simp) _
    ·have HQ := hid (show z / b = 0 - val ws ∧ z % b = rs by
      obtain ⟨q1, q2⟩ := div_uniq (q := 0 - val ws) (b := b) (r := rs) (a := z) (by rw [hz2, Int.sub_mul]; omega) r0 r1
      exact ⟨q1.symm, q2.symm⟩)
     clear hz2
     go_wp2_with fail
     refine (Ref.neg K s2 A2 n2 c2 _ _ (H2.out.alloc _) (by omega)).mono ?_
     rintro e w7 ⟨s7, A7, n7, c7, rfl, hB, hb7⟩
     have H7 := hid (hB.mono (show K ≤ K + 5 + 1 by omega))
     have F7 := hid ((F2.out.below ((Below.refl _ w2).alloc (Nat.le_refl _) (.cells #[.bool s2, .slice A2 n2 c2] 198))).below hb7)
     have B7 := hid (below_keep (B2.out.alloc B2.out.size (.cells #[.bool s2, .slice A2 n2 c2] 198)) hb7)
     clear hB hb7 t0 t1 t2 t3
     obtain ⟨t0, t1, t2, t3, _⟩ := F7.out
     go_wp2_with fail
     refine bodyPost_ret (v := .tuple #[.agg #[.bool s7, .slice A7 n7 c7], .int .i64 rs]) (by simp [results, Tryz.results178, go_sem, t0, t1]) rfl ⟨s7, A7, n7, c7, by rw [HQ.out.2], ?_, ?_⟩
     ·rw [HQ.out.1]
      exact H7.out.store F7.out.2.2.2.2 _ _ _ _
     ·exact (B7.out.setCell (by simp) _).setCell (by simp) _
  ·have hx : x = (j : Int) := by have := hI.out.1; omega
   subst hx
   obtain ⟨b2, off2, e2, hc⟩ := (HX.out.below HM2.out.2.2.2).2 (by omega)
   subst e2
   have hcell := hc j (by omega)
   have hq := HM2.out.2.2.1.at (j := j) (by omega)
   have hf := HM2.out.2.2.1.hot j
   have HS := hid (div_step (b := b) (i := j) (by omega) (by have := hI.out.2.2.2.1; omega) (by have := HLZ.out; omega) HD.out hI.out.2.2.1 hI.out.2.2.2.2.1 hI.out.2.2.2.2.2 hI.out.2.1)
   have HDG := hid (HD.out.getD j)
   have r0 := hI.out.2.2.2.2.1
   have r1 := hI.out.2.2.2.2.2
   generalize zs.getD j 0 = d at *
   have d0 := HDG.out.1
   have d1 := HDG.out.2
   have w1' : IntKind.i64.wrap (rs * 10000) = rs * 10000 := by rw [IntKind.wrap_i64]; omega
   have w2' : IntKind.i64.wrap (rs * 10000 + d) = rs * 10000 + d := by rw [IntKind.wrap_i64]; omega
   have hjn : (j : Int) < (n : Int) := by omega
   clear hc
   go_wp2_with fail
   go_roundg j
   case measure => have := HG.out; omega
   case rel => exact ⟨j, _, _, _, by omega, rfl, rfl, rfl, hid ⟨rfl, HS.out.1, HS.out.2.1, by rw [List.length_set]; exact hI.out.2.2.2.1, HS.out.2.2⟩, HM2.out.put _ _⟩
end


section
open Go.RowKit
set_option maxRecDepth 100000 in
set_option maxHeartbeats 4000000 in
theorem Ref3.round (K : Nat) (hK : K ≤ 1000) (hK2 : 69 ≤ K) (s : Bool) (A : Option Addr) (n c : Nat) (z : Int) (z0 : -18446744073709551616 ≤ z) (z1 : z < 36893488147419103232) (w : World) (hz : IsB w K s A n c z) :
  Calls Tryz.prog 181 #[.agg #[.bool s, .slice A n c]] w (BAns (K + 2) (z % 18446744073709551616) w) := by
 have H0 := hid hz
 obtain ⟨m, hm⟩ : ∃ m, m = z % 18446744073709551616 := ⟨_, rfl⟩
 rw [← hm]
 have HM := hid hm
 have Z0 := hid z0
 have Z1 := hid z1
 clear hz hm z0 z1
 obtain ⟨P, hP⟩ : ∃ P : Int, P = 2 ^ 64 := ⟨_, rfl⟩
 have EP : P = 18446744073709551616 := by rw [hP]; rfl
 have HP := hid hP
 have HEP := hid EP
 clear hP EP
 go_enter Tryz.func181, Tryz.ntmps181
 go_wp2_with fail
 refine (Ref.power 64 (by decide) _).mono ?_
 rintro e w1 ⟨s1, A1, n1, c1, rfl, hB1, hb1⟩
 rw [← HP.out] at hB1
 have H1 := hid (hB1.mono (show 5 + 64 ≤ K from hK2))
 have HV1 := hid (((Var.new w 198 s A n c).alloc (.cells #[.bool false, .slice none 0 0] 198)).below hb1)
 have HF1 := hid (((by have := Fresh.new (w.alloc (.cells #[.bool s, .slice A n c] 198)) 198; simpa using this : Fresh ((w.alloc (.cells #[.bool s, .slice A n c] 198)).alloc (.cells #[.bool false, .slice none 0 0] 198)) (w.heap.size + 1))).below hb1)
 have H01 := hid (((H0.out.alloc _).alloc _).below hb1)
 have HB1 := hid ((((Below.refl _ w).alloc (Nat.le_refl _) (.cells #[.bool s, .slice A n c] 198)).alloc (by simp) (.cells #[.bool false, .slice none 0 0] 198)).trans (hb1.mono (by simp; omega)))
 have hs1 : w.heap.size + 1 < w1.heap.size := World.block_lt_of_cell? w1 _ HF1.out.1
 clear hB1 hb1
 go_wp2_with fail
 go_loopg [] 1 (fun g wr => ∃ (y : Int) (s' : Bool) (A' : Option Addr) (n' c' : Nat), (g = 1 ∧ y = z ∨ g = 0 ∧ 0 ≤ y ∧ y < 36893488147419103232 ∧ y % 18446744073709551616 = m) ∧ IsB wr (K + 1 - g) s' A' n' c' y ∧ Var wr w.heap.size s' A' n' c' ∧ Fresh wr (w.heap.size + 1) ∧ Var wr w1.heap.size s1 A1 n1 c1 ∧ IsB wr K s1 A1 n1 c1 P ∧ Below w.heap.size w wr)
 case atStart =>
  have hba := (Below.refl _ w1).alloc (Nat.le_refl _) (Obj.cells #[.bool s1, .slice A1 n1 c1] 198)
  exact ⟨z, s, A, n, c, .inl ⟨rfl, rfl⟩, H01.out.below hba, HV1.out.below hba, HF1.out.below hba, Var.new _ _ _ _ _ _, H1.out.alloc _, below_keep HB1.out hba⟩
 case round =>
  obtain ⟨y3, s3, A3, n3, c3, hy, hB, hV, hF, hE, hEB, hb⟩ := hrel
  have HY3 := hid hy
  have HB3 := hid hB
  have HV3 := hid hV
  have HF3 := hid hF
  have HE3 := hid hE
  have HEB3 := hid hEB
  have HBL3 := hid hb
  have hsz3 := World.block_lt_of_cell? _ _ hE.1
  obtain ⟨v0, v1, v2, v3, _⟩ := hV
  obtain ⟨e0, e1, _, _, _⟩ := hE
  clear hy hB hF hEB hb
  go_wp2_with fail
  refine (Ref.sign _ s3 A3 n3 c3 y3 _ HB3.out).mono ?_
  rintro e w2 ⟨rfl, hb2⟩
  have HV4 := hid (HV3.out.below hb2)
  have HE4 := hid (HE3.out.below hb2)
  have HB4 := hid (HB3.out.below hb2)
  have HEB4 := hid (HEB3.out.below hb2)
  have HF4 := hid (HF3.out.below hb2)
  have HBL4 := hid (below_keep HBL3.out hb2)
  clear hb2 v0 v1 v2 v3 e0 e1
  by_cases hneg : y3 < 0
  ·have f1 : decide (cmpI y3 0 < 0) = true := by rw [decide_eq_true_eq, cmpI_lt hneg]; decide
   rcases HY3.out with ⟨hg, hyz⟩ | h
   rotate_left
   ·exfalso; omega
   have HG := hid hg
   have HYZ := hid hyz
   have HBK : Hid (IsB w2 K s3 A3 n3 c3 y3) := hid (by have := HB4.out; rw [HG.out] at this; exact this)
   have HN := hid hneg
   obtain ⟨v0, v1, v2, v3, _⟩ := HV4.out
   obtain ⟨e0, e1, _, _, _⟩ := HE4.out
   clear hneg hg hyz
   go_wp2_with fail
   refine (Ref.add K s3 s1 A3 A1 n3 c3 n1 c1 y3 P _ HBK.out HEB4.out (by omega)).mono ?_
   rintro e w3 ⟨s5, A5, n5, c5, rfl, hB5, hb3⟩
   have HB5 := hid hB5
   have HV5 := hid (HV4.out.below hb3)
   have HE5 := hid (HE4.out.below hb3)
   have HEB5 := hid (HEB4.out.below hb3)
   have HF5 := hid (HF4.out.below hb3)
   have HBL5 := hid (below_keep HBL4.out hb3)
   clear hB5 hb3 v0 v1 v2 v3 e0 e1 f1
   obtain ⟨v0, v1, v2, v3, _⟩ := HV5.out
   go_wp2_with fail
   go_roundg 0
   case measure => have := HG.out; omega
   case rel =>
    refine ⟨y3 + P, s5, A5, n5, c5, .inr ⟨rfl, ?_⟩, HB5.out.storeV HV5.out _ _ _ _, HV5.out.store _ _ _ _, ?_, HE5.out.far (by omega) _ _ _ _, HEB5.out.storeV HV5.out _ _ _ _, (HBL5.out.setCell (by simp) _).setCell (by simp) _⟩
    ·rw [HM.out]
     have h1 := HYZ.out; have h2 := HEP.out; have h3 := Z0.out; have h4 := HN.out
     omega
    ·exact Fresh.ofVar ((Var.fresh HF5.out).far (by omega) _ _ _ _)
  ·have f1 : decide (cmpI y3 0 < 0) = false := by
    rw [decide_eq_false_iff_not]
    rcases Int.lt_or_eq_of_le (show 0 ≤ y3 by omega) with h | h
    ·rw [cmpI_gt h]; decide
    ·rw [← h]; decide
   have HY4 : Hid (0 ≤ y3 ∧ y3 < 36893488147419103232 ∧ y3 % 18446744073709551616 = m) := hid (by
    rcases HY3.out with h | h
    ·have h1 := HM.out; have h3 := Z1.out; have h2 := h.2; rw [h2] at hneg ⊢; exact ⟨by omega, h3, h1.symm⟩
    ·exact h.2)
   have HB5 : Hid (IsB w2 (K + 1) s3 A3 n3 c3 y3) := hid (HB4.out.mono (by omega))
   clear hneg
   go_wp2_with fail
   clear f1
   go_loopg [] 1 (fun g wr => ∃ (y : Int) (s' : Bool) (A' : Option Addr) (n' c' : Nat), ((g = 1 ∧ 0 ≤ y ∧ y < 36893488147419103232 ∨ g = 0 ∧ 0 ≤ y ∧ y < 18446744073709551616) ∧ y % 18446744073709551616 = m) ∧ IsB wr (K + 2 - g) s' A' n' c' y ∧ Var wr w.heap.size s' A' n' c' ∧ Fresh wr (w.heap.size + 1) ∧ Var wr w1.heap.size s1 A1 n1 c1 ∧ IsB wr K s1 A1 n1 c1 P ∧ Below w.heap.size w wr)
   case atStart => exact ⟨y3, s3, A3, n3, c3, ⟨.inl ⟨rfl, HY4.out.1, HY4.out.2.1⟩, HY4.out.2.2⟩, HB5.out, HV4.out, HF4.out, HE4.out, HEB4.out, HBL4.out⟩
   case round =>
    obtain ⟨y6, s6, A6, n6, c6, hy, hB, hV, hF, hE, hEB, hb⟩ := hrel
    have HY6 := hid hy
    have HB6 := hid hB
    have HV6 := hid hV
    have HF6 := hid hF
    have HE6 := hid hE
    have HEB6 := hid hEB
    have HBL6 := hid hb
    have hsz6 := World.block_lt_of_cell? _ _ hE.1
    obtain ⟨v0, v1, v2, v3, _⟩ := hV
    obtain ⟨e0, e1, _, _, _⟩ := hE
    clear hy hB hF hEB hb
    have HB7 : Hid (IsB _ (K + 2) s6 A6 n6 c6 y6) := hid (HB6.out.mono (by omega))
    go_wp2_with fail
    refine (Ref.cmp (K + 2) s6 s1 A6 A1 n6 c6 n1 c1 y6 P _ HB7.out (HEB6.out.mono (by omega)) (by omega)).mono ?_
    rintro e w7 ⟨rfl, hb7⟩
    have HV8 := hid (HV6.out.below hb7)
    have HE8 := hid (HE6.out.below hb7)
    have HB8 := hid (HB6.out.below hb7)
    have HEB8 := hid (HEB6.out.below hb7)
    have HF8 := hid (HF6.out.below hb7)
    have HBL8 := hid (below_keep HBL6.out hb7)
    have HB9 := hid (HB7.out.below hb7)
    clear hb7 v0 v1 v2 v3 e0 e1
    obtain ⟨v0, v1, v2, v3, _⟩ := HV8.out
    by_cases hge : 18446744073709551616 ≤ y6
    ·have f1 : decide (0 ≤ cmpI y6 P) = true := by
      rw [decide_eq_true_eq, HEP.out]
      rcases Int.lt_or_eq_of_le hge with h | h
      ·rw [cmpI_gt (by omega)]; decide
      ·rw [← h]; decide
     rcases HY6.out.1 with ⟨hg, hy0, hy1⟩ | h
     rotate_left
     ·exfalso; omega
     have HG := hid hg
     have HN := hid (And.intro hge hy1)
     have HBK : Hid (IsB w7 (K + 1) s6 A6 n6 c6 y6) := hid (by have := HB8.out; rw [HG.out] at this; exact this)
     obtain ⟨e0, e1, _, _, _⟩ := HE8.out
     clear hge hg hy0 hy1
     go_wp2_with fail
     refine (Ref.sub (K + 1) s6 s1 A6 A1 n6 c6 n1 c1 y6 P _ HBK.out (HEB8.out.mono (by omega)) (by omega)).mono ?_
     rintro e w8 ⟨s9, A9, n9, c9, rfl, hB9, hb8⟩
     have HBX := hid hB9
     have HVX := hid (HV8.out.below hb8)
     have HEX := hid (HE8.out.below hb8)
     have HEBX := hid (HEB8.out.below hb8)
     have HFX := hid (HF8.out.below hb8)
     have HBLX := hid (below_keep HBL8.out hb8)
     clear hB9 hb8 v0 v1 v2 v3 e0 e1 f1
     obtain ⟨v0, v1, v2, v3, _⟩ := HVX.out
     go_wp2_with fail
     go_roundg 0
     case measure => have := HG.out; omega
     case rel =>
      refine ⟨y6 - P, s9, A9, n9, c9, ⟨.inr ⟨rfl, ?_⟩, ?_⟩, HBX.out.storeV HVX.out _ _ _ _, HVX.out.store _ _ _ _, ?_, HEX.out.far (by omega) _ _ _ _, HEBX.out.storeV HVX.out _ _ _ _, (HBLX.out.setCell (by simp) _).setCell (by simp) _⟩
      ·have h2 := HEP.out; have h4 := HN.out; omega
      ·have h2 := HEP.out; have h4 := HY6.out.2; omega
      ·exact Fresh.ofVar ((Var.fresh HFX.out).far (by omega) _ _ _ _)
    ·have f1 : decide (0 ≤ cmpI y6 P) = false := by
      rw [decide_eq_false_iff_not, HEP.out, cmpI_lt (by omega)]; decide
     have HYM : Hid (y6 = m) := hid (by
      have h4 := HY6.out.2
      have h5 : 0 ≤ y6 := by rcases HY6.out.1 with h | h <;> omega
      omega)
     obtain ⟨t0, t1, t2, t3, _⟩ := HF8.out
     clear hge
     go_wp2_with fail
     refine bodyPost_ret (v := .agg #[.bool s6, .slice A6 n6 c6]) (by simp [results, Tryz.results181, go_sem, t0, t1]) rfl ⟨_, _, _, _, rfl, (show IsB w7 (K + 2) s6 A6 n6 c6 m by rw [← HYM.out]; exact HB9.out).store HF8.out.2.2.2.2 _ _ _ _, (HBL8.out.setCell (by simp) _).setCell (by simp) _⟩
end

end Go.Proofs.YtjndmmcjobbcbaaGreatDoor
