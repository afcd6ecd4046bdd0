/- The contracts of the document's answer for layer 3, continued: a number modulo 2^64. -/
import Derived.Test.YtjklcbbanlaicaaSince
namespace Go.Proofs.Ytjklcbbanlaicaa
open Go.RowKit

set_option maxRecDepth 100000 in
set_option maxHeartbeats 4000000 in
theorem Ref3.round (K : Nat) (hK : K ≤ 1000) (hK2 : 69 ≤ K) (s : Bool) (A : Option Addr) (n c : Nat) (z : Int) (z0 : -18446744073709551616 ≤ z) (z1 : z < 36893488147419103232) (w : World) (hz : IsB w K s A n c z) :
    Calls Try.prog 47 #[.agg #[.bool s, .slice A n c]] w (BAns (K + 2) (z % 18446744073709551616) w) := by
  have H0 := hid hz
  obtain ⟨m, hm⟩ : ∃ m, m = z % 18446744073709551616 := ⟨_, rfl⟩
  rw [← hm]
  have HM := hid hm
  have Z0 := hid z0
  have Z1 := hid z1
  clear hz hm z0 z1
  obtain ⟨P, hP⟩ : ∃ P : Int, P = 2 ^ 64 := ⟨_, rfl⟩
  have EP : P = 18446744073709551616 := by rw [hP]; rfl
  have HP := hid hP
  have HEP := hid EP
  clear hP EP
  go_enter Try.func47, Try.ntmps47
  go_wp2_with fail
  refine (Ref.power 64 (by decide) _).mono ?_
  rintro e w1 ⟨s1, A1, n1, c1, rfl, hB1, hb1⟩
  rw [← HP.out] at hB1
  have H1 := hid (hB1.mono (show 5 + 64 ≤ K from hK2))
  have HV1 := hid (((Var.new w 26 s A n c).alloc (.cells #[.bool false, .slice none 0 0] 26)).below hb1)
  have HF1 := hid (((by have := Fresh.new (w.alloc (.cells #[.bool s, .slice A n c] 26)) 26; simpa using this : Fresh ((w.alloc (.cells #[.bool s, .slice A n c] 26)).alloc (.cells #[.bool false, .slice none 0 0] 26)) (w.heap.size + 1))).below hb1)
  have H01 := hid (((H0.out.alloc _).alloc _).below hb1)
  have HB1 := hid ((((Below.refl _ w).alloc (Nat.le_refl _) (.cells #[.bool s, .slice A n c] 26)).alloc (by simp) (.cells #[.bool false, .slice none 0 0] 26)).trans (hb1.mono (by simp; omega)))
  have hs1 : w.heap.size + 1 < w1.heap.size := World.block_lt_of_cell? w1 _ HF1.out.1
  clear hB1 hb1
  go_wp2_with fail
  go_loopg [] 1 (fun g wr => ∃ (y : Int) (s' : Bool) (A' : Option Addr) (n' c' : Nat), (g = 1 ∧ y = z ∨ g = 0 ∧ 0 ≤ y ∧ y < 36893488147419103232 ∧ y % 18446744073709551616 = m) ∧ IsB wr (K + 1 - g) s' A' n' c' y ∧ Var wr w.heap.size s' A' n' c' ∧ Fresh wr (w.heap.size + 1) ∧ Var wr w1.heap.size s1 A1 n1 c1 ∧ IsB wr K s1 A1 n1 c1 P ∧ Below w.heap.size w wr)
  case atStart =>
    have hba := (Below.refl _ w1).alloc (Nat.le_refl _) (Obj.cells #[.bool s1, .slice A1 n1 c1] 26)
    exact ⟨z, s, A, n, c, .inl ⟨rfl, rfl⟩, H01.out.below hba, HV1.out.below hba, HF1.out.below hba, Var.new _ _ _ _ _ _, H1.out.alloc _, below_keep HB1.out hba⟩
  case round =>
    obtain ⟨y3, s3, A3, n3, c3, hy, hB, hV, hF, hE, hEB, hb⟩ := hrel
    have HY3 := hid hy
    have HB3 := hid hB
    have HV3 := hid hV
    have HF3 := hid hF
    have HE3 := hid hE
    have HEB3 := hid hEB
    have HBL3 := hid hb
    have hsz3 := World.block_lt_of_cell? _ _ hE.1
    obtain ⟨v0, v1, v2, v3, _⟩ := hV
    obtain ⟨e0, e1, _, _, _⟩ := hE
    clear hy hB hF hEB hb
    go_wp2_with fail
    refine (Ref.sign _ s3 A3 n3 c3 y3 _ HB3.out).mono ?_
    rintro e w2 ⟨rfl, hb2⟩
    have HV4 := hid (HV3.out.below hb2)
    have HE4 := hid (HE3.out.below hb2)
    have HB4 := hid (HB3.out.below hb2)
    have HEB4 := hid (HEB3.out.below hb2)
    have HF4 := hid (HF3.out.below hb2)
    have HBL4 := hid (below_keep HBL3.out hb2)
    clear hb2 v0 v1 v2 v3 e0 e1
    by_cases hneg : y3 < 0
    · have f1 : decide (cmpI y3 0 < 0) = true := by rw [decide_eq_true_eq, cmpI_lt hneg]; decide
      rcases HY3.out with ⟨hg, hyz⟩ | h
      rotate_left
      · exfalso; omega
      have HG := hid hg
      have HYZ := hid hyz
      have HBK : Hid (IsB w2 K s3 A3 n3 c3 y3) := hid (by have := HB4.out; rw [HG.out] at this; exact this)
      have HN := hid hneg
      obtain ⟨v0, v1, v2, v3, _⟩ := HV4.out
      obtain ⟨e0, e1, _, _, _⟩ := HE4.out
      clear hneg hg hyz
      go_wp2_with fail
      refine (Ref.add K s3 s1 A3 A1 n3 c3 n1 c1 y3 P _ HBK.out HEB4.out (by omega)).mono ?_
      rintro e w3 ⟨s5, A5, n5, c5, rfl, hB5, hb3⟩
      have HB5 := hid hB5
      have HV5 := hid (HV4.out.below hb3)
      have HE5 := hid (HE4.out.below hb3)
      have HEB5 := hid (HEB4.out.below hb3)
      have HF5 := hid (HF4.out.below hb3)
      have HBL5 := hid (below_keep HBL4.out hb3)
      clear hB5 hb3 v0 v1 v2 v3 e0 e1 f1
      obtain ⟨v0, v1, v2, v3, _⟩ := HV5.out
      go_wp2_with fail
      go_roundg 0
      case measure => have := HG.out; omega
      case rel =>
        refine ⟨y3 + P, s5, A5, n5, c5, .inr ⟨rfl, ?_⟩, HB5.out.storeV HV5.out _ _ _ _, HV5.out.store _ _ _ _, ?_, HE5.out.far (by omega) _ _ _ _, HEB5.out.storeV HV5.out _ _ _ _, (HBL5.out.setCell (by simp) _).setCell (by simp) _⟩
        · rw [HM.out]
          have h1 := HYZ.out; have h2 := HEP.out; have h3 := Z0.out; have h4 := HN.out
          omega
        · exact Fresh.ofVar ((Var.fresh HF5.out).far (by omega) _ _ _ _)
    · have f1 : decide (cmpI y3 0 < 0) = false := by
        rw [decide_eq_false_iff_not]
        rcases Int.lt_or_eq_of_le (show 0 ≤ y3 by omega) with h | h
        · rw [cmpI_gt h]; decide
        · rw [← h]; decide
      have HY4 : Hid (0 ≤ y3 ∧ y3 < 36893488147419103232 ∧ y3 % 18446744073709551616 = m) := hid (by
        rcases HY3.out with h | h
        · have h1 := HM.out; have h3 := Z1.out; have h2 := h.2; rw [h2] at hneg ⊢; exact ⟨by omega, h3, h1.symm⟩
        · exact h.2)
      have HB5 : Hid (IsB w2 (K + 1) s3 A3 n3 c3 y3) := hid (HB4.out.mono (by omega))
      clear hneg
      go_wp2_with fail
      clear f1
      go_loopg [] 1 (fun g wr => ∃ (y : Int) (s' : Bool) (A' : Option Addr) (n' c' : Nat), ((g = 1 ∧ 0 ≤ y ∧ y < 36893488147419103232 ∨ g = 0 ∧ 0 ≤ y ∧ y < 18446744073709551616) ∧ y % 18446744073709551616 = m) ∧ IsB wr (K + 2 - g) s' A' n' c' y ∧ Var wr w.heap.size s' A' n' c' ∧ Fresh wr (w.heap.size + 1) ∧ Var wr w1.heap.size s1 A1 n1 c1 ∧ IsB wr K s1 A1 n1 c1 P ∧ Below w.heap.size w wr)
      case atStart => exact ⟨y3, s3, A3, n3, c3, ⟨.inl ⟨rfl, HY4.out.1, HY4.out.2.1⟩, HY4.out.2.2⟩, HB5.out, HV4.out, HF4.out, HE4.out, HEB4.out, HBL4.out⟩
      case round =>
        obtain ⟨y6, s6, A6, n6, c6, hy, hB, hV, hF, hE, hEB, hb⟩ := hrel
        have HY6 := hid hy
        have HB6 := hid hB
        have HV6 := hid hV
        have HF6 := hid hF
        have HE6 := hid hE
        have HEB6 := hid hEB
        have HBL6 := hid hb
        have hsz6 := World.block_lt_of_cell? _ _ hE.1
        obtain ⟨v0, v1, v2, v3, _⟩ := hV
        obtain ⟨e0, e1, _, _, _⟩ := hE
        clear hy hB hF hEB hb
        have HB7 : Hid (IsB _ (K + 2) s6 A6 n6 c6 y6) := hid (HB6.out.mono (by omega))
        go_wp2_with fail
        refine (Ref.cmp (K + 2) s6 s1 A6 A1 n6 c6 n1 c1 y6 P _ HB7.out (HEB6.out.mono (by omega)) (by omega)).mono ?_
        rintro e w7 ⟨rfl, hb7⟩
        have HV8 := hid (HV6.out.below hb7)
        have HE8 := hid (HE6.out.below hb7)
        have HB8 := hid (HB6.out.below hb7)
        have HEB8 := hid (HEB6.out.below hb7)
        have HF8 := hid (HF6.out.below hb7)
        have HBL8 := hid (below_keep HBL6.out hb7)
        have HB9 := hid (HB7.out.below hb7)
        clear hb7 v0 v1 v2 v3 e0 e1
        obtain ⟨v0, v1, v2, v3, _⟩ := HV8.out
        by_cases hge : 18446744073709551616 ≤ y6
        · have f1 : decide (0 ≤ cmpI y6 P) = true := by
            rw [decide_eq_true_eq, HEP.out]
            rcases Int.lt_or_eq_of_le hge with h | h
            · rw [cmpI_gt (by omega)]; decide
            · rw [← h]; decide
          rcases HY6.out.1 with ⟨hg, hy0, hy1⟩ | h
          rotate_left
          · exfalso; omega
          have HG := hid hg
          have HN := hid (And.intro hge hy1)
          have HBK : Hid (IsB w7 (K + 1) s6 A6 n6 c6 y6) := hid (by have := HB8.out; rw [HG.out] at this; exact this)
          obtain ⟨e0, e1, _, _, _⟩ := HE8.out
          clear hge hg hy0 hy1
          go_wp2_with fail
          refine (Ref.sub (K + 1) s6 s1 A6 A1 n6 c6 n1 c1 y6 P _ HBK.out (HEB8.out.mono (by omega)) (by omega)).mono ?_
          rintro e w8 ⟨s9, A9, n9, c9, rfl, hB9, hb8⟩
          have HBX := hid hB9
          have HVX := hid (HV8.out.below hb8)
          have HEX := hid (HE8.out.below hb8)
          have HEBX := hid (HEB8.out.below hb8)
          have HFX := hid (HF8.out.below hb8)
          have HBLX := hid (below_keep HBL8.out hb8)
          clear hB9 hb8 v0 v1 v2 v3 e0 e1 f1
          obtain ⟨v0, v1, v2, v3, _⟩ := HVX.out
          go_wp2_with fail
          go_roundg 0
          case measure => have := HG.out; omega
          case rel =>
            refine ⟨y6 - P, s9, A9, n9, c9, ⟨.inr ⟨rfl, ?_⟩, ?_⟩, HBX.out.storeV HVX.out _ _ _ _, HVX.out.store _ _ _ _, ?_, HEX.out.far (by omega) _ _ _ _, HEBX.out.storeV HVX.out _ _ _ _, (HBLX.out.setCell (by simp) _).setCell (by simp) _⟩
            · have h2 := HEP.out; have h4 := HN.out; omega
            · have h2 := HEP.out; have h4 := HY6.out.2; omega
            · exact Fresh.ofVar ((Var.fresh HFX.out).far (by omega) _ _ _ _)
        · have f1 : decide (0 ≤ cmpI y6 P) = false := by
            rw [decide_eq_false_iff_not, HEP.out, cmpI_lt (by omega)]; decide
          have HYM : Hid (y6 = m) := hid (by
            have h4 := HY6.out.2
            have h5 : 0 ≤ y6 := by rcases HY6.out.1 with h | h <;> omega
            omega)
          obtain ⟨t0, t1, t2, t3, _⟩ := HF8.out
          clear hge
          go_wp2_with fail
          refine bodyPost_ret (v := .agg #[.bool s6, .slice A6 n6 c6]) (by simp [results, Try.results47, go_sem, t0, t1]) rfl ⟨_, _, _, _, rfl, (show IsB w7 (K + 2) s6 A6 n6 c6 m by rw [← HYM.out]; exact HB9.out).store HF8.out.2.2.2.2 _ _ _ _, (HBL8.out.setCell (by simp) _).setCell (by simp) _⟩

end Go.Proofs.Ytjklcbbanlaicaa
