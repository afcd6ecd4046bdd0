/- Texts of SpanTells's proof, together. -/
import Derived.Test.YtklaghleghncoaaGreatDoorSpanTellsZ26
import Derived.Test.YtklaghleghncoaaGreatDoorSpanTellsZ10
namespace Go.Proofs.YtklaghleghncoaaGreatDoor
/- The contracts of the document's answer for layer 4: positions, their distances, which is ahead. -/
section
open Go.RowKit
set_option maxHeartbeats 1000000 in
theorem Law4.of (t r v : Int) (w : World) : Calls Tryz.prog 8 #[.agg #[.int .u64 t, .int .u32 r, .int .u32 v]] w (Ans (.agg #[.int .u64 t, .int .u32 r, .int .u32 v]) w) := by
  go_enter Tryz.func8, Tryz.ntmps8
  go_wp2_with fail
  refine bodyPost_ret (v := .agg #[.int .u64 t, .int .u32 r, .int .u32 v]) (by simp [results, Tryz.results8, go_sem]) rfl ⟨rfl, ?_⟩
  exact ((Below.refl _ _).alloc (Nat.le_refl _) _).alloc (by simp) _
set_option maxHeartbeats 1000000 in
theorem Ref4.right (t r v : Int) (w : World) :
    Calls Tryz.prog 106 #[.agg #[.int .u64 t, .int .u32 r, .int .u32 v]] w fun e w' => e = .returned (.bool (decide (1 ≤ v ∧ v ≤ 1048576) && decide (r < v))) ∧ Below w.heap.size w w' := by
  by_cases h1 : 1 ≤ v
  · by_cases h2 : v ≤ 1048576
    · have E := hid (show decide (1 ≤ v ∧ v ≤ 1048576) = true by rw [decide_eq_true_eq]; exact ⟨h1, h2⟩)
      go_enter Tryz.func106, Tryz.ntmps106
      go_wp2
      go_ret
      exact ⟨by first | rfl | (rw [E.out]; rfl), (Below.refl _ _).alloc (Nat.le_refl _) _⟩
    · rw [show (decide (1 ≤ v ∧ v ≤ 1048576) && decide (r < v)) = false by rw [show decide (1 ≤ v ∧ v ≤ 1048576) = false by rw [decide_eq_false_iff_not]; omega]; rfl]
      go_enter Tryz.func106, Tryz.ntmps106
      go_wp2
      go_ret
      exact ⟨by first | rfl | (rw [E.out]; rfl), (Below.refl _ _).alloc (Nat.le_refl _) _⟩
  · rw [show (decide (1 ≤ v ∧ v ≤ 1048576) && decide (r < v)) = false by rw [show decide (1 ≤ v ∧ v ≤ 1048576) = false by rw [decide_eq_false_iff_not]; omega]; rfl]
    go_enter Tryz.func106, Tryz.ntmps106
    go_wp2
    go_ret
    exact ⟨by first | rfl | (rw [E.out]; rfl), (Below.refl _ _).alloc (Nat.le_refl _) _⟩
set_option maxRecDepth 100000 in
set_option maxHeartbeats 4000000 in
theorem Ref4.distance (t r v base : Int) (t0 : 0 ≤ t) (t1 : t ≤ 18446744073709551615) (r0 : 0 ≤ r) (r1 : r ≤ 4294967295) (v0 : 0 ≤ v) (v1 : v ≤ 4294967295) (b0 : 0 ≤ base) (b1 : base ≤ 18446744073709551615) (w : World) :
    Calls Tryz.prog 104 #[.agg #[.int .u64 t, .int .u32 r, .int .u32 v], .int .u64 base] w (BAns 77 (dif t base * v + r) w) := by
  have e1 := up32 r0 r1
  have e2 := up32 v0 v1
  have R0 := hid r0
  have R1 := hid (show r ≤ 18446744073709551615 by omega)
  have V0 := hid v0
  have V1 := hid (show v ≤ 18446744073709551615 by omega)
  have T0 := hid t0
  have T1 := hid t1
  have B0 := hid b0
  have B1 := hid b1
  clear r0 r1 v0 v1 t0 t1 b0 b1
  go_enter Tryz.func104, Tryz.ntmps104
  go_wp2_with fail
  obtain ⟨W0, hW⟩ : ∃ W0, W0 = (w.alloc (Obj.cells #[.int .u64 t, .int .u32 r, .int .u32 v] 31)).alloc (Obj.cells #[.bool false, .slice none 0 0] 41) := ⟨_, rfl⟩
  rw [← hW]
  have HS0 : Hid (Two w w.heap.size [.int .u64 t, .int .u32 r, .int .u32 v] w.heap.size [.int .u64 t, .int .u32 r, .int .u32 v] W0) := hid (by rw [hW]; exact ⟨(Cs.new3 _ _ _ _ _).alloc _, (Cs.new3 _ _ _ _ _).alloc _, ((Below.refl _ _).alloc (Nat.le_refl _) _).alloc (by simp) _⟩)
  have HF0 : Hid (Fresh W0 (w.heap.size + 1)) := hid (by rw [hW]; have := Fresh.new (w.alloc (Obj.cells #[.int .u64 t, .int .u32 r, .int .u32 v] 31)) 41; simpa using this)
  clear hW
  go_region_held3 (fun w' => (w'.cell? ⟨w.heap.size, 0, none⟩ = some (.int .u64 t) ∧ w'.cell? ⟨w.heap.size, 1, none⟩ = some (.int .u32 r) ∧ w'.cell? ⟨w.heap.size, 2, none⟩ = some (.int .u32 v)) ∧ Two w w.heap.size [.int .u64 t, .int .u32 r, .int .u32 v] w.heap.size [.int .u64 t, .int .u32 r, .int .u32 v] w')
    (first | with_reducible exact HS0.out.drew.see | with_reducible exact Two.see ((And.right (by assumption : (_ ∧ _ ∧ _) ∧ Two w w.heap.size [.int .u64 t, .int .u32 r, .int .u32 v] w.heap.size [.int .u64 t, .int .u32 r, .int .u32 v] _)).below hb2) | with_reducible exact Two.see (Two.far (Two.far (And.right (by assumption : (_ ∧ _ ∧ _) ∧ Two w w.heap.size [.int .u64 t, .int .u32 r, .int .u32 v] w.heap.size [.int .u64 t, .int .u32 r, .int .u32 v] _)) (by omega) (by omega) (by omega) _ _) (by omega) (by omega) (by omega) _ _))
    (first
      | (go_at_call_of 29 (Value.int .u64 v); refine (Ref.U v V0.out V1.out _).mono ?_; rintro e w2 ⟨s2, A2, n2, c2, rfl, hB, hb2⟩; have H2 := hid hB; have HF2 := hid (Fresh.below (w := W0.drew) HF0.out hb2); clear hB)
      | (go_at_call 124; refine (Ref3.since t base T0.out T1.out B0.out B1.out _).mono ?_; rintro e w3 ⟨s3, A3, n3, c3, rfl, hB, hb2⟩; have H3 := hid hB; have H2' := hid (H2.out.below hb2); have HF3 := hid (HF2.out.below hb2); clear hB)
      | (go_at_call 113; refine (Ref.mul 5 70 s2 s3 A2 A3 n2 c2 n3 c3 _ _ _ H2'.out H3.out (by decide) (by decide)).mono ?_; rintro e w4 ⟨s4, A4, n4, c4, rfl, hB, hb2⟩; have H4 := hid hB; have HF4 := hid (HF3.out.below hb2); clear hB)
      | (go_at_call_of 29 (Value.int .u64 r); refine (Ref.U r R0.out R1.out _).mono ?_; rintro e w5 ⟨s5, A5, n5, c5, rfl, hB, hb2⟩; have H5 := hid (hB.mono (show 5 ≤ 76 by decide)); have H4' := hid (H4.out.below hb2); have HF5 := hid (HF4.out.below hb2); clear hB)
      | (go_at_call 66; refine (Ref.add 76 s4 s5 A4 A5 n4 c4 n5 c5 _ _ _ H4'.out H5.out (by decide)).mono ?_; rintro e w6 ⟨s', A', n', c', rfl, hB, hb2⟩; have HB := hid (show IsB _ 77 s' A' n' c' (dif t base * v + r) by rw [Int.mul_comm (dif t base) v]; exact hB); have HF6 := hid (HF5.out.below hb2); obtain ⟨t0, t1, t2, t3, _⟩ := HF6.out; clear hB))
  obtain ⟨_, hfin⟩ : (_ ∧ _ ∧ _) ∧ Two w w.heap.size [.int .u64 t, .int .u32 r, .int .u32 v] w.heap.size [.int .u64 t, .int .u32 r, .int .u32 v] ((w6.setCell ⟨w.heap.size + 1, 0, none⟩ (.bool s')).setCell ⟨w.heap.size + 1, 1, none⟩ (.slice A' n' c')) := by assumption
  have HFIN := hid hfin.2.2
  clear hfin
  go_wp2
  exact bodyPost_ret (v := .agg #[.bool s', .slice A' n' c']) (by simp [results, Tryz.results104, go_sem, t0, t1]) rfl ⟨_, _, _, _, rfl, HB.out.store HF6.out.2.2.2.2 _ _ _ _, HFIN.out⟩
end

/- The contracts of the document's answer for layer 4, continued: a word; where a distance leads. -/
section
open Go.RowKit
set_option maxRecDepth 100000 in
set_option maxHeartbeats 4000000 in
theorem Ref4.word (K : Nat) (hK : K ≤ 1000) (s : Bool) (A : Option Addr) (n c : Nat) (z : Int) (z0 : 0 ≤ z) (z1 : z ≤ 18446744073709551615) (w : World) (hz : IsB w K s A n c z) :
    Calls Tryz.prog 121 #[.agg #[.bool s, .slice A n c]] w (Ans (.int .u64 z) w) := by
  obtain ⟨zs, hX, hn, hnc, dX, nX, sX, eX⟩ := hz
  have hs : s = false := by
    cases s
    · rfl
    · have h1 := val_pos dX nX (sX rfl)
      simp at eX
      omega
  subst hs
  have eX2 : z = val zs := by simpa using eX
  have HX := hid hX
  have HD := hid dX
  have HE := hid eX2
  have HLZ := hid hX.1
  have Z1 := hid z1
  clear hX dX nX sX eX eX2 z0 z1
  have wN1 : IntKind.i64.wrap ((n : Int) - 1) = (n : Int) - 1 := by rw [IntKind.wrap_i64]; omega
  go_enter Tryz.func121, Tryz.ntmps121
  go_wp2_with fail
  go_loopg [3, 4] n (fun g a i wr => ∃ (r : Nat) (x y : Int), r ≤ n ∧ g = r ∧ i = .int .i64 x ∧ a = .int .u64 y ∧ Hid (x = (r : Int) - 1 ∧ y = val (zs.drop r)) ∧ Var wr w.heap.size false A n c ∧ Below w.heap.size w wr)
  case atStart =>
    refine ⟨n, _, 0, Nat.le_refl _, rfl, rfl, rfl, hid ⟨rfl, ?_⟩, Var.new _ _ _ _ _ _, (Below.refl _ _).alloc (Nat.le_refl _) _⟩
    rw [List.drop_of_length_le (by have := HLZ.out; omega)]; rfl
  case round =>
    obtain ⟨r, x, y, hr, hg, rfl, rfl, hI, hV, hB⟩ := hrel
    have HG := hid hg
    have HV := hid hV
    have HB := hid hB
    have hsz := hV.lt
    obtain ⟨v0, v1, v2, v3, _⟩ := hV
    clear hg hB
    rcases r with _ | j
    · have hx : x = -1 := by have := hI.out.1; omega
      subst hx
      have hy := hI.out.2
      rw [List.drop_zero, ← HE.out] at hy
      have HY := hid hy
      clear hy hI
      go_wp2_with fail
      go_ret
      exact ⟨by rw [← HY.out]; rfl, HB.out⟩
    · have hx : x = (j : Int) := by have := hI.out.1; omega
      subst hx
      obtain ⟨b2, off2, e2, hc⟩ := (HX.out.below HB.out).2 (by omega)
      subst e2
      have hcell := hc j (by omega)
      have hd := val_drop zs (i := j) (by have := HLZ.out; omega)
      have hle := val_drop_le HD.out j
      have hy0 := val_nonneg (HD.out.drop (j + 1))
      rw [← hI.out.2] at hd hy0
      rw [← HE.out] at hle
      have hdg := HD.out.getD j
      have HYN := hid (show 10000 * y + zs.getD j 0 = val (zs.drop j) by omega)
      generalize zs.getD j 0 = d at *
      have z1 := Z1.out
      have w1' : IntKind.u64.wrap (10000 * y) = 10000 * y := by rw [IntKind.wrap_u64]; omega
      have w2' : IntKind.u64.wrap d = d := by rw [IntKind.wrap_u64]; omega
      have w3' : IntKind.u64.wrap (10000 * y + d) = 10000 * y + d := by rw [IntKind.wrap_u64]; omega
      have hjn : (j : Int) < (n : Int) := by omega
      clear hc hd hle z1 hdg hy0
      go_wp2_with fail
      go_roundg j
      case measure => have := HG.out; omega
      case rel => exact ⟨j, _, _, by omega, rfl, rfl, rfl, hid ⟨rfl, HYN.out⟩, HV.out, HB.out⟩
end

end Go.Proofs.YtklaghleghncoaaGreatDoor
