/- The contracts of the document's answer for layer 1, continued: is it a wide number? -/
import Derived.Test.YtoioeginfhkjjaaGreatDoorLagMovesZ35
import Derived.Deep.CutBlock
import Derived.Deep.DeepCutAuto
namespace Go.Proofs.YtoioeginfhkjjaaGreatDoor
open Go.RowKit

/-- What stands in memory while a number is held against a bound. -/
def PQ (w0 : World) (s : Bool) (A : Option Addr) (n c : Nat) (P : Int) (w : World) : Prop := Below w0.heap.size w0 w ∧ IsB w 1132 s A n c P
theorem PQ.below {w0 : World} {s : Bool} {A : Option Addr} {n c : Nat} {P : Int} {w w' : World} (h : PQ w0 s A n c P w) (hb : Below w.heap.size w w') : PQ w0 s A n c P w' := ⟨below_keep h.1 hb, h.2.below hb⟩

set_option maxRecDepth 100000 in
set_option maxHeartbeats 4000000 in
theorem Ref.is (K : Nat) (hK : K ≤ 1000) (s : Bool) (A : Option Addr) (n c : Nat) (x : Int) (w : World) (hx : IsB w K s A n c x) (v : Bool) (hv : v = true ↔ (-170141183460469231731687303715884105728 ≤ x ∧ x < 170141183460469231731687303715884105728)) :
    Calls Tryz.prog 77 #[.agg #[.bool s, .slice A n c]] w fun e w' => e = .returned (.bool v) ∧ Below w.heap.size w w' := by
  obtain ⟨P, hP⟩ : ∃ P : Int, P = 2 ^ 127 := ⟨_, rfl⟩
  have hP2 : P = 170141183460469231731687303715884105728 := by rw [hP]; rfl
  rw [← hP2] at hv
  have HP := hid hP
  have HX := hid (hx.mono (show K ≤ 1132 by omega))
  have HV := hid hv
  clear hP hP2 hx hv
  go_enter Tryz.func77, Tryz.ntmps77
  go_wp2_with fail
  refine (Ref.power 127 (by decide) _).mono ?_
  rintro e w1 ⟨s1, A1, n1, c1, rfl, hB1, hb1⟩
  rw [← HP.out] at hB1
  have hbw := ((Below.refl _ w).alloc (Nat.le_refl _) (Obj.cells #[.bool s, .slice A n c] 41)).trans (hb1.mono (by simp))
  have hc0 : w1.cell? ⟨w.heap.size, 0, none⟩ = some (.bool s) ∧ w1.cell? ⟨w.heap.size, 1, none⟩ = some (.slice A n c) := keep2 ⟨by simp [go_sem], by simp [go_sem]⟩ hb1
  have HS0 : Hid (((w1.alloc (Obj.cells #[.bool s1, .slice A1 n1 c1] 41)).cell? ⟨w.heap.size, 0, none⟩ = some (.bool s) ∧ (w1.alloc (Obj.cells #[.bool s1, .slice A1 n1 c1] 41)).cell? ⟨w.heap.size, 1, none⟩ = some (.slice A n c) ∧ (w1.alloc (Obj.cells #[.bool s1, .slice A1 n1 c1] 41)).cell? ⟨w1.heap.size, 0, none⟩ = some (.bool s1) ∧ (w1.alloc (Obj.cells #[.bool s1, .slice A1 n1 c1] 41)).cell? ⟨w1.heap.size, 1, none⟩ = some (.slice A1 n1 c1)) ∧ PQ w s1 A1 n1 c1 P (w1.alloc (Obj.cells #[.bool s1, .slice A1 n1 c1] 41))) := hid ⟨⟨cell_alloc _ hc0.1, cell_alloc _ hc0.2, by simp [go_sem], by simp [go_sem]⟩, hbw.alloc hbw.size _, (hB1.mono (by decide)).alloc _⟩
  clear hB1 hb1 hbw hc0
  by_cases h1 : x < P
  · have f1 : decide (cmpI x P < 0) = true := by rw [cmpI_lt h1]; rfl
    by_cases h2 : -P ≤ x
    · have f2 : decide (0 ≤ cmpI x (-P)) = true := by
        rw [decide_eq_true_eq]
        rcases Int.lt_or_le (-P) x with h | h
        · rw [cmpI_gt h]; decide
        · rw [show x = -P by omega, cmpI_eq]; decide
      have hvt : v = true := HV.out.2 ⟨h2, h1⟩
      subst hvt
      clear h1 h2
      go_wp2_with fail
      go_region_held3 (fun w' => (w'.cell? ⟨w.heap.size, 0, none⟩ = some (.bool s) ∧ w'.cell? ⟨w.heap.size, 1, none⟩ = some (.slice A n c) ∧ w'.cell? ⟨w1.heap.size, 0, none⟩ = some (.bool s1) ∧ w'.cell? ⟨w1.heap.size, 1, none⟩ = some (.slice A1 n1 c1)) ∧ PQ w s1 A1 n1 c1 P w')
        (first | exact ⟨HS0.out.1, HS0.out.2.1.drew, HS0.out.2.2.drew⟩ | exact keepP (by assumption) hb2 (fun h => PQ.below h hb2))
        (first
          | (go_at_call 105; refine (Ref.neg 1132 s1 A1 n1 c1 P _ (by assumption : (_ ∧ _ ∧ _ ∧ _) ∧ PQ w s1 A1 n1 c1 P _).2.2 (by decide)).mono ?_; rintro e w3 ⟨s3, A3, n3, c3, rfl, hB3, hb2⟩; have H3 := hid hB3; have HX3 := hid (HX.out.below (below_keep (by assumption : (_ ∧ _ ∧ _ ∧ _) ∧ PQ w s1 A1 n1 c1 P _).2.1 hb2)); clear hB3)
          | (go_at_call 45; refine (Ref.cmp 1132 s s3 A A3 n c n3 c3 x (0 - P) _ HX3.out H3.out (by decide)).mono ?_; rintro e w2 ⟨rfl, hb2⟩)
          | (go_at_call 45; refine (Ref.cmp 1132 s s1 A A1 n c n1 c1 x P _ (HX.out.below (by assumption : (_ ∧ _ ∧ _ ∧ _) ∧ PQ w s1 A1 n1 c1 P _).2.1) (by assumption : (_ ∧ _ ∧ _ ∧ _) ∧ PQ w s1 A1 n1 c1 P _).2.2 (by decide)).mono ?_; rintro e w2 ⟨rfl, hb2⟩))
      obtain ⟨_, hfin⟩ : (_ ∧ _ ∧ _ ∧ _) ∧ PQ w s1 A1 n1 c1 P w2 := by assumption
      have HFIN := hid hfin.1
      clear hfin
      go_wp2
      go_ret
      exact ⟨rfl, HFIN.out⟩
    · have f2 : decide (0 ≤ cmpI x (-P)) = false := by
        rw [decide_eq_false_iff_not, cmpI_lt (by omega)]; decide
      have hvt : v = false := by
        cases v
        · rfl
        · exact absurd (HV.out.1 rfl).1 h2
      subst hvt
      clear h1 h2
      go_wp2_with fail
      go_region_held3 (fun w' => (w'.cell? ⟨w.heap.size, 0, none⟩ = some (.bool s) ∧ w'.cell? ⟨w.heap.size, 1, none⟩ = some (.slice A n c) ∧ w'.cell? ⟨w1.heap.size, 0, none⟩ = some (.bool s1) ∧ w'.cell? ⟨w1.heap.size, 1, none⟩ = some (.slice A1 n1 c1)) ∧ PQ w s1 A1 n1 c1 P w')
        (first | exact ⟨HS0.out.1, HS0.out.2.1.drew, HS0.out.2.2.drew⟩ | exact keepP (by assumption) hb2 (fun h => PQ.below h hb2))
        (first
          | (go_at_call 105; refine (Ref.neg 1132 s1 A1 n1 c1 P _ (by assumption : (_ ∧ _ ∧ _ ∧ _) ∧ PQ w s1 A1 n1 c1 P _).2.2 (by decide)).mono ?_; rintro e w3 ⟨s3, A3, n3, c3, rfl, hB3, hb2⟩; have H3 := hid hB3; have HX3 := hid (HX.out.below (below_keep (by assumption : (_ ∧ _ ∧ _ ∧ _) ∧ PQ w s1 A1 n1 c1 P _).2.1 hb2)); clear hB3)
          | (go_at_call 45; refine (Ref.cmp 1132 s s3 A A3 n c n3 c3 x (0 - P) _ HX3.out H3.out (by decide)).mono ?_; rintro e w2 ⟨rfl, hb2⟩)
          | (go_at_call 45; refine (Ref.cmp 1132 s s1 A A1 n c n1 c1 x P _ (HX.out.below (by assumption : (_ ∧ _ ∧ _ ∧ _) ∧ PQ w s1 A1 n1 c1 P _).2.1) (by assumption : (_ ∧ _ ∧ _ ∧ _) ∧ PQ w s1 A1 n1 c1 P _).2.2 (by decide)).mono ?_; rintro e w2 ⟨rfl, hb2⟩))
      obtain ⟨_, hfin⟩ : (_ ∧ _ ∧ _ ∧ _) ∧ PQ w s1 A1 n1 c1 P w2 := by assumption
      have HFIN := hid hfin.1
      clear hfin
      go_wp2
      go_ret
      exact ⟨rfl, HFIN.out⟩
  · have f1 : decide (cmpI x P < 0) = false := by
      rw [decide_eq_false_iff_not]
      rcases Int.lt_or_le P x with h | h
      · rw [cmpI_gt h]; decide
      · rw [show x = P by omega, cmpI_eq]; decide
    have hvt : v = false := by
      cases v
      · rfl
      · exact absurd (HV.out.1 rfl).2 h1
    subst hvt
    clear h1
    go_wp2_with fail
    refine wp_region_held_drew (S := (fun w' => (w'.cell? ⟨w.heap.size, 0, none⟩ = some (.bool s) ∧ w'.cell? ⟨w.heap.size, 1, none⟩ = some (.slice A n c) ∧ w'.cell? ⟨w1.heap.size, 0, none⟩ = some (.bool s1) ∧ w'.cell? ⟨w1.heap.size, 1, none⟩ = some (.slice A1 n1 c1)) ∧ PQ w s1 A1 n1 c1 P w')) (by kernel_rfl) ⟨HS0.out.1, HS0.out.2.1.drew, HS0.out.2.2.drew⟩ (fun hHeld => ?_)
    refine wpAnyH_take (i := 0) (v := ?_) rfl (by kernel_rfl) (by kernel_rfl) (by kernel_rfl) (fun _ _ _ h => h) (Or.inl ⟨by rfl, ?_⟩) (by assumption) ?_
    rotate_left
    · intro w hSw; (try dsimp only at hSw); go_simp; (try with_reducible rfl)
    try simp only [List.getElem_toArray, List.getElem_cons_zero, List.getElem_cons_succ, Act.put, List.setIfInBounds_toArray, List.set_cons_zero, List.set_cons_succ]
    refine wpAnyH_take (i := 1) (v := ?_) rfl (by kernel_rfl) (by kernel_rfl) (by kernel_rfl) (fun _ _ _ h => h) (Or.inl ⟨by rfl, ?_⟩) (by assumption) ?_
    rotate_left
    · intro w hSw; (try dsimp only at hSw); go_simp; (try with_reducible rfl)
    try simp only [List.getElem_toArray, List.getElem_cons_zero, List.getElem_cons_succ, Act.put, List.setIfInBounds_toArray, List.set_cons_zero, List.set_cons_succ]
    refine wpAnyH_ready (rs := [2]) (by kernel_rfl) (by simp) ?_
    refine AllReadyH.cons rfl (fun K hK => ?_) AllReadyH.nil
    go_simp
    go_at_call 45
    refine (Ref.cmp 1132 s s1 A A1 n c n1 c1 x P _ (HX.out.below (by assumption : (_ ∧ _ ∧ _ ∧ _) ∧ PQ w s1 A1 n1 c1 P _).2.1) (by assumption : (_ ∧ _ ∧ _ ∧ _) ∧ PQ w s1 A1 n1 c1 P _).2.2 (by decide)).mono ?_
    rintro e w2 ⟨rfl, hb2⟩
    refine hK.out _ _ ?_ (fun hHeld => ?_)
    · exact keepP hHeld hb2 (fun h => PQ.below h hb2)
    clear hK K
    try simp only [List.getElem_toArray, List.getElem_cons_zero, List.getElem_cons_succ, Act.put, List.setIfInBounds_toArray, List.set_cons_zero, List.set_cons_succ]
    refine wpAnyH_take (i := 3) (v := ?_) rfl (by kernel_rfl) (by kernel_rfl) (by kernel_rfl) (fun _ _ _ h => h) (Or.inl ⟨by rfl, ?_⟩) (by assumption) ?_
    rotate_left
    · intro w hSw; (try dsimp only at hSw); go_simp; (try with_reducible rfl)
    try simp only [List.getElem_toArray, List.getElem_cons_zero, List.getElem_cons_succ, Act.put, List.setIfInBounds_toArray, List.set_cons_zero, List.set_cons_succ]
    refine wpAnyH_take (i := 4) (v := ?_) rfl (by kernel_rfl) (by kernel_rfl) (by kernel_rfl) (fun _ _ _ h => h) (Or.inl ⟨by rfl, ?_⟩) (by assumption) ?_
    rotate_left
    · intro w hSw; (try dsimp only at hSw); go_simp; (try with_reducible rfl)
    try simp only [List.getElem_toArray, List.getElem_cons_zero, List.getElem_cons_succ, Act.put, List.setIfInBounds_toArray, List.set_cons_zero, List.set_cons_succ]
    refine wpAnyH_take (i := 5) (v := undef) rfl (by kernel_rfl) (by kernel_rfl) (by kernel_rfl) (fun _ _ _ h => h) (Or.inr ⟨by rfl, rfl⟩) (by assumption) ?_
    try simp only [List.getElem_toArray, List.getElem_cons_zero, List.getElem_cons_succ, Act.put, List.setIfInBounds_toArray, List.set_cons_zero, List.set_cons_succ]
    refine wpAnyH_take (i := 6) (v := undef) rfl (by kernel_rfl) (by kernel_rfl) (by kernel_rfl) (fun _ _ _ h => h) (Or.inr ⟨by rfl, rfl⟩) (by assumption) ?_
    try simp only [List.getElem_toArray, List.getElem_cons_zero, List.getElem_cons_succ, Act.put, List.setIfInBounds_toArray, List.set_cons_zero, List.set_cons_succ]
    refine wpAnyH_take (i := 7) (v := undef) rfl (by kernel_rfl) (by kernel_rfl) (by kernel_rfl) (fun _ _ _ h => h) (Or.inr ⟨by rfl, rfl⟩) (by assumption) ?_
    try simp only [List.getElem_toArray, List.getElem_cons_zero, List.getElem_cons_succ, Act.put, List.setIfInBounds_toArray, List.set_cons_zero, List.set_cons_succ]
    refine wpAnyH_take (i := 8) (v := undef) rfl (by kernel_rfl) (by kernel_rfl) (by kernel_rfl) (fun _ _ _ h => h) (Or.inr ⟨by rfl, rfl⟩) (by assumption) ?_
    try simp only [List.getElem_toArray, List.getElem_cons_zero, List.getElem_cons_succ, Act.put, List.setIfInBounds_toArray, List.set_cons_zero, List.set_cons_succ]
    refine wpAnyH_take (i := 9) (v := undef) rfl (by kernel_rfl) (by kernel_rfl) (by kernel_rfl) (fun _ _ _ h => h) (Or.inr ⟨by rfl, rfl⟩) (by assumption) ?_
    try simp only [List.getElem_toArray, List.getElem_cons_zero, List.getElem_cons_succ, Act.put, List.setIfInBounds_toArray, List.set_cons_zero, List.set_cons_succ]
    refine wpAnyH_take (i := 10) (v := ?_) rfl (by kernel_rfl) (by kernel_rfl) (by kernel_rfl) (fun _ _ _ h => h) (Or.inl ⟨by rfl, ?_⟩) (by assumption) ?_
    rotate_left
    · intro w hSw; (try dsimp only at hSw); go_simp; (try with_reducible rfl)
    try simp only [List.getElem_toArray, List.getElem_cons_zero, List.getElem_cons_succ, Act.put, List.setIfInBounds_toArray, List.set_cons_zero, List.set_cons_succ]
    refine wpAnyH_take (i := 11) (v := ?_) rfl (by kernel_rfl) (by kernel_rfl) (by kernel_rfl) (fun _ _ _ h => h) (Or.inl ⟨by rfl, ?_⟩) (by assumption) ?_
    rotate_left
    · intro w hSw; (try dsimp only at hSw); go_simp; (try with_reducible rfl)
    try simp only [List.getElem_toArray, List.getElem_cons_zero, List.getElem_cons_succ, Act.put, List.setIfInBounds_toArray, List.set_cons_zero, List.set_cons_succ]
    refine wpAnyH_done (by kernel_rfl) ?_ _
    obtain ⟨_, hfin⟩ : (_ ∧ _ ∧ _ ∧ _) ∧ PQ w s1 A1 n1 c1 P _ := by assumption
    have HFIN := hid hfin.1
    clear hfin
    go_wp2
    go_ret
    exact ⟨rfl, HFIN.out⟩

end Go.Proofs.YtoioeginfhkjjaaGreatDoor
