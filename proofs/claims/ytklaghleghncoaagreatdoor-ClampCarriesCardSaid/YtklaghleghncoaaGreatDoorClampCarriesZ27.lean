/- Texts of ClampCarries's proof, together. -/
import Derived.Test.YtklaghleghncoaaGreatDoorClampCarriesZ26
import Derived.Deep.CutBlock
import Derived.Deep.DeepCutAuto
import Derived.Test.YtklaghleghncoaaGreatDoorClampCarriesZ12
import Derived.Test.YtklaghleghncoaaGreatDoorClampCarriesZ0
import Derived.Test.YtklaghleghncoaaGreatDoorClampCarriesZ7
import Derived.Deep.LoopGhost
import Derived.Deep.RegionWith
namespace Go.Proofs.YtklaghleghncoaaGreatDoor
/- The contracts of the document's answer for layer 1, continued: is it a wide number? -/
section
open Go.RowKit
/-- What stands in memory while a number is held against a bound. -/
def PQ (w0 : World) (s : Bool) (A : Option Addr) (n c : Nat) (P : Int) (w : World) : Prop := Below w0.heap.size w0 w ∧ IsB w 1132 s A n c P
theorem PQ.below {w0 : World} {s : Bool} {A : Option Addr} {n c : Nat} {P : Int} {w w' : World} (h : PQ w0 s A n c P w) (hb : Below w.heap.size w w') : PQ w0 s A n c P w' := ⟨below_keep h.1 hb, h.2.below hb⟩
set_option maxRecDepth 100000 in
set_option maxHeartbeats 4000000 in
theorem Ref.is (K : Nat) (hK : K ≤ 1000) (s : Bool) (A : Option Addr) (n c : Nat) (x : Int) (w : World) (hx : IsB w K s A n c x) (v : Bool) (hv : v = true ↔ (-170141183460469231731687303715884105728 ≤ x ∧ x < 170141183460469231731687303715884105728)) :
    Calls Tryz.prog 63 #[.agg #[.bool s, .slice A n c]] w fun e w' => e = .returned (.bool v) ∧ Below w.heap.size w w' := by
  obtain ⟨P, hP⟩ : ∃ P : Int, P = 2 ^ 127 := ⟨_, rfl⟩
  have hP2 : P = 170141183460469231731687303715884105728 := by rw [hP]; rfl
  rw [← hP2] at hv
  have HP := hid hP
  have HX := hid (hx.mono (show K ≤ 1132 by omega))
  have HV := hid hv
  clear hP hP2 hx hv
  go_enter Tryz.func63, Tryz.ntmps63
  go_wp2_with fail
  refine (Ref.power 127 (by decide) _).mono ?_
  rintro e w1 ⟨s1, A1, n1, c1, rfl, hB1, hb1⟩
  rw [← HP.out] at hB1
  have hbw := ((Below.refl _ w).alloc (Nat.le_refl _) (Obj.cells #[.bool s, .slice A n c] 41)).trans (hb1.mono (by simp))
  have hc0 : w1.cell? ⟨w.heap.size, 0, none⟩ = some (.bool s) ∧ w1.cell? ⟨w.heap.size, 1, none⟩ = some (.slice A n c) := keep2 ⟨by simp [go_sem], by simp [go_sem]⟩ hb1
  have HS0 : Hid (((w1.alloc (Obj.cells #[.bool s1, .slice A1 n1 c1] 41)).cell? ⟨w.heap.size, 0, none⟩ = some (.bool s) ∧ (w1.alloc (Obj.cells #[.bool s1, .slice A1 n1 c1] 41)).cell? ⟨w.heap.size, 1, none⟩ = some (.slice A n c) ∧ (w1.alloc (Obj.cells #[.bool s1, .slice A1 n1 c1] 41)).cell? ⟨w1.heap.size, 0, none⟩ = some (.bool s1) ∧ (w1.alloc (Obj.cells #[.bool s1, .slice A1 n1 c1] 41)).cell? ⟨w1.heap.size, 1, none⟩ = some (.slice A1 n1 c1)) ∧ PQ w s1 A1 n1 c1 P (w1.alloc (Obj.cells #[.bool s1, .slice A1 n1 c1] 41))) := hid ⟨⟨cell_alloc _ hc0.1, cell_alloc _ hc0.2, by simp [go_sem], by simp [go_sem]⟩, hbw.alloc hbw.size _, (hB1.mono (by decide)).alloc _⟩
  clear hB1 hb1 hbw hc0
  by_cases h1 : x < P
  · have f1 : decide (cmpI x P < 0) = true := by rw [cmpI_lt h1]; rfl
    by_cases h2 : -P ≤ x
    · have f2 : decide (0 ≤ cmpI x (-P)) = true := by
        rw [decide_eq_true_eq]
        rcases Int.lt_or_le (-P) x with h | h
        · rw [cmpI_gt h]; decide
        · rw [show x = -P by omega, cmpI_eq]; decide
      have hvt : v = true := HV.out.2 ⟨h2, h1⟩
      subst hvt
      clear h1 h2
      go_wp2_with fail
      go_region_held3 (fun w' => (w'.cell? ⟨w.heap.size, 0, none⟩ = some (.bool s) ∧ w'.cell? ⟨w.heap.size, 1, none⟩ = some (.slice A n c) ∧ w'.cell? ⟨w1.heap.size, 0, none⟩ = some (.bool s1) ∧ w'.cell? ⟨w1.heap.size, 1, none⟩ = some (.slice A1 n1 c1)) ∧ PQ w s1 A1 n1 c1 P w')
        (first | exact ⟨HS0.out.1, HS0.out.2.1.drew, HS0.out.2.2.drew⟩ | exact keepP (by assumption) hb2 (fun h => PQ.below h hb2))
        (first
          | (go_at_call 62; refine (Ref.neg 1132 s1 A1 n1 c1 P _ (by assumption : (_ ∧ _ ∧ _ ∧ _) ∧ PQ w s1 A1 n1 c1 P _).2.2 (by decide)).mono ?_; rintro e w3 ⟨s3, A3, n3, c3, rfl, hB3, hb2⟩; have H3 := hid hB3; have HX3 := hid (HX.out.below (below_keep (by assumption : (_ ∧ _ ∧ _ ∧ _) ∧ PQ w s1 A1 n1 c1 P _).2.1 hb2)); clear hB3)
          | (go_at_call 28; refine (Ref.cmp 1132 s s3 A A3 n c n3 c3 x (0 - P) _ HX3.out H3.out (by decide)).mono ?_; rintro e w2 ⟨rfl, hb2⟩)
          | (go_at_call 28; refine (Ref.cmp 1132 s s1 A A1 n c n1 c1 x P _ (HX.out.below (by assumption : (_ ∧ _ ∧ _ ∧ _) ∧ PQ w s1 A1 n1 c1 P _).2.1) (by assumption : (_ ∧ _ ∧ _ ∧ _) ∧ PQ w s1 A1 n1 c1 P _).2.2 (by decide)).mono ?_; rintro e w2 ⟨rfl, hb2⟩))
      obtain ⟨_, hfin⟩ : (_ ∧ _ ∧ _ ∧ _) ∧ PQ w s1 A1 n1 c1 P w2 := by assumption
      have HFIN := hid hfin.1
      clear hfin
      go_wp2
      go_ret
      exact ⟨rfl, HFIN.out⟩
    · have f2 : decide (0 ≤ cmpI x (-P)) = false := by
        rw [decide_eq_false_iff_not, cmpI_lt (by omega)]; decide
      have hvt : v = false := by
        cases v
        · rfl
        · exact absurd (HV.out.1 rfl).1 h2
      subst hvt
      clear h1 h2
      go_wp2_with fail
      go_region_held3 (fun w' => (w'.cell? ⟨w.heap.size, 0, none⟩ = some (.bool s) ∧ w'.cell? ⟨w.heap.size, 1, none⟩ = some (.slice A n c) ∧ w'.cell? ⟨w1.heap.size, 0, none⟩ = some (.bool s1) ∧ w'.cell? ⟨w1.heap.size, 1, none⟩ = some (.slice A1 n1 c1)) ∧ PQ w s1 A1 n1 c1 P w')
        (first | exact ⟨HS0.out.1, HS0.out.2.1.drew, HS0.out.2.2.drew⟩ | exact keepP (by assumption) hb2 (fun h => PQ.below h hb2))
        (first
          | (go_at_call 62; refine (Ref.neg 1132 s1 A1 n1 c1 P _ (by assumption : (_ ∧ _ ∧ _ ∧ _) ∧ PQ w s1 A1 n1 c1 P _).2.2 (by decide)).mono ?_; rintro e w3 ⟨s3, A3, n3, c3, rfl, hB3, hb2⟩; have H3 := hid hB3; have HX3 := hid (HX.out.below (below_keep (by assumption : (_ ∧ _ ∧ _ ∧ _) ∧ PQ w s1 A1 n1 c1 P _).2.1 hb2)); clear hB3)
          | (go_at_call 28; refine (Ref.cmp 1132 s s3 A A3 n c n3 c3 x (0 - P) _ HX3.out H3.out (by decide)).mono ?_; rintro e w2 ⟨rfl, hb2⟩)
          | (go_at_call 28; refine (Ref.cmp 1132 s s1 A A1 n c n1 c1 x P _ (HX.out.below (by assumption : (_ ∧ _ ∧ _ ∧ _) ∧ PQ w s1 A1 n1 c1 P _).2.1) (by assumption : (_ ∧ _ ∧ _ ∧ _) ∧ PQ w s1 A1 n1 c1 P _).2.2 (by decide)).mono ?_; rintro e w2 ⟨rfl, hb2⟩))
      obtain ⟨_, hfin⟩ : (_ ∧ _ ∧ _ ∧ _) ∧ PQ w s1 A1 n1 c1 P w2 := by assumption
      have HFIN := hid hfin.1
      clear hfin
      go_wp2
      go_ret
      exact ⟨rfl, HFIN.out⟩
  · have f1 : decide (cmpI x P < 0) = false := by
      rw [decide_eq_false_iff_not]
      rcases Int.lt_or_le P x with h | h
      · rw [cmpI_gt h]; decide
      · rw [show x = P by omega, cmpI_eq]; decide
    have hvt : v = false := by
      cases v
      · rfl
      · exact absurd (HV.out.1 rfl).2 h1
    subst hvt
    clear h1
    go_wp2_with fail
    refine wp_region_held_drew (S := (fun w' => (w'.cell? ⟨w.heap.size, 0, none⟩ = some (.bool s) ∧ w'.cell? ⟨w.heap.size, 1, none⟩ = some (.slice A n c) ∧ w'.cell? ⟨w1.heap.size, 0, none⟩ = some (.bool s1) ∧ w'.cell? ⟨w1.heap.size, 1, none⟩ = some (.slice A1 n1 c1)) ∧ PQ w s1 A1 n1 c1 P w')) (by kernel_rfl) ⟨HS0.out.1, HS0.out.2.1.drew, HS0.out.2.2.drew⟩ (fun hHeld => ?_)
    refine wpAnyH_take (i := 0) (v := ?_) rfl (by kernel_rfl) (by kernel_rfl) (by kernel_rfl) (fun _ _ _ h => h) (Or.inl ⟨by rfl, ?_⟩) (by assumption) ?_
    rotate_left
    · intro w hSw; (try dsimp only at hSw); go_simp; (try with_reducible rfl)
    try simp only [List.getElem_toArray, List.getElem_cons_zero, List.getElem_cons_succ, Act.put, List.setIfInBounds_toArray, List.set_cons_zero, List.set_cons_succ]
    refine wpAnyH_take (i := 1) (v := ?_) rfl (by kernel_rfl) (by kernel_rfl) (by kernel_rfl) (fun _ _ _ h => h) (Or.inl ⟨by rfl, ?_⟩) (by assumption) ?_
    rotate_left
    · intro w hSw; (try dsimp only at hSw); go_simp; (try with_reducible rfl)
    try simp only [List.getElem_toArray, List.getElem_cons_zero, List.getElem_cons_succ, Act.put, List.setIfInBounds_toArray, List.set_cons_zero, List.set_cons_succ]
    refine wpAnyH_ready (rs := [2]) (by kernel_rfl) (by simp) ?_
    refine AllReadyH.cons rfl (fun K hK => ?_) AllReadyH.nil
    go_simp
    go_at_call 28
    refine (Ref.cmp 1132 s s1 A A1 n c n1 c1 x P _ (HX.out.below (by assumption : (_ ∧ _ ∧ _ ∧ _) ∧ PQ w s1 A1 n1 c1 P _).2.1) (by assumption : (_ ∧ _ ∧ _ ∧ _) ∧ PQ w s1 A1 n1 c1 P _).2.2 (by decide)).mono ?_
    rintro e w2 ⟨rfl, hb2⟩
    refine hK.out _ _ ?_ (fun hHeld => ?_)
    · exact keepP hHeld hb2 (fun h => PQ.below h hb2)
    clear hK K
    try simp only [List.getElem_toArray, List.getElem_cons_zero, List.getElem_cons_succ, Act.put, List.setIfInBounds_toArray, List.set_cons_zero, List.set_cons_succ]
    refine wpAnyH_take (i := 3) (v := ?_) rfl (by kernel_rfl) (by kernel_rfl) (by kernel_rfl) (fun _ _ _ h => h) (Or.inl ⟨by rfl, ?_⟩) (by assumption) ?_
    rotate_left
    · intro w hSw; (try dsimp only at hSw); go_simp; (try with_reducible rfl)
    try simp only [List.getElem_toArray, List.getElem_cons_zero, List.getElem_cons_succ, Act.put, List.setIfInBounds_toArray, List.set_cons_zero, List.set_cons_succ]
    refine wpAnyH_take (i := 4) (v := ?_) rfl (by kernel_rfl) (by kernel_rfl) (by kernel_rfl) (fun _ _ _ h => h) (Or.inl ⟨by rfl, ?_⟩) (by assumption) ?_
    rotate_left
    · intro w hSw; (try dsimp only at hSw); go_simp; (try with_reducible rfl)
    try simp only [List.getElem_toArray, List.getElem_cons_zero, List.getElem_cons_succ, Act.put, List.setIfInBounds_toArray, List.set_cons_zero, List.set_cons_succ]
    refine wpAnyH_take (i := 5) (v := undef) rfl (by kernel_rfl) (by kernel_rfl) (by kernel_rfl) (fun _ _ _ h => h) (Or.inr ⟨by rfl, rfl⟩) (by assumption) ?_
    try simp only [List.getElem_toArray, List.getElem_cons_zero, List.getElem_cons_succ, Act.put, List.setIfInBounds_toArray, List.set_cons_zero, List.set_cons_succ]
    refine wpAnyH_take (i := 6) (v := undef) rfl (by kernel_rfl) (by kernel_rfl) (by kernel_rfl) (fun _ _ _ h => h) (Or.inr ⟨by rfl, rfl⟩) (by assumption) ?_
    try simp only [List.getElem_toArray, List.getElem_cons_zero, List.getElem_cons_succ, Act.put, List.setIfInBounds_toArray, List.set_cons_zero, List.set_cons_succ]
    refine wpAnyH_take (i := 7) (v := undef) rfl (by kernel_rfl) (by kernel_rfl) (by kernel_rfl) (fun _ _ _ h => h) (Or.inr ⟨by rfl, rfl⟩) (by assumption) ?_
    try simp only [List.getElem_toArray, List.getElem_cons_zero, List.getElem_cons_succ, Act.put, List.setIfInBounds_toArray, List.set_cons_zero, List.set_cons_succ]
    refine wpAnyH_take (i := 8) (v := undef) rfl (by kernel_rfl) (by kernel_rfl) (by kernel_rfl) (fun _ _ _ h => h) (Or.inr ⟨by rfl, rfl⟩) (by assumption) ?_
    try simp only [List.getElem_toArray, List.getElem_cons_zero, List.getElem_cons_succ, Act.put, List.setIfInBounds_toArray, List.set_cons_zero, List.set_cons_succ]
    refine wpAnyH_take (i := 9) (v := undef) rfl (by kernel_rfl) (by kernel_rfl) (by kernel_rfl) (fun _ _ _ h => h) (Or.inr ⟨by rfl, rfl⟩) (by assumption) ?_
    try simp only [List.getElem_toArray, List.getElem_cons_zero, List.getElem_cons_succ, Act.put, List.setIfInBounds_toArray, List.set_cons_zero, List.set_cons_succ]
    refine wpAnyH_take (i := 10) (v := ?_) rfl (by kernel_rfl) (by kernel_rfl) (by kernel_rfl) (fun _ _ _ h => h) (Or.inl ⟨by rfl, ?_⟩) (by assumption) ?_
    rotate_left
    · intro w hSw; (try dsimp only at hSw); go_simp; (try with_reducible rfl)
    try simp only [List.getElem_toArray, List.getElem_cons_zero, List.getElem_cons_succ, Act.put, List.setIfInBounds_toArray, List.set_cons_zero, List.set_cons_succ]
    refine wpAnyH_take (i := 11) (v := ?_) rfl (by kernel_rfl) (by kernel_rfl) (by kernel_rfl) (fun _ _ _ h => h) (Or.inl ⟨by rfl, ?_⟩) (by assumption) ?_
    rotate_left
    · intro w hSw; (try dsimp only at hSw); go_simp; (try with_reducible rfl)
    try simp only [List.getElem_toArray, List.getElem_cons_zero, List.getElem_cons_succ, Act.put, List.setIfInBounds_toArray, List.set_cons_zero, List.set_cons_succ]
    refine wpAnyH_done (by kernel_rfl) ?_ _
    obtain ⟨_, hfin⟩ : (_ ∧ _ ∧ _ ∧ _) ∧ PQ w s1 A1 n1 c1 P _ := by assumption
    have HFIN := hid hfin.1
    clear hfin
    go_wp2
    go_ret
    exact ⟨rfl, HFIN.out⟩
end

/- What the statements of layer 1 ask of a wide number and one of the document's: the same, or told as it is. -/
section
open Go.RowKit
set_option maxHeartbeats 1000000 in
theorem Law.of (h l n : Int) (hw : IsW h l n) (w : World) :
    Calls Tryz.prog 16 #[.agg #[.int .i64 h, .int .u64 l]] w (BAns 18 n w) := by
  obtain ⟨h0, h1, l0, l1, rfl⟩ := hw
  go_enter Tryz.func16, Tryz.ntmps16
  go_wp2_with fail
  refine (Ref.wide h l h0 h1 l0 l1 _).mono ?_
  rintro e w1 ⟨s', A', n', c', rfl, hB, hb⟩
  have hF := (Fresh.new (w.alloc (.cells #[.int .i64 h, .int .u64 l] 34)) 41).below hb
  simp only [World.size_alloc] at hF
  have HB := hid hB
  have HF := hid hF
  obtain ⟨t0, t1, t2, t3, _⟩ := hF
  clear hB
  go_wp2
  refine bodyPost_ret (v := .agg #[.bool s', .slice A' n' c']) (by simp [results, Tryz.results16, go_sem, t0, t1]) rfl ⟨_, _, _, _, rfl, HB.out.store HF.out.2.2.2.2 _ _ _ _, ?_⟩
  exact (((((Below.refl _ _).alloc (Nat.le_refl _) _).alloc (by simp) _).trans (hb.mono (by simp; omega))).setCell (by simp) _).setCell (by simp) _
/-- What stands in memory while two are held together. -/
def SQ (w0 : World) (K : Nat) (s : Bool) (A : Option Addr) (n c : Nat) (P : Int) (w : World) : Prop := Below w0.heap.size w0 w ∧ IsB w K s A n c P
theorem SQ.below {w0 : World} {K : Nat} {s : Bool} {A : Option Addr} {n c : Nat} {P : Int} {w w' : World} (h : SQ w0 K s A n c P w) (hb : Below w.heap.size w w') : SQ w0 K s A n c P w' := ⟨below_keep h.1 hb, h.2.below hb⟩
set_option maxRecDepth 100000 in
set_option maxHeartbeats 4000000 in
theorem Law.same (K : Nat) (hK : K ≤ 1000) (h l a : Int) (hw : IsW h l a) (s : Bool) (A : Option Addr) (n c : Nat) (x : Int) (w : World) (hx : IsB w K s A n c x) (v : Bool) (hv : v = true ↔ a = x) :
    Calls Tryz.prog 17 #[.agg #[.int .i64 h, .int .u64 l], .agg #[.bool s, .slice A n c]] w fun e w' => e = .returned (.bool v) ∧ Below w.heap.size w w' := by
  have HX := hid (hx.mono (show K ≤ 1132 by omega))
  have f : (cmpI a x == 0) = v := by
    cases v
    · rw [beq_eq_false_iff_ne]; intro e; exact absurd (hv.2 ((cmpI_zero a x).1 e)) (by decide)
    · rw [beq_iff_eq, cmpI_zero]; exact hv.1 rfl
  clear hx hv
  go_enter Tryz.func17, Tryz.ntmps17
  go_wp2_with fail
  obtain ⟨W0, hW⟩ : ∃ W0, W0 = (w.alloc (Obj.cells #[.int .i64 h, .int .u64 l] 34)).alloc (Obj.cells #[Value.bool s, Value.slice A n c] 41) := ⟨_, rfl⟩
  rw [← hW]
  have HS0 : Hid ((W0.cell? ⟨w.heap.size, 0, none⟩ = some (.int .i64 h) ∧ W0.cell? ⟨w.heap.size, 1, none⟩ = some (.int .u64 l) ∧ W0.cell? ⟨w.heap.size + 1, 0, none⟩ = some (.bool s) ∧ W0.cell? ⟨w.heap.size + 1, 1, none⟩ = some (.slice A n c)) ∧ SQ w 1132 s A n c x W0) :=
    hid (by rw [hW]; exact ⟨⟨by simp [go_sem], by simp [go_sem], by simp [go_sem], by simp [go_sem]⟩, ((Below.refl _ _).alloc (Nat.le_refl _) _).alloc (by simp) _, (HX.out.alloc _).alloc _⟩)
  clear hW
  go_region_held3 (fun w' => (w'.cell? ⟨w.heap.size, 0, none⟩ = some (.int .i64 h) ∧ w'.cell? ⟨w.heap.size, 1, none⟩ = some (.int .u64 l) ∧ w'.cell? ⟨w.heap.size + 1, 0, none⟩ = some (.bool s) ∧ w'.cell? ⟨w.heap.size + 1, 1, none⟩ = some (.slice A n c)) ∧ SQ w 1132 s A n c x w')
    (first | exact ⟨HS0.out.1, HS0.out.2.1.drew, HS0.out.2.2.drew⟩ | exact keepP (by assumption) hb2 (fun h => SQ.below h hb2))
    (first
      | (go_at_call 16; refine (Law.of h l a hw _).mono ?_; rintro e w2 ⟨s2, A2, n2, c2, rfl, hB2, hb2⟩; have H2 := hid (hB2.mono (show 18 ≤ 1132 by decide)); have HX2 := hid (IsB.below (w := W0.drew) HS0.out.2.2 hb2); clear hB2)
      | (go_at_call 28; refine (Ref.cmp 1132 s2 s A2 A n2 c2 n c a x _ H2.out HX2.out (by decide)).mono ?_; rintro e w3 ⟨rfl, hb2⟩))
  obtain ⟨_, hfin⟩ : (_ ∧ _ ∧ _ ∧ _) ∧ SQ w 1132 s A n c x w3 := by assumption
  have HFIN := hid hfin.1
  clear hfin
  go_wp2
  go_ret
  exact ⟨rfl, HFIN.out⟩
end

/- The contracts of the document's answer for layer 1, continued: is it a small number? a number from 0 on, in a word. -/
section
open Go.RowKit
set_option maxRecDepth 100000 in
set_option maxHeartbeats 4000000 in
theorem Ref.small (K : Nat) (hK : K ≤ 1000) (s : Bool) (A : Option Addr) (n c : Nat) (x : Int) (w : World) (hx : IsB w K s A n c x) (v : Bool) (hv : v = true ↔ (-9223372036854775808 ≤ x ∧ x < 9223372036854775808)) :
    Calls Tryz.prog 120 #[.agg #[.bool s, .slice A n c]] w fun e w' => e = .returned (.bool v) ∧ Below w.heap.size w w' := by
  obtain ⟨P, hP⟩ : ∃ P : Int, P = 2 ^ 63 := ⟨_, rfl⟩
  have hP2 : P = 9223372036854775808 := by rw [hP]; rfl
  rw [← hP2] at hv
  have HP := hid hP
  have HX := hid (hx.mono (show K ≤ 1132 by omega))
  have HV := hid hv
  clear hP hP2 hx hv
  go_enter Tryz.func120, Tryz.ntmps120
  go_wp2_with fail
  refine (Ref.power 63 (by decide) _).mono ?_
  rintro e w1 ⟨s1, A1, n1, c1, rfl, hB1, hb1⟩
  rw [← HP.out] at hB1
  have hbw := ((Below.refl _ w).alloc (Nat.le_refl _) (Obj.cells #[.bool s, .slice A n c] 41)).trans (hb1.mono (by simp))
  have hc0 : w1.cell? ⟨w.heap.size, 0, none⟩ = some (.bool s) ∧ w1.cell? ⟨w.heap.size, 1, none⟩ = some (.slice A n c) := keep2 ⟨by simp [go_sem], by simp [go_sem]⟩ hb1
  have HS0 : Hid (((w1.alloc (Obj.cells #[.bool s1, .slice A1 n1 c1] 41)).cell? ⟨w.heap.size, 0, none⟩ = some (.bool s) ∧ (w1.alloc (Obj.cells #[.bool s1, .slice A1 n1 c1] 41)).cell? ⟨w.heap.size, 1, none⟩ = some (.slice A n c) ∧ (w1.alloc (Obj.cells #[.bool s1, .slice A1 n1 c1] 41)).cell? ⟨w1.heap.size, 0, none⟩ = some (.bool s1) ∧ (w1.alloc (Obj.cells #[.bool s1, .slice A1 n1 c1] 41)).cell? ⟨w1.heap.size, 1, none⟩ = some (.slice A1 n1 c1)) ∧ PQ w s1 A1 n1 c1 P (w1.alloc (Obj.cells #[.bool s1, .slice A1 n1 c1] 41))) := hid ⟨⟨cell_alloc _ hc0.1, cell_alloc _ hc0.2, by simp [go_sem], by simp [go_sem]⟩, hbw.alloc hbw.size _, (hB1.mono (by decide)).alloc _⟩
  clear hB1 hb1 hbw hc0
  by_cases h1 : x < P
  · have f1 : decide (cmpI x P < 0) = true := by rw [cmpI_lt h1]; rfl
    by_cases h2 : -P ≤ x
    · have f2 : decide (0 ≤ cmpI x (-P)) = true := by
        rw [decide_eq_true_eq]
        rcases Int.lt_or_le (-P) x with h | h
        · rw [cmpI_gt h]; decide
        · rw [show x = -P by omega, cmpI_eq]; decide
      have hvt : v = true := HV.out.2 ⟨h2, h1⟩
      subst hvt
      clear h1 h2
      go_wp2_with fail
      go_region_held3 (fun w' => (w'.cell? ⟨w.heap.size, 0, none⟩ = some (.bool s) ∧ w'.cell? ⟨w.heap.size, 1, none⟩ = some (.slice A n c) ∧ w'.cell? ⟨w1.heap.size, 0, none⟩ = some (.bool s1) ∧ w'.cell? ⟨w1.heap.size, 1, none⟩ = some (.slice A1 n1 c1)) ∧ PQ w s1 A1 n1 c1 P w')
        (first | exact ⟨HS0.out.1, HS0.out.2.1.drew, HS0.out.2.2.drew⟩ | exact keepP (by assumption) hb2 (fun h => PQ.below h hb2))
        (first
          | (go_at_call 62; refine (Ref.neg 1132 s1 A1 n1 c1 P _ (by assumption : (_ ∧ _ ∧ _ ∧ _) ∧ PQ w s1 A1 n1 c1 P _).2.2 (by decide)).mono ?_; rintro e w3 ⟨s3, A3, n3, c3, rfl, hB3, hb2⟩; have H3 := hid hB3; have HX3 := hid (HX.out.below (below_keep (by assumption : (_ ∧ _ ∧ _ ∧ _) ∧ PQ w s1 A1 n1 c1 P _).2.1 hb2)); clear hB3)
          | (go_at_call 28; refine (Ref.cmp 1132 s s3 A A3 n c n3 c3 x (0 - P) _ HX3.out H3.out (by decide)).mono ?_; rintro e w2 ⟨rfl, hb2⟩)
          | (go_at_call 28; refine (Ref.cmp 1132 s s1 A A1 n c n1 c1 x P _ (HX.out.below (by assumption : (_ ∧ _ ∧ _ ∧ _) ∧ PQ w s1 A1 n1 c1 P _).2.1) (by assumption : (_ ∧ _ ∧ _ ∧ _) ∧ PQ w s1 A1 n1 c1 P _).2.2 (by decide)).mono ?_; rintro e w2 ⟨rfl, hb2⟩))
      obtain ⟨_, hfin⟩ : (_ ∧ _ ∧ _ ∧ _) ∧ PQ w s1 A1 n1 c1 P w2 := by assumption
      have HFIN := hid hfin.1
      clear hfin
      go_wp2
      go_ret
      exact ⟨rfl, HFIN.out⟩
    · have f2 : decide (0 ≤ cmpI x (-P)) = false := by
        rw [decide_eq_false_iff_not, cmpI_lt (by omega)]; decide
      have hvt : v = false := by
        cases v
        · rfl
        · exact absurd (HV.out.1 rfl).1 h2
      subst hvt
      clear h1 h2
      go_wp2_with fail
      go_region_held3 (fun w' => (w'.cell? ⟨w.heap.size, 0, none⟩ = some (.bool s) ∧ w'.cell? ⟨w.heap.size, 1, none⟩ = some (.slice A n c) ∧ w'.cell? ⟨w1.heap.size, 0, none⟩ = some (.bool s1) ∧ w'.cell? ⟨w1.heap.size, 1, none⟩ = some (.slice A1 n1 c1)) ∧ PQ w s1 A1 n1 c1 P w')
        (first | exact ⟨HS0.out.1, HS0.out.2.1.drew, HS0.out.2.2.drew⟩ | exact keepP (by assumption) hb2 (fun h => PQ.below h hb2))
        (first
          | (go_at_call 62; refine (Ref.neg 1132 s1 A1 n1 c1 P _ (by assumption : (_ ∧ _ ∧ _ ∧ _) ∧ PQ w s1 A1 n1 c1 P _).2.2 (by decide)).mono ?_; rintro e w3 ⟨s3, A3, n3, c3, rfl, hB3, hb2⟩; have H3 := hid hB3; have HX3 := hid (HX.out.below (below_keep (by assumption : (_ ∧ _ ∧ _ ∧ _) ∧ PQ w s1 A1 n1 c1 P _).2.1 hb2)); clear hB3)
          | (go_at_call 28; refine (Ref.cmp 1132 s s3 A A3 n c n3 c3 x (0 - P) _ HX3.out H3.out (by decide)).mono ?_; rintro e w2 ⟨rfl, hb2⟩)
          | (go_at_call 28; refine (Ref.cmp 1132 s s1 A A1 n c n1 c1 x P _ (HX.out.below (by assumption : (_ ∧ _ ∧ _ ∧ _) ∧ PQ w s1 A1 n1 c1 P _).2.1) (by assumption : (_ ∧ _ ∧ _ ∧ _) ∧ PQ w s1 A1 n1 c1 P _).2.2 (by decide)).mono ?_; rintro e w2 ⟨rfl, hb2⟩))
      obtain ⟨_, hfin⟩ : (_ ∧ _ ∧ _ ∧ _) ∧ PQ w s1 A1 n1 c1 P w2 := by assumption
      have HFIN := hid hfin.1
      clear hfin
      go_wp2
      go_ret
      exact ⟨rfl, HFIN.out⟩
  · have f1 : decide (cmpI x P < 0) = false := by
      rw [decide_eq_false_iff_not]
      rcases Int.lt_or_le P x with h | h
      · rw [cmpI_gt h]; decide
      · rw [show x = P by omega, cmpI_eq]; decide
    have hvt : v = false := by
      cases v
      · rfl
      · exact absurd (HV.out.1 rfl).2 h1
    subst hvt
    clear h1
    go_wp2_with fail
    refine wp_region_held_drew (S := (fun w' => (w'.cell? ⟨w.heap.size, 0, none⟩ = some (.bool s) ∧ w'.cell? ⟨w.heap.size, 1, none⟩ = some (.slice A n c) ∧ w'.cell? ⟨w1.heap.size, 0, none⟩ = some (.bool s1) ∧ w'.cell? ⟨w1.heap.size, 1, none⟩ = some (.slice A1 n1 c1)) ∧ PQ w s1 A1 n1 c1 P w')) (by kernel_rfl) ⟨HS0.out.1, HS0.out.2.1.drew, HS0.out.2.2.drew⟩ (fun hHeld => ?_)
    refine wpAnyH_take (i := 0) (v := ?_) rfl (by kernel_rfl) (by kernel_rfl) (by kernel_rfl) (fun _ _ _ h => h) (Or.inl ⟨by rfl, ?_⟩) (by assumption) ?_
    rotate_left
    · intro w hSw; (try dsimp only at hSw); go_simp; (try with_reducible rfl)
    try simp only [List.getElem_toArray, List.getElem_cons_zero, List.getElem_cons_succ, Act.put, List.setIfInBounds_toArray, List.set_cons_zero, List.set_cons_succ]
    refine wpAnyH_take (i := 1) (v := ?_) rfl (by kernel_rfl) (by kernel_rfl) (by kernel_rfl) (fun _ _ _ h => h) (Or.inl ⟨by rfl, ?_⟩) (by assumption) ?_
    rotate_left
    · intro w hSw; (try dsimp only at hSw); go_simp; (try with_reducible rfl)
    try simp only [List.getElem_toArray, List.getElem_cons_zero, List.getElem_cons_succ, Act.put, List.setIfInBounds_toArray, List.set_cons_zero, List.set_cons_succ]
    refine wpAnyH_ready (rs := [2]) (by kernel_rfl) (by simp) ?_
    refine AllReadyH.cons rfl (fun K hK => ?_) AllReadyH.nil
    go_simp
    go_at_call 28
    refine (Ref.cmp 1132 s s1 A A1 n c n1 c1 x P _ (HX.out.below (by assumption : (_ ∧ _ ∧ _ ∧ _) ∧ PQ w s1 A1 n1 c1 P _).2.1) (by assumption : (_ ∧ _ ∧ _ ∧ _) ∧ PQ w s1 A1 n1 c1 P _).2.2 (by decide)).mono ?_
    rintro e w2 ⟨rfl, hb2⟩
    refine hK.out _ _ ?_ (fun hHeld => ?_)
    · exact keepP hHeld hb2 (fun h => PQ.below h hb2)
    clear hK K
    try simp only [List.getElem_toArray, List.getElem_cons_zero, List.getElem_cons_succ, Act.put, List.setIfInBounds_toArray, List.set_cons_zero, List.set_cons_succ]
    refine wpAnyH_take (i := 3) (v := ?_) rfl (by kernel_rfl) (by kernel_rfl) (by kernel_rfl) (fun _ _ _ h => h) (Or.inl ⟨by rfl, ?_⟩) (by assumption) ?_
    rotate_left
    · intro w hSw; (try dsimp only at hSw); go_simp; (try with_reducible rfl)
    try simp only [List.getElem_toArray, List.getElem_cons_zero, List.getElem_cons_succ, Act.put, List.setIfInBounds_toArray, List.set_cons_zero, List.set_cons_succ]
    refine wpAnyH_take (i := 4) (v := ?_) rfl (by kernel_rfl) (by kernel_rfl) (by kernel_rfl) (fun _ _ _ h => h) (Or.inl ⟨by rfl, ?_⟩) (by assumption) ?_
    rotate_left
    · intro w hSw; (try dsimp only at hSw); go_simp; (try with_reducible rfl)
    try simp only [List.getElem_toArray, List.getElem_cons_zero, List.getElem_cons_succ, Act.put, List.setIfInBounds_toArray, List.set_cons_zero, List.set_cons_succ]
    refine wpAnyH_take (i := 5) (v := undef) rfl (by kernel_rfl) (by kernel_rfl) (by kernel_rfl) (fun _ _ _ h => h) (Or.inr ⟨by rfl, rfl⟩) (by assumption) ?_
    try simp only [List.getElem_toArray, List.getElem_cons_zero, List.getElem_cons_succ, Act.put, List.setIfInBounds_toArray, List.set_cons_zero, List.set_cons_succ]
    refine wpAnyH_take (i := 6) (v := undef) rfl (by kernel_rfl) (by kernel_rfl) (by kernel_rfl) (fun _ _ _ h => h) (Or.inr ⟨by rfl, rfl⟩) (by assumption) ?_
    try simp only [List.getElem_toArray, List.getElem_cons_zero, List.getElem_cons_succ, Act.put, List.setIfInBounds_toArray, List.set_cons_zero, List.set_cons_succ]
    refine wpAnyH_take (i := 7) (v := undef) rfl (by kernel_rfl) (by kernel_rfl) (by kernel_rfl) (fun _ _ _ h => h) (Or.inr ⟨by rfl, rfl⟩) (by assumption) ?_
    try simp only [List.getElem_toArray, List.getElem_cons_zero, List.getElem_cons_succ, Act.put, List.setIfInBounds_toArray, List.set_cons_zero, List.set_cons_succ]
    refine wpAnyH_take (i := 8) (v := undef) rfl (by kernel_rfl) (by kernel_rfl) (by kernel_rfl) (fun _ _ _ h => h) (Or.inr ⟨by rfl, rfl⟩) (by assumption) ?_
    try simp only [List.getElem_toArray, List.getElem_cons_zero, List.getElem_cons_succ, Act.put, List.setIfInBounds_toArray, List.set_cons_zero, List.set_cons_succ]
    refine wpAnyH_take (i := 9) (v := undef) rfl (by kernel_rfl) (by kernel_rfl) (by kernel_rfl) (fun _ _ _ h => h) (Or.inr ⟨by rfl, rfl⟩) (by assumption) ?_
    try simp only [List.getElem_toArray, List.getElem_cons_zero, List.getElem_cons_succ, Act.put, List.setIfInBounds_toArray, List.set_cons_zero, List.set_cons_succ]
    refine wpAnyH_take (i := 10) (v := ?_) rfl (by kernel_rfl) (by kernel_rfl) (by kernel_rfl) (fun _ _ _ h => h) (Or.inl ⟨by rfl, ?_⟩) (by assumption) ?_
    rotate_left
    · intro w hSw; (try dsimp only at hSw); go_simp; (try with_reducible rfl)
    try simp only [List.getElem_toArray, List.getElem_cons_zero, List.getElem_cons_succ, Act.put, List.setIfInBounds_toArray, List.set_cons_zero, List.set_cons_succ]
    refine wpAnyH_take (i := 11) (v := ?_) rfl (by kernel_rfl) (by kernel_rfl) (by kernel_rfl) (fun _ _ _ h => h) (Or.inl ⟨by rfl, ?_⟩) (by assumption) ?_
    rotate_left
    · intro w hSw; (try dsimp only at hSw); go_simp; (try with_reducible rfl)
    try simp only [List.getElem_toArray, List.getElem_cons_zero, List.getElem_cons_succ, Act.put, List.setIfInBounds_toArray, List.set_cons_zero, List.set_cons_succ]
    refine wpAnyH_done (by kernel_rfl) ?_ _
    obtain ⟨_, hfin⟩ : (_ ∧ _ ∧ _ ∧ _) ∧ PQ w s1 A1 n1 c1 P _ := by assumption
    have HFIN := hid hfin.1
    clear hfin
    go_wp2
    go_ret
    exact ⟨rfl, HFIN.out⟩
end

/- The contracts of the document's answer for layer 1, continued: a quotient by a small number, and what is left. -/
section
open Go.RowKit
def DvAns (K : Nat) (z b : Int) (w : World) (e : Ending) (w' : World) : Prop :=
  ∃ (s : Bool) (A : Option Addr) (n c : Nat), e = .returned (.tuple #[.agg #[.bool s, .slice A n c], .int .i64 (z % b)]) ∧ IsB w' (K + 5 + 1) s A n c (z / b) ∧ Below w.heap.size w w'
/-- What stands in memory while a number is divided. -/
def DInv (w0 : World) (s : Bool) (A : Option Addr) (n c : Nat) (ws : List Int) (w : World) : Prop :=
  Var w w0.heap.size s A n c ∧ Fresh w (w0.heap.size + 1) ∧ Own w (w0.heap.size + 2) (some ⟨w0.heap.size + 2, 0, none⟩) n n ws ∧ Below w0.heap.size w0 w
theorem DInv.made {w w1 : World} {s : Bool} {A : Option Addr} {n c : Nat} {ty : TypeId} {row : Value}
    (hr : row = .slice (some ⟨((w.alloc (.cells #[.bool s, .slice A n c] ty)).alloc (.cells #[.bool false, .slice none 0 0] ty)).heap.size, 0, none⟩) n n)
    (ho : w1.ownsRow (w.heap.size + 2) 3 1 row n (madeCells (Value.int IntKind.i64 0).cells (n * 1)).toList)
    (hg : ((w.alloc (.cells #[.bool s, .slice A n c] ty)).alloc (.cells #[.bool false, .slice none 0 0] ty)).grownBy w1 none) :
    DInv w s A n c (List.replicate n 0) w1 := by
  have h1 : Var ((w.alloc (.cells #[.bool s, .slice A n c] ty)).alloc (.cells #[.bool false, .slice none 0 0] ty)) w.heap.size s A n c := (Var.new _ _ _ _ _ _).alloc _
  have h2 : Fresh ((w.alloc (.cells #[.bool s, .slice A n c] ty)).alloc (.cells #[.bool false, .slice none 0 0] ty)) (w.heap.size + 1) := by
    have := Fresh.new (w.alloc (.cells #[.bool s, .slice A n c] ty)) ty
    simpa using this
  have h3 : Below w.heap.size w ((w.alloc (.cells #[.bool s, .slice A n c] ty)).alloc (.cells #[.bool false, .slice none 0 0] ty)) := ((Below.refl _ _).alloc (Nat.le_refl _) _).alloc (by simp) _
  obtain ⟨W0, hW⟩ : ∃ W0, W0 = (w.alloc (Obj.cells #[Value.bool s, Value.slice A n c] ty)).alloc (Obj.cells #[Value.bool false, Value.slice none 0 0] ty) := ⟨_, rfl⟩
  rw [← hW] at hr hg h1 h2 h3
  have hsz : W0.heap.size = w.heap.size + 2 := by rw [hW]; simp
  have hb : Below W0.heap.size W0 w1 := (Below.refl _ W0).grown hg (Nat.le_refl _) (fun k e => by cases e)
  have hown : Own w1 (w.heap.size + 2) (some ⟨w.heap.size + 2, 0, none⟩) n n (List.replicate n 0) := by
    rw [hr, hsz] at ho
    unfold Own
    rw [List.map_replicate]
    have e : (madeCells (Value.int IntKind.i64 0).cells (n * 1)).toList = List.replicate n (Value.int .i64 0) := by
      rw [Nat.mul_one]; exact toList_madeCells_one _ _
    rw [e] at ho
    exact ho
  exact ⟨h1.below hb, h2.below hb, hown, below_keep h3 hb⟩
theorem Var.far1 {w : World} {g : Nat} {s : Bool} {A : Option Addr} {n c : Nat} (h : Var w g s A n c) {b : Nat} (hb : b ≠ g) (o : Nat) (u : Value) : Var (w.setCell ⟨b, o, none⟩ u) g s A n c := by
  have far : ∀ (p : Nat), (w.setCell ⟨b, o, none⟩ u).cell? ⟨g, p, none⟩ = w.cell? ⟨g, p, none⟩ := fun p => World.cell?_setCell_other w ⟨b, o, none⟩ ⟨g, p, none⟩ u (fun e => by injection e with e1; exact hb e1)
  refine ⟨(far 0).trans h.1, (far 1).trans h.2.1, ?_, ?_, fun p k e => h.2.2.2.2 p k ((far p).symm.trans e)⟩
  · simpa [go_sem] using h.2.2.1
  · simpa [go_sem] using h.2.2.2.1
theorem DInv.put {w0 w : World} {s : Bool} {A : Option Addr} {n c : Nat} {ws : List Int} (h : DInv w0 s A n c ws w) (j : Nat) (z : Int) : DInv w0 s A n c (ws.set j z) (w.setCell ⟨w0.heap.size + 2, j, none⟩ (.int .i64 z)) :=
  ⟨h.1.far1 (by omega) _ _, h.2.1.setCell (by omega) _ _, h.2.2.1.put _ _, h.2.2.2.setCell (show w0.heap.size ≤ w0.heap.size + 2 by omega) _⟩
set_option maxRecDepth 100000 in
set_option maxHeartbeats 4000000 in
theorem Ref.div (K : Nat) (hK : K ≤ 1000) (s : Bool) (A : Option Addr) (n c : Nat) (z b : Int) (b0 : 1 ≤ b) (b1 : b ≤ 33554432) (w : World) (hz : IsB w K s A n c z) :
    Calls Tryz.prog 119 #[.agg #[.bool s, .slice A n c], .int .i64 b] w (DvAns K z b w) := by
  obtain ⟨zs, hX, hn, hnc, dX, nX, sX, eX⟩ := hz
  have HX := hid hX
  have HD := hid dX
  have HE := hid eX
  have HLZ := hid hX.1
  clear hX dX nX sX eX
  obtain ⟨i0, hi, hz0, hz1, hz2⟩ := info_parts infoInt
  have wN1 : IntKind.i64.wrap ((n : Int) - 1) = (n : Int) - 1 := by rw [IntKind.wrap_i64]; omega
  have wb : (b == 0) = false := by rw [beq_eq_false_iff_ne]; omega
  go_enter Tryz.func119, Tryz.ntmps119
  go_wp2_with (first | (refine wpList_make_full _ rfl _ _ _ rfl (w.heap.size + 2) 3 i0 (.int .i64 0) 1 Tryz.underlying39 hi hz0 hz1 .i64 .i64 _ _ n rfl rfl (by simp) (by simp) (by rw [hz2]; omega) (by unfold maxLen; omega) (by simp) ?_; intro w1 hown hgrow; have HM := hid (DInv.made rfl hown hgrow); clear hown hgrow; obtain ⟨v0, v1, v2, v3, _⟩ := HM.out.1))
  go_loopg [7, 8] n (fun g rest i wr => ∃ (r : Nat) (rs x : Int) (ws : List Int), r ≤ n ∧ g = r ∧ i = .int .i64 x ∧ rest = .int .i64 rs ∧ Hid (x = (r : Int) - 1 ∧ (val (ws.drop r) * b + rs = val (zs.drop r) ∧ Dg ws ∧ ws.length = n ∧ 0 ≤ rs ∧ rs < b)) ∧ DInv w s A n c ws wr)
  case atStart =>
    refine ⟨n, 0, _, _, Nat.le_refl _, rfl, rfl, rfl, hid ⟨by omega, ⟨?_, Dg.nought _, by simp, by omega, by omega⟩⟩, HM.out⟩
    rw [List.drop_of_length_le (by simp), List.drop_of_length_le (by have := HLZ.out; omega)]; simp [val]
  case round =>
    obtain ⟨r, rs, x, ws, hr, hg, rfl, rfl, hI, hM⟩ := hrel
    have HG := hid hg
    have HM2 := hid hM
    obtain ⟨v0, v1, v2, v3, _⟩ := hM.1
    clear hg hM
    rcases r with _ | j
    · have hx : x = -1 := by have := hI.out.1; omega
      subst hx
      have hv := hI.out.2.1
      rw [List.drop_zero, List.drop_zero] at hv
      have r0 := hI.out.2.2.2.2.1
      have r1 := hI.out.2.2.2.2.2
      have HW := hid (And.intro hv hI.out.2.2.1)
      clear hv hI
      go_wp2_with fail
      refine (Ref.trim K false _ n n ws _ HM2.out.2.2.1.rd hn (by omega) (Nat.le_refl _) HW.out.2 (val ws) (hid (by simp))).mono ?_
      rintro e w2 ⟨s2, A2, n2, c2, rfl, hB, hb2⟩
      have H2 := hid hB
      have V2 := hid (HM2.out.1.below hb2)
      have F2 := hid (HM2.out.2.1.below hb2)
      have B2 := hid (below_keep HM2.out.2.2.2 hb2)
      have z1 := V2.out.lt
      have z2 := (Var.fresh F2.out).lt
      clear hB hb2 v0 v1 v2 v3 HM2
      obtain ⟨v0, v1, _, _, _⟩ := V2.out
      obtain ⟨t0, t1, t2, t3, _⟩ := F2.out
      rcases s with _ | _
      · have HQ := hid (show z / b = val ws ∧ z % b = rs by
          have h1 := HE.out
          have h2 := HW.out.1
          simp at h1
          obtain ⟨q1, q2⟩ := div_uniq (q := val ws) (b := b) (r := rs) (a := z) (by omega) r0 r1
          exact ⟨q1.symm, q2.symm⟩)
        go_wp2_with fail
        refine bodyPost_ret (v := .tuple #[.agg #[.bool s2, .slice A2 n2 c2], .int .i64 rs]) (by simp [results, Tryz.results119, go_sem, t0, t1, z2]) rfl ⟨s2, A2, n2, c2, by rw [HQ.out.2], ?_, ?_⟩
        · rw [HQ.out.1]
          exact ((H2.out.mono (show K ≤ K + 5 + 1 by omega)).store F2.out.2.2.2.2 0 1 (.bool s2) (.slice A2 n2 c2)).alloc _
        · have bs := B2.out.size
          refine Below.alloc ?_ (by simp; omega) _
          exact (B2.out.setCell (by simp) _).setCell (by simp) _
      · have hz2 : z = -(val ws * b + rs) := by
          have h1 := HE.out
          have h2 := HW.out.1
          simp at h1
          omega
        by_cases hr0 : 0 < rs
        · have HQ := hid (show z / b = 0 - (val ws + 1) ∧ z % b = b - rs by
            obtain ⟨q1, q2⟩ := div_uniq (q := 0 - (val ws + 1)) (b := b) (r := b - rs) (a := z) (by rw [hz2, Int.sub_mul, Int.add_mul]; omega) (by omega) (by omega)
            exact ⟨q1.symm, q2.symm⟩)
          have wr1 : IntKind.i64.wrap (b - rs) = b - rs := by rw [IntKind.wrap_i64]; omega
          clear hz2
          go_upto_region 13 with fail
          have V3 := hid (Var.new w2 41 s2 A2 n2 c2)
          have H3 := hid (H2.out.alloc (.cells #[.bool s2, .slice A2 n2 c2] 41))
          have F3 := hid (F2.out.below ((Below.refl _ w2).alloc (Nat.le_refl _) (.cells #[.bool s2, .slice A2 n2 c2] 41)))
          have B3 := hid (B2.out.alloc B2.out.size (.cells #[.bool s2, .slice A2 n2 c2] 41))
          have z3 := (Var.fresh F3.out).lt
          have bs := B2.out.size
          clear v0 v1 t0 t1 t2 t3
          generalize w2.alloc (.cells #[.bool s2, .slice A2 n2 c2] 41) = w3 at *
          obtain ⟨v0, v1, v2, v3, _⟩ := V3.out
          go_region_with (first
            | (go_at_call 67; refine (Ref.N 1 (by decide) (by decide) _).mono ?_; rintro e w4 ⟨s4, A4, n4, c4, rfl, hB, hb4⟩; have H4 := hid (hB.mono (show 5 ≤ K + 5 by omega)); have V4 := hid (V3.out.drew.below hb4); have H34 := hid ((H3.out.drew.below hb4).mono (show K ≤ K + 5 by omega)); have F4 := hid (Fresh.below (w := w3.drew) F3.out hb4); have B4 := hid (below_keep B3.out.drew hb4); obtain ⟨v0, v1, v2, v3, _⟩ := V4.out; clear hB hb4)
            | (go_at_call 66; refine (Ref.add (K + 5) s2 s4 A2 A4 n2 c2 n4 c4 _ _ _ H34.out H4.out (by omega)).mono ?_; rintro e w5 ⟨s5, A5, n5, c5, rfl, hB, hb4⟩; have H5 := hid hB; have V5 := hid (V4.out.below hb4); have F5 := hid (F4.out.below hb4); have B5 := hid (below_keep B4.out hb4); obtain ⟨v0, v1, v2, v3, _⟩ := V5.out; clear hB hb4))
          all_goals
            have H6 := hid (H5.out.storeV V5.out 0 1 (.bool s5) (.slice A5 n5 c5))
            have F6 := hid (Fresh.ofVar ((Var.fresh F5.out).far (b := w2.heap.size) (by omega) 0 1 (.bool s5) (.slice A5 n5 c5)))
            have B6 := hid ((B5.out.setCell (p := ⟨w2.heap.size, 0, none⟩) bs (.bool s5)).setCell (p := ⟨w2.heap.size, 1, none⟩) bs (.slice A5 n5 c5))
            go_wp2_with fail
            refine (Ref.neg (K + 5 + 1) s5 A5 n5 c5 _ _ H6.out (by omega)).mono ?_
            rintro e w7 ⟨s7, A7, n7, c7, rfl, hB, hb7⟩
            have H7 := hid hB
            have F7 := hid (F6.out.below hb7)
            have B7 := hid (below_keep B6.out hb7)
            clear hB hb7
            obtain ⟨t0, t1, t2, t3, _⟩ := F7.out
            go_wp2_with fail
            refine bodyPost_ret (v := .tuple #[.agg #[.bool s7, .slice A7 n7 c7], .int .i64 (b - rs)]) (by simp [results, Tryz.results119, go_sem, t0, t1]) rfl ⟨s7, A7, n7, c7, by rw [HQ.out.2], ?_, ?_⟩
            · rw [HQ.out.1]
              exact (show IsB w7 (K + 5 + 1) s7 A7 n7 c7 (0 - (val ws + 1)) from H7.out).store F7.out.2.2.2.2 _ _ _ _
            · exact (B7.out.setCell (by simp) _).setCell (by simp) _
        · have HQ := hid (show z / b = 0 - val ws ∧ z % b = rs by
            obtain ⟨q1, q2⟩ := div_uniq (q := 0 - val ws) (b := b) (r := rs) (a := z) (by rw [hz2, Int.sub_mul]; omega) r0 r1
            exact ⟨q1.symm, q2.symm⟩)
          clear hz2
          go_wp2_with fail
          refine (Ref.neg K s2 A2 n2 c2 _ _ (H2.out.alloc _) (by omega)).mono ?_
          rintro e w7 ⟨s7, A7, n7, c7, rfl, hB, hb7⟩
          have H7 := hid (hB.mono (show K ≤ K + 5 + 1 by omega))
          have F7 := hid ((F2.out.below ((Below.refl _ w2).alloc (Nat.le_refl _) (.cells #[.bool s2, .slice A2 n2 c2] 41))).below hb7)
          have B7 := hid (below_keep (B2.out.alloc B2.out.size (.cells #[.bool s2, .slice A2 n2 c2] 41)) hb7)
          clear hB hb7 t0 t1 t2 t3
          obtain ⟨t0, t1, t2, t3, _⟩ := F7.out
          go_wp2_with fail
          refine bodyPost_ret (v := .tuple #[.agg #[.bool s7, .slice A7 n7 c7], .int .i64 rs]) (by simp [results, Tryz.results119, go_sem, t0, t1]) rfl ⟨s7, A7, n7, c7, by rw [HQ.out.2], ?_, ?_⟩
          · rw [HQ.out.1]
            exact H7.out.store F7.out.2.2.2.2 _ _ _ _
          · exact (B7.out.setCell (by simp) _).setCell (by simp) _
    · have hx : x = (j : Int) := by have := hI.out.1; omega
      subst hx
      obtain ⟨b2, off2, e2, hc⟩ := (HX.out.below HM2.out.2.2.2).2 (by omega)
      subst e2
      have hcell := hc j (by omega)
      have hq := HM2.out.2.2.1.at (j := j) (by omega)
      have hf := HM2.out.2.2.1.hot j
      have HS := hid (div_step (b := b) (i := j) (by omega) (by have := hI.out.2.2.2.1; omega) (by have := HLZ.out; omega) HD.out hI.out.2.2.1 hI.out.2.2.2.2.1 hI.out.2.2.2.2.2 hI.out.2.1)
      have HDG := hid (HD.out.getD j)
      have r0 := hI.out.2.2.2.2.1
      have r1 := hI.out.2.2.2.2.2
      generalize zs.getD j 0 = d at *
      have d0 := HDG.out.1
      have d1 := HDG.out.2
      have w1' : IntKind.i64.wrap (rs * 10000) = rs * 10000 := by rw [IntKind.wrap_i64]; omega
      have w2' : IntKind.i64.wrap (rs * 10000 + d) = rs * 10000 + d := by rw [IntKind.wrap_i64]; omega
      have hjn : (j : Int) < (n : Int) := by omega
      clear hc
      go_wp2_with fail
      go_roundg j
      case measure => have := HG.out; omega
      case rel => exact ⟨j, _, _, _, by omega, rfl, rfl, rfl, hid ⟨rfl, HS.out.1, HS.out.2.1, by rw [List.length_set]; exact hI.out.2.2.2.1, HS.out.2.2⟩, HM2.out.put _ _⟩
end

end Go.Proofs.YtklaghleghncoaaGreatDoor
