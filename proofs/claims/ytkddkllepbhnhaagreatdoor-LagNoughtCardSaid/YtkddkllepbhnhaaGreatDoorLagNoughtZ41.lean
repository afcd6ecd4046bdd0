/- Texts of LagNought's proof, together. -/
import Derived.Test.YtkddkllepbhnhaaGreatDoorLagNoughtZ13
import Derived.Test.YtkddkllepbhnhaaGreatDoorLagNoughtZ32
import Derived.Test.YtkddkllepbhnhaaGreatDoorRbB
import Derived.Test.YtkddkllepbhnhaaGreatDoorLagNoughtZ21
import Derived.Test.YtkddkllepbhnhaaGreatDoorLagNoughtZ25
import Derived.Test.YtkddkllepbhnhaaGreatDoorLagNoughtZ36
import Derived.Test.YtkddkllepbhnhaaGreatDoorStr
import Derived.Test.YtkddkllepbhnhaaGreatDoorLagNoughtZ16
import Derived.Deep.AppendLies
import Derived.Test.YtkddkllepbhnhaaGreatDoorLagNoughtZ26
import Derived.Test.YtkddkllepbhnhaaGreatDoorLagNoughtZ20
import Derived.Test.YtkddkllepbhnhaaGreatDoorLagNoughtZ0
namespace Go.Proofs.YtkddkllepbhnhaaGreatDoor
/- The chapter's example of layer 8, as the laws ask it. -/
section
open Go.RowKit
theorem Law7.Awake (w : World) : Calls Tryz.prog 68 #[] w (Ans (.bool true) w) := by
  go_enter Tryz.func68, Tryz.ntmps68
  go_wp2_with (go_at_call 127; refine (Law7.awake _).mono ?_; rintro e w' ⟨rfl, hb⟩)
  go_ret
  exact ⟨rfl, hb⟩
theorem ex8 : Mu.of 5 [(5, 0, 1), (8, 0, 1)] = (true, ⟨5, 3, 2, 2⟩) := by
  rw [of_yes 5 (l := [(5, 0, 1), (8, 0, 1)]) (fun p hp => by
    simp at hp
    rcases hp with rfl | rfl
    · exact ⟨by decide, ⟨by decide, by decide⟩, ⟨by decide, by decide⟩, by decide, by decide⟩
    · exact ⟨by decide, ⟨by decide, by decide⟩, ⟨by decide, by decide⟩, by decide, by decide⟩) (by decide)]
  rfl
theorem ex8f : Mu.fl ⟨5, 3, 2, 2⟩ = (true, 6) := by first | rfl | decide +kernel
theorem ex8t : txtOf 3 = [51] := by first | decide +kernel | (unfold txtOf; rw [if_neg (by decide)]; simp [Lib.decDigits])
theorem Tab10.at2 {w0 w : World} (h : Tab10 w0.heap.size w0) (hb : Below w0.heap.size w0 w) : Tab10 w.heap.size w := Tab10.of (h.on hb).here
set_option maxRecDepth 100000 in
set_option maxHeartbeats 4000000 in
theorem Law8.awake (w : World) (htab : Tab10 w.heap.size w) : Calls Tryz.prog 13 #[] w (Ans (.bool true) w) := by
  have HT := hid htab
  have HB0 := hid ((Below.refl w.heap.size w).alloc (Nat.le_refl _) (.cells #[.int .u64 5, .int .u32 0, .int .u32 1, .int .u64 8, .int .u32 0, .int .u32 1] 29))
  have HR := hid (RdP.new2 w 29 5 0 1 8 0 1)
  clear htab
  go_enter Tryz.func13, Tryz.ntmps13
  go_wp2_with fail

  generalize (w.alloc (.cells #[.int .u64 5, .int .u32 0, .int .u32 1, .int .u64 8, .int .u32 0, .int .u32 1] 29)) = W0 at HB0 HR ⊢
  refine (Mean.of 5 ⟨by decide, by decide⟩ (some ⟨w.heap.size, 0, none⟩) 2 2 [(5, 0, 1), (8, 0, 1)] _ HR.out (fun p hp => by
    simp at hp
    rcases hp with rfl | rfl
    · exact ⟨⟨by decide, by decide⟩, ⟨by decide, by decide⟩, by decide, by decide⟩
    · exact ⟨⟨by decide, by decide⟩, ⟨by decide, by decide⟩, by decide, by decide⟩) (by decide)).mono ?_
  rw [ex8]
  rintro e w1 ⟨rfl, hb⟩
  have ha := (Below.refl w1.heap.size w1).alloc (Nat.le_refl _) (.cells #[.int .u64 5, .int .i64 (hiW 3), .int .u64 (loW 3), .int .u64 2, .int .i64 2] 36)
  have HB1 := hid (below_on (below_on HB0.out hb) ha)
  have HC1 : Hid (Cs (w1.alloc (.cells #[.int .u64 5, .int .i64 (hiW 3), .int .u64 (loW 3), .int .u64 2, .int .i64 2] 36)) w1.heap.size (Mu.mk 5 3 2 2).cells) := hid (Cs.alloc_new6 w1 _ (Mu.mk 5 3 2 2).cells)
  clear hb ha HB0 HR
  go_wp2_with fail
  generalize (w1.alloc (.cells #[.int .u64 5, .int .i64 (hiW 3), .int .u64 (loW 3), .int .u64 2, .int .i64 2] 36)) = W1 at HB1 HC1 ⊢
  generalize w1.heap.size = g at HC1 ⊢
  refine (Mean.floor ⟨5, 3, 2, 2⟩ (by unfold Mu.In WR; refine ⟨⟨?_, ?_⟩, ⟨?_, ?_⟩, ⟨?_, ?_⟩, ?_, ?_⟩ <;> decide) _).mono ?_
  rw [ex8f]
  rintro e w2 ⟨rfl, hb⟩
  have HB2 := hid (below_on HB1.out hb)
  have HC2 := hid (HC1.out.below hb)
  clear hb HB1 HC1
  go_wp2_with fail
  refine (Law7.Awake _).mono ?_
  rintro e w3 ⟨rfl, hb⟩
  have HB3 := hid (below_on HB2.out hb)
  have HC3 := hid (HC2.out.below hb)
  clear hb HB2 HC2
  obtain ⟨m0, m1, m2, m3, m4⟩ := Mu.at _ HC3.out
  go_wp2_with fail
  refine (Wide.string (hiW 3) (loW 3) 3 (isW_of (by unfold WR; omega)) _ (HT.out.at2 HB3.out)).mono ?_
  rw [ex8t]
  rintro e w4 ⟨rfl, hb⟩
  have HB4 := hid (below_on HB3.out hb)
  have HC4 := hid (HC3.out.below hb)
  clear hb HB3 HC3 m0 m1 m2 m3 m4
  obtain ⟨m0, m1, m2, m3, m4⟩ := Mu.at _ HC4.out
  go_wp2_with fail
  go_ret
  exact ⟨rfl, HB4.out⟩
theorem Law8.Awake (w : World) (htab : Tab10 w.heap.size w) : Calls Tryz.prog 75 #[] w (Ans (.bool true) w) := by
  go_enter Tryz.func75, Tryz.ntmps75
  go_wp2_with (go_at_call 13; refine (Law8.awake _ htab).mono ?_; rintro e w' ⟨rfl, hb⟩)
  go_ret
  exact ⟨rfl, hb⟩
end

/- The chapter's example of layer 9, as the laws ask it. -/
section
open Go.RowKit
theorem ex9in : (Mu.mk 5 3 2 2).In := by unfold Mu.In WR; refine ⟨⟨?_, ?_⟩, ⟨?_, ?_⟩, ⟨?_, ?_⟩, ?_, ?_⟩ <;> decide
theorem ex9p : PIn (5, 0, 1) := ⟨⟨by decide, by decide⟩, ⟨by decide, by decide⟩, by decide, by decide⟩
theorem ex9q : PIn (8, 0, 1) := ⟨⟨by decide, by decide⟩, ⟨by decide, by decide⟩, by decide, by decide⟩
theorem ex9a (w : World) : Calls Tryz.prog 77 #[(Mu.mk 5 3 2 2).val, pv (5, 0, 1)] w (Ans (.bool true) w) := by
  have h := Lag.eligible (Mu.mk 5 3 2 2) (5, 0, 1) ex9in ex9p w
  rwa [show (Mu.mk 5 3 2 2).elig (5, 0, 1) = true by first | rfl | decide +kernel] at h
theorem ex9b (w : World) : Calls Tryz.prog 77 #[(Mu.mk 5 3 2 2).val, pv (8, 0, 1)] w (Ans (.bool false) w) := by
  have h := Lag.eligible (Mu.mk 5 3 2 2) (8, 0, 1) ex9in ex9q w
  rwa [show (Mu.mk 5 3 2 2).elig (8, 0, 1) = false by first | rfl | decide +kernel] at h
theorem ex9c (w : World) : Calls Tryz.prog 26 #[(Mu.mk 5 3 2 2).val, pv (5, 0, 1)] w (Ans (.tuple #[wv 1, .bool true]) w) := by
  have h := Lag.read (Mu.mk 5 3 2 2) (5, 0, 1) ex9in ex9p w
  rwa [show (Mu.mk 5 3 2 2).lag (5, 0, 1) = (true, 1) by first | rfl | decide +kernel] at h
theorem ex9d (w : World) : Calls Tryz.prog 26 #[(Mu.mk 5 3 2 2).val, pv (8, 0, 1)] w (Ans (.tuple #[wv (-2), .bool true]) w) := by
  have h := Lag.read (Mu.mk 5 3 2 2) (8, 0, 1) ex9in ex9q w
  rwa [show (Mu.mk 5 3 2 2).lag (8, 0, 1) = (true, -2) by first | rfl | decide +kernel] at h
/-- The example's variables. -/
def A9 (w : World) (g3 g4 g5 : Nat) (W : World) : Prop := (Cs W w.heap.size (pcells (5, 0, 1)) ∧ Cs W (w.heap.size + 1) (pcells (8, 0, 1)) ∧ Cs W g3 (Mu.mk 5 3 2 2).cells) ∧ (Cs W g4 [.int .i64 (hiW 1), .int .u64 (loW 1)] ∧ Cs W g5 [.int .i64 (hiW (-2)), .int .u64 (loW (-2))]) ∧ Below w.heap.size w W
theorem A9.below {w w1 w2 : World} {g3 g4 g5 : Nat} (h : A9 w g3 g4 g5 w1) (hb : Below w1.heap.size w1 w2) : A9 w g3 g4 g5 w2 := ⟨⟨h.1.1.below hb, h.1.2.1.below hb, h.1.2.2.below hb⟩, ⟨h.2.1.1.below hb, h.2.1.2.below hb⟩, below_on h.2.2 hb⟩
theorem A9.stays (w : World) (g3 g4 g5 : Nat) : Stays (A9 w g3 g4 g5) := fun _ _ h hb => h.below hb
set_option maxRecDepth 100000 in
set_option maxHeartbeats 8000000 in
theorem Law9.awake (w : World) (htab : Tab10 w.heap.size w) : Calls Tryz.prog 21 #[] w (Ans (.bool true) w) := by
  have HT := hid htab
  have HA0 : Hid ((Cs (((w.alloc (.cells #[.int .u64 5, .int .u32 0, .int .u32 1] 29)).alloc (.cells #[.int .u64 8, .int .u32 0, .int .u32 1] 29)).alloc (.cells #[.int .u64 5, .int .u32 0, .int .u32 1, .int .u64 8, .int .u32 0, .int .u32 1] 29)) w.heap.size (pcells (5, 0, 1)) ∧ Cs (((w.alloc (.cells #[.int .u64 5, .int .u32 0, .int .u32 1] 29)).alloc (.cells #[.int .u64 8, .int .u32 0, .int .u32 1] 29)).alloc (.cells #[.int .u64 5, .int .u32 0, .int .u32 1, .int .u64 8, .int .u32 0, .int .u32 1] 29)) (w.heap.size + 1) (pcells (8, 0, 1))) ∧ RdP (((w.alloc (.cells #[.int .u64 5, .int .u32 0, .int .u32 1] 29)).alloc (.cells #[.int .u64 8, .int .u32 0, .int .u32 1] 29)).alloc (.cells #[.int .u64 5, .int .u32 0, .int .u32 1, .int .u64 8, .int .u32 0, .int .u32 1] 29)) (some ⟨w.heap.size + 2, 0, none⟩) 2 [(5, 0, 1), (8, 0, 1)] ∧ Below w.heap.size w (((w.alloc (.cells #[.int .u64 5, .int .u32 0, .int .u32 1] 29)).alloc (.cells #[.int .u64 8, .int .u32 0, .int .u32 1] 29)).alloc (.cells #[.int .u64 5, .int .u32 0, .int .u32 1, .int .u64 8, .int .u32 0, .int .u32 1] 29))) := hid (by
    have h1 := Cs.alloc_new6 w 29 (pcells (5, 0, 1))
    have h2 := Cs.alloc_new6 (w.alloc (.cells #[.int .u64 5, .int .u32 0, .int .u32 1] 29)) 29 (pcells (8, 0, 1))
    have h3 := RdP.new2 ((w.alloc (.cells #[.int .u64 5, .int .u32 0, .int .u32 1] 29)).alloc (.cells #[.int .u64 8, .int .u32 0, .int .u32 1] 29)) 29 5 0 1 8 0 1
    simp only [World.size_alloc] at h2 h3
    exact ⟨⟨(h1.alloc _).alloc _, h2.alloc _⟩, h3, (((Below.refl w.heap.size w).alloc (Nat.le_refl _) _).alloc (by simp) _).alloc (by simp; omega) _⟩)
  clear htab
  go_enter Tryz.func21, Tryz.ntmps21
  go_wp2_with fail
  generalize (((w.alloc (.cells #[.int .u64 5, .int .u32 0, .int .u32 1] 29)).alloc (.cells #[.int .u64 8, .int .u32 0, .int .u32 1] 29)).alloc (.cells #[.int .u64 5, .int .u32 0, .int .u32 1, .int .u64 8, .int .u32 0, .int .u32 1] 29)) = W3 at HA0 ⊢
  refine (Mean.of 5 ⟨by decide, by decide⟩ (some ⟨w.heap.size + 2, 0, none⟩) 2 2 [(5, 0, 1), (8, 0, 1)] _ HA0.out.2.1 (fun p hp => by
    simp at hp
    rcases hp with rfl | rfl
    · exact ex9p
    · exact ex9q) (by decide)).mono ?_
  rw [ex8]
  rintro e w1 ⟨rfl, hb⟩
  have ha := (Below.refl w1.heap.size w1).alloc (Nat.le_refl _) (.cells #[.int .u64 5, .int .i64 (hiW 3), .int .u64 (loW 3), .int .u64 2, .int .i64 2] 36)
  have HA1 : Hid (((Cs (w1.alloc (.cells #[.int .u64 5, .int .i64 (hiW 3), .int .u64 (loW 3), .int .u64 2, .int .i64 2] 36)) w.heap.size (pcells (5, 0, 1)) ∧ Cs (w1.alloc (.cells #[.int .u64 5, .int .i64 (hiW 3), .int .u64 (loW 3), .int .u64 2, .int .i64 2] 36)) (w.heap.size + 1) (pcells (8, 0, 1))) ∧ Cs (w1.alloc (.cells #[.int .u64 5, .int .i64 (hiW 3), .int .u64 (loW 3), .int .u64 2, .int .i64 2] 36)) w1.heap.size (Mu.mk 5 3 2 2).cells) ∧ Below w.heap.size w (w1.alloc (.cells #[.int .u64 5, .int .i64 (hiW 3), .int .u64 (loW 3), .int .u64 2, .int .i64 2] 36))) := hid ⟨⟨⟨(HA0.out.1.1.below hb).below ha, (HA0.out.1.2.below hb).below ha⟩, Cs.alloc_new6 w1 _ (Mu.mk 5 3 2 2).cells⟩, below_on (below_on HA0.out.2.2 hb) ha⟩
  clear hb ha HA0
  obtain ⟨m0, m1, m2, m3, m4⟩ := Mu.at (Mu.mk 5 3 2 2) HA1.out.1.2
  obtain ⟨q0, q1, q2⟩ := P3.at (5, 0, 1) HA1.out.1.1.1
  dsimp only at m0 m1 m2 m3 m4 q0 q1 q2
  go_wp2_with fail
  clear m0 m1 m2 m3 m4 q0 q1 q2
  generalize w1.alloc (.cells #[.int .u64 5, .int .i64 (hiW 3), .int .u64 (loW 3), .int .u64 2, .int .i64 2] 36) = W4 at HA1 ⊢
  generalize w1.heap.size = g3 at HA1 ⊢
  refine (ex9c _).mono ?_
  rintro e w2 ⟨rfl, hb⟩
  have ha := (Below.refl w2.heap.size w2).alloc (Nat.le_refl _) (.cells #[.int .i64 (hiW 1), .int .u64 (loW 1)] 34)
  have HA2 : Hid (((Cs (w2.alloc (.cells #[.int .i64 (hiW 1), .int .u64 (loW 1)] 34)) w.heap.size (pcells (5, 0, 1)) ∧ Cs (w2.alloc (.cells #[.int .i64 (hiW 1), .int .u64 (loW 1)] 34)) (w.heap.size + 1) (pcells (8, 0, 1))) ∧ Cs (w2.alloc (.cells #[.int .i64 (hiW 1), .int .u64 (loW 1)] 34)) g3 (Mu.mk 5 3 2 2).cells) ∧ Cs (w2.alloc (.cells #[.int .i64 (hiW 1), .int .u64 (loW 1)] 34)) w2.heap.size [.int .i64 (hiW 1), .int .u64 (loW 1)] ∧ Below w.heap.size w (w2.alloc (.cells #[.int .i64 (hiW 1), .int .u64 (loW 1)] 34))) := hid ⟨⟨⟨(HA1.out.1.1.1.below hb).below ha, (HA1.out.1.1.2.below hb).below ha⟩, (HA1.out.1.2.below hb).below ha⟩, Cs.new2 w2 _ _ _, below_on (below_on HA1.out.2 hb) ha⟩
  clear hb ha HA1
  obtain ⟨m0, m1, m2, m3, m4⟩ := Mu.at (Mu.mk 5 3 2 2) HA2.out.1.2
  obtain ⟨q0, q1, q2⟩ := P3.at (8, 0, 1) HA2.out.1.1.2
  dsimp only at m0 m1 m2 m3 m4 q0 q1 q2
  go_wp2_with fail
  clear m0 m1 m2 m3 m4 q0 q1 q2
  generalize w2.alloc (.cells #[.int .i64 (hiW 1), .int .u64 (loW 1)] 34) = W5 at HA2 ⊢
  generalize w2.heap.size = g4 at HA2 ⊢
  refine (ex9d _).mono ?_
  rintro e w3 ⟨rfl, hb⟩
  have ha := (Below.refl w3.heap.size w3).alloc (Nat.le_refl _) (.cells #[.int .i64 (hiW (-2)), .int .u64 (loW (-2))] 34)
  have HA5 : Hid (A9 w g3 g4 w3.heap.size (w3.alloc (.cells #[.int .i64 (hiW (-2)), .int .u64 (loW (-2))] 34))) := hid ⟨⟨(HA2.out.1.1.1.below hb).below ha, (HA2.out.1.1.2.below hb).below ha, (HA2.out.1.2.below hb).below ha⟩, ⟨(HA2.out.2.1.below hb).below ha, Cs.new2 w3 _ _ _⟩, below_on (below_on HA2.out.2.2 hb) ha⟩
  clear hb ha HA2
  go_wp2_with fail
  generalize w3.alloc (.cells #[.int .i64 (hiW (-2)), .int .u64 (loW (-2))] 34) = W6 at HA5 ⊢
  generalize w3.heap.size = g5 at HA5 ⊢
  refine wp_region_grow (S := A9 w g3 g4 g5) 32 (by kernel_rfl) (HA5.out.below (Below.refl _ _).drew) ?_
  refine wpAnyE_take (i := 0) (v := Value.bool true) (A9.stays w g3 g4 g5) (fun _ h => h) rfl (by kernel_rfl) (by kernel_rfl) (by kernel_rfl) (by kernel_rfl) (fun _ _ _ h => h) (Or.inl ⟨by rfl, fun wq hSw => ?_⟩) ?_
  · refine RunB.of_calls (Law8.Awake wq (HT.out.at2 hSw.2.2)) (by go_simp) ?_
    rintro e wr ⟨rfl, hb⟩
    exact ⟨rfl, hb⟩
  try simp only [List.getElem_toArray, List.getElem_cons_zero, List.getElem_cons_succ, Act.put, List.setIfInBounds_toArray, List.set_cons_zero, List.set_cons_succ]
  refine wpAnyE_take (i := 1) (v := ?_) (A9.stays w g3 g4 g5) (fun _ h => h) rfl (by kernel_rfl) (by kernel_rfl) (by kernel_rfl) (by kernel_rfl) (fun _ _ _ h => h) (SteadyB.of_yields (Or.inl ⟨by rfl, ?_⟩)) ?_
  rotate_left
  · intro wq hSw
    go_simp
    (try with_reducible rfl)
  try simp only [List.getElem_toArray, List.getElem_cons_zero, List.getElem_cons_succ, Act.put, List.setIfInBounds_toArray, List.set_cons_zero, List.set_cons_succ]
  refine wpAnyE_take (i := 2) (v := ?_) (A9.stays w g3 g4 g5) (fun _ h => h) rfl (by kernel_rfl) (by kernel_rfl) (by kernel_rfl) (by kernel_rfl) (fun _ _ _ h => h) (SteadyB.of_yields (Or.inl ⟨by rfl, ?_⟩)) ?_
  rotate_left
  · intro wq hSw
    go_simp
    (try with_reducible rfl)
  try simp only [List.getElem_toArray, List.getElem_cons_zero, List.getElem_cons_succ, Act.put, List.setIfInBounds_toArray, List.set_cons_zero, List.set_cons_succ]
  refine wpAnyE_take (i := 3) (v := ?_) (A9.stays w g3 g4 g5) (fun _ h => h) rfl (by kernel_rfl) (by kernel_rfl) (by kernel_rfl) (by kernel_rfl) (fun _ _ _ h => h) (SteadyB.of_yields (Or.inl ⟨by rfl, ?_⟩)) ?_
  rotate_left
  · intro wq hSw
    go_simp
    (try with_reducible rfl)
  try simp only [List.getElem_toArray, List.getElem_cons_zero, List.getElem_cons_succ, Act.put, List.setIfInBounds_toArray, List.set_cons_zero, List.set_cons_succ]
  refine wpAnyE_take (i := 4) (v := ?_) (A9.stays w g3 g4 g5) (fun _ h => h) rfl (by kernel_rfl) (by kernel_rfl) (by kernel_rfl) (by kernel_rfl) (fun _ _ _ h => h) (SteadyB.of_yields (Or.inl ⟨by rfl, ?_⟩)) ?_
  rotate_left
  · intro wq hSw
    go_simp
    (try with_reducible rfl)
  try simp only [List.getElem_toArray, List.getElem_cons_zero, List.getElem_cons_succ, Act.put, List.setIfInBounds_toArray, List.set_cons_zero, List.set_cons_succ]
  refine wpAnyE_take (i := 5) (v := ?_) (A9.stays w g3 g4 g5) (fun _ h => h) rfl (by kernel_rfl) (by kernel_rfl) (by kernel_rfl) (by kernel_rfl) (fun _ _ _ h => h) (SteadyB.of_yields (Or.inl ⟨by rfl, ?_⟩)) ?_
  rotate_left
  · intro wq hSw
    go_simp
    (try with_reducible rfl)
  try simp only [List.getElem_toArray, List.getElem_cons_zero, List.getElem_cons_succ, Act.put, List.setIfInBounds_toArray, List.set_cons_zero, List.set_cons_succ]
  refine wpAnyE_take (i := 6) (v := ?_) (A9.stays w g3 g4 g5) (fun _ h => h) rfl (by kernel_rfl) (by kernel_rfl) (by kernel_rfl) (by kernel_rfl) (fun _ _ _ h => h) (SteadyB.of_yields (Or.inl ⟨by rfl, ?_⟩)) ?_
  rotate_left
  · intro wq hSw
    go_simp
    (try with_reducible rfl)
  try simp only [List.getElem_toArray, List.getElem_cons_zero, List.getElem_cons_succ, Act.put, List.setIfInBounds_toArray, List.set_cons_zero, List.set_cons_succ]
  refine wpAnyE_take (i := 7) (v := ?_) (A9.stays w g3 g4 g5) (fun _ h => h) rfl (by kernel_rfl) (by kernel_rfl) (by kernel_rfl) (by kernel_rfl) (fun _ _ _ h => h) (SteadyB.of_yields (Or.inl ⟨by rfl, ?_⟩)) ?_
  rotate_left
  · intro wq hSw
    go_simp
    (try with_reducible rfl)
  try simp only [List.getElem_toArray, List.getElem_cons_zero, List.getElem_cons_succ, Act.put, List.setIfInBounds_toArray, List.set_cons_zero, List.set_cons_succ]
  refine wpAnyE_take (i := 8) (v := ?_) (A9.stays w g3 g4 g5) (fun _ h => h) rfl (by kernel_rfl) (by kernel_rfl) (by kernel_rfl) (by kernel_rfl) (fun _ _ _ h => h) (SteadyB.of_yields (Or.inl ⟨by rfl, ?_⟩)) ?_
  rotate_left
  · intro wq hSw
    go_simp
    (try with_reducible rfl)
  try simp only [List.getElem_toArray, List.getElem_cons_zero, List.getElem_cons_succ, Act.put, List.setIfInBounds_toArray, List.set_cons_zero, List.set_cons_succ]
  refine wpAnyE_take (i := 9) (v := ?_) (A9.stays w g3 g4 g5) (fun _ h => h) rfl (by kernel_rfl) (by kernel_rfl) (by kernel_rfl) (by kernel_rfl) (fun _ _ _ h => h) (SteadyB.of_yields (Or.inl ⟨by rfl, ?_⟩)) ?_
  rotate_left
  · intro wq hSw
    go_simp
    (try with_reducible rfl)
  try simp only [List.getElem_toArray, List.getElem_cons_zero, List.getElem_cons_succ, Act.put, List.setIfInBounds_toArray, List.set_cons_zero, List.set_cons_succ]
  refine wpAnyE_take (i := 10) (v := ?_) (A9.stays w g3 g4 g5) (fun _ h => h) rfl (by kernel_rfl) (by kernel_rfl) (by kernel_rfl) (by kernel_rfl) (fun _ _ _ h => h) (SteadyB.of_yields (Or.inl ⟨by rfl, ?_⟩)) ?_
  rotate_left
  · intro wq hSw
    go_simp
    (try with_reducible rfl)
  try simp only [List.getElem_toArray, List.getElem_cons_zero, List.getElem_cons_succ, Act.put, List.setIfInBounds_toArray, List.set_cons_zero, List.set_cons_succ]
  refine wpAnyE_take (i := 11) (v := ?_) (A9.stays w g3 g4 g5) (fun _ h => h) rfl (by kernel_rfl) (by kernel_rfl) (by kernel_rfl) (by kernel_rfl) (fun _ _ _ h => h) (SteadyB.of_yields (Or.inl ⟨by rfl, ?_⟩)) ?_
  rotate_left
  · intro wq hSw
    obtain ⟨m0, m1, m2, m3, m4⟩ := Mu.at (Mu.mk 5 3 2 2) hSw.1.2.2
    obtain ⟨q0, q1, q2⟩ := P3.at (5, 0, 1) hSw.1.1
    obtain ⟨r0, r1, r2⟩ := P3.at (8, 0, 1) hSw.1.2.1
    have a0 := hSw.2.1.1.at0
    have a1 := hSw.2.1.1.at1
    have b0 := hSw.2.1.2.at0
    have b1 := hSw.2.1.2.at1
    dsimp only at m0 m1 m2 m3 m4 q0 q1 q2 r0 r1 r2
    go_simp
    (try with_reducible rfl)
  try simp only [List.getElem_toArray, List.getElem_cons_zero, List.getElem_cons_succ, Act.put, List.setIfInBounds_toArray, List.set_cons_zero, List.set_cons_succ]
  refine wpAnyE_take (i := 12) (v := wv 1) (A9.stays w g3 g4 g5) (fun _ h => h) rfl (by kernel_rfl) (by kernel_rfl) (by kernel_rfl) (by kernel_rfl) (fun _ _ _ h => h) (Or.inl ⟨by rfl, fun wq hSw => ?_⟩) ?_
  · refine RunB.of_calls (Wide.ofF (x := 1) (by decide) (by decide) wq) (by go_simp) ?_
    rintro e wr ⟨rfl, hb⟩
    exact ⟨rfl, hb⟩
  try simp only [List.getElem_toArray, List.getElem_cons_zero, List.getElem_cons_succ, Act.put, List.setIfInBounds_toArray, List.set_cons_zero, List.set_cons_succ]
  refine wpAnyE_take (i := 13) (v := ?_) (A9.stays w g3 g4 g5) (fun _ h => h) rfl (by kernel_rfl) (by kernel_rfl) (by kernel_rfl) (by kernel_rfl) (fun _ _ _ h => h) (SteadyB.of_yields (Or.inl ⟨by rfl, ?_⟩)) ?_
  rotate_left
  · intro wq hSw
    go_simp
    (try with_reducible rfl)
  try simp only [List.getElem_toArray, List.getElem_cons_zero, List.getElem_cons_succ, Act.put, List.setIfInBounds_toArray, List.set_cons_zero, List.set_cons_succ]
  refine wpAnyE_take (i := 14) (v := ?_) (A9.stays w g3 g4 g5) (fun _ h => h) rfl (by kernel_rfl) (by kernel_rfl) (by kernel_rfl) (by kernel_rfl) (fun _ _ _ h => h) (SteadyB.of_yields (Or.inl ⟨by rfl, ?_⟩)) ?_
  rotate_left
  · intro wq hSw
    go_simp
    (try with_reducible rfl)
  try simp only [List.getElem_toArray, List.getElem_cons_zero, List.getElem_cons_succ, Act.put, List.setIfInBounds_toArray, List.set_cons_zero, List.set_cons_succ]
  refine wpAnyE_take (i := 15) (v := ?_) (A9.stays w g3 g4 g5) (fun _ h => h) rfl (by kernel_rfl) (by kernel_rfl) (by kernel_rfl) (by kernel_rfl) (fun _ _ _ h => h) (SteadyB.of_yields (Or.inl ⟨by rfl, ?_⟩)) ?_
  rotate_left
  · intro wq hSw
    go_simp
    (try with_reducible rfl)
  try simp only [List.getElem_toArray, List.getElem_cons_zero, List.getElem_cons_succ, Act.put, List.setIfInBounds_toArray, List.set_cons_zero, List.set_cons_succ]
  refine wpAnyE_take (i := 16) (v := ?_) (A9.stays w g3 g4 g5) (fun _ h => h) rfl (by kernel_rfl) (by kernel_rfl) (by kernel_rfl) (by kernel_rfl) (fun _ _ _ h => h) (SteadyB.of_yields (Or.inl ⟨by rfl, ?_⟩)) ?_
  rotate_left
  · intro wq hSw
    obtain ⟨m0, m1, m2, m3, m4⟩ := Mu.at (Mu.mk 5 3 2 2) hSw.1.2.2
    obtain ⟨q0, q1, q2⟩ := P3.at (5, 0, 1) hSw.1.1
    obtain ⟨r0, r1, r2⟩ := P3.at (8, 0, 1) hSw.1.2.1
    have a0 := hSw.2.1.1.at0
    have a1 := hSw.2.1.1.at1
    have b0 := hSw.2.1.2.at0
    have b1 := hSw.2.1.2.at1
    dsimp only at m0 m1 m2 m3 m4 q0 q1 q2 r0 r1 r2
    go_simp
    (try with_reducible rfl)
  try simp only [List.getElem_toArray, List.getElem_cons_zero, List.getElem_cons_succ, Act.put, List.setIfInBounds_toArray, List.set_cons_zero, List.set_cons_succ]
  refine wpAnyE_take (i := 17) (v := wv (-2)) (A9.stays w g3 g4 g5) (fun _ h => h) rfl (by kernel_rfl) (by kernel_rfl) (by kernel_rfl) (by kernel_rfl) (fun _ _ _ h => h) (Or.inl ⟨by rfl, fun wq hSw => ?_⟩) ?_
  · refine RunB.of_calls (Wide.ofF (x := -2) (by decide) (by decide) wq) (by go_simp) ?_
    rintro e wr ⟨rfl, hb⟩
    exact ⟨rfl, hb⟩
  try simp only [List.getElem_toArray, List.getElem_cons_zero, List.getElem_cons_succ, Act.put, List.setIfInBounds_toArray, List.set_cons_zero, List.set_cons_succ]
  refine wpAnyE_take (i := 18) (v := ?_) (A9.stays w g3 g4 g5) (fun _ h => h) rfl (by kernel_rfl) (by kernel_rfl) (by kernel_rfl) (by kernel_rfl) (fun _ _ _ h => h) (SteadyB.of_yields (Or.inl ⟨by rfl, ?_⟩)) ?_
  rotate_left
  · intro wq hSw
    go_simp
    (try with_reducible rfl)
  try simp only [List.getElem_toArray, List.getElem_cons_zero, List.getElem_cons_succ, Act.put, List.setIfInBounds_toArray, List.set_cons_zero, List.set_cons_succ]
  refine wpAnyE_take (i := 19) (v := ?_) (A9.stays w g3 g4 g5) (fun _ h => h) rfl (by kernel_rfl) (by kernel_rfl) (by kernel_rfl) (by kernel_rfl) (fun _ _ _ h => h) (SteadyB.of_yields (Or.inl ⟨by rfl, ?_⟩)) ?_
  rotate_left
  · intro wq hSw
    go_simp
    (try with_reducible rfl)
  try simp only [List.getElem_toArray, List.getElem_cons_zero, List.getElem_cons_succ, Act.put, List.setIfInBounds_toArray, List.set_cons_zero, List.set_cons_succ]
  refine wpAnyE_take (i := 20) (v := ?_) (A9.stays w g3 g4 g5) (fun _ h => h) rfl (by kernel_rfl) (by kernel_rfl) (by kernel_rfl) (by kernel_rfl) (fun _ _ _ h => h) (SteadyB.of_yields (Or.inl ⟨by rfl, ?_⟩)) ?_
  rotate_left
  · intro wq hSw
    go_simp
    (try with_reducible rfl)
  try simp only [List.getElem_toArray, List.getElem_cons_zero, List.getElem_cons_succ, Act.put, List.setIfInBounds_toArray, List.set_cons_zero, List.set_cons_succ]
  refine wpAnyE_take (i := 21) (v := ?_) (A9.stays w g3 g4 g5) (fun _ h => h) rfl (by kernel_rfl) (by kernel_rfl) (by kernel_rfl) (by kernel_rfl) (fun _ _ _ h => h) (SteadyB.of_yields (Or.inl ⟨by rfl, ?_⟩)) ?_
  rotate_left
  · intro wq hSw
    obtain ⟨m0, m1, m2, m3, m4⟩ := Mu.at (Mu.mk 5 3 2 2) hSw.1.2.2
    obtain ⟨q0, q1, q2⟩ := P3.at (5, 0, 1) hSw.1.1
    obtain ⟨r0, r1, r2⟩ := P3.at (8, 0, 1) hSw.1.2.1
    have a0 := hSw.2.1.1.at0
    have a1 := hSw.2.1.1.at1
    have b0 := hSw.2.1.2.at0
    have b1 := hSw.2.1.2.at1
    dsimp only at m0 m1 m2 m3 m4 q0 q1 q2 r0 r1 r2
    go_simp
    (try with_reducible rfl)
  try simp only [List.getElem_toArray, List.getElem_cons_zero, List.getElem_cons_succ, Act.put, List.setIfInBounds_toArray, List.set_cons_zero, List.set_cons_succ]
  refine wpAnyE_take (i := 22) (v := ?_) (A9.stays w g3 g4 g5) (fun _ h => h) rfl (by kernel_rfl) (by kernel_rfl) (by kernel_rfl) (by kernel_rfl) (fun _ _ _ h => h) (SteadyB.of_yields (Or.inl ⟨by rfl, ?_⟩)) ?_
  rotate_left
  · intro wq hSw
    obtain ⟨m0, m1, m2, m3, m4⟩ := Mu.at (Mu.mk 5 3 2 2) hSw.1.2.2
    obtain ⟨q0, q1, q2⟩ := P3.at (5, 0, 1) hSw.1.1
    obtain ⟨r0, r1, r2⟩ := P3.at (8, 0, 1) hSw.1.2.1
    have a0 := hSw.2.1.1.at0
    have a1 := hSw.2.1.1.at1
    have b0 := hSw.2.1.2.at0
    have b1 := hSw.2.1.2.at1
    dsimp only at m0 m1 m2 m3 m4 q0 q1 q2 r0 r1 r2
    go_simp
    (try with_reducible rfl)
  try simp only [List.getElem_toArray, List.getElem_cons_zero, List.getElem_cons_succ, Act.put, List.setIfInBounds_toArray, List.set_cons_zero, List.set_cons_succ]
  refine wpAnyE_take (i := 23) (v := Value.bool true) (A9.stays w g3 g4 g5) (fun _ h => h) rfl (by kernel_rfl) (by kernel_rfl) (by kernel_rfl) (by kernel_rfl) (fun _ _ _ h => h) (Or.inl ⟨by rfl, fun wq hSw => ?_⟩) ?_
  · refine RunB.of_calls (ex9a wq) (by go_simp) ?_
    rintro e wr ⟨rfl, hb⟩
    exact ⟨rfl, hb⟩
  try simp only [List.getElem_toArray, List.getElem_cons_zero, List.getElem_cons_succ, Act.put, List.setIfInBounds_toArray, List.set_cons_zero, List.set_cons_succ]
  refine wpAnyE_take (i := 24) (v := ?_) (A9.stays w g3 g4 g5) (fun _ h => h) rfl (by kernel_rfl) (by kernel_rfl) (by kernel_rfl) (by kernel_rfl) (fun _ _ _ h => h) (SteadyB.of_yields (Or.inl ⟨by rfl, ?_⟩)) ?_
  rotate_left
  · intro wq hSw
    go_simp
    (try with_reducible rfl)
  try simp only [List.getElem_toArray, List.getElem_cons_zero, List.getElem_cons_succ, Act.put, List.setIfInBounds_toArray, List.set_cons_zero, List.set_cons_succ]
  refine wpAnyE_take (i := 25) (v := ?_) (A9.stays w g3 g4 g5) (fun _ h => h) rfl (by kernel_rfl) (by kernel_rfl) (by kernel_rfl) (by kernel_rfl) (fun _ _ _ h => h) (SteadyB.of_yields (Or.inl ⟨by rfl, ?_⟩)) ?_
  rotate_left
  · intro wq hSw
    go_simp
    (try with_reducible rfl)
  try simp only [List.getElem_toArray, List.getElem_cons_zero, List.getElem_cons_succ, Act.put, List.setIfInBounds_toArray, List.set_cons_zero, List.set_cons_succ]
  refine wpAnyE_take (i := 26) (v := ?_) (A9.stays w g3 g4 g5) (fun _ h => h) rfl (by kernel_rfl) (by kernel_rfl) (by kernel_rfl) (by kernel_rfl) (fun _ _ _ h => h) (SteadyB.of_yields (Or.inl ⟨by rfl, ?_⟩)) ?_
  rotate_left
  · intro wq hSw
    obtain ⟨m0, m1, m2, m3, m4⟩ := Mu.at (Mu.mk 5 3 2 2) hSw.1.2.2
    obtain ⟨q0, q1, q2⟩ := P3.at (5, 0, 1) hSw.1.1
    obtain ⟨r0, r1, r2⟩ := P3.at (8, 0, 1) hSw.1.2.1
    have a0 := hSw.2.1.1.at0
    have a1 := hSw.2.1.1.at1
    have b0 := hSw.2.1.2.at0
    have b1 := hSw.2.1.2.at1
    dsimp only at m0 m1 m2 m3 m4 q0 q1 q2 r0 r1 r2
    go_simp
    (try with_reducible rfl)
  try simp only [List.getElem_toArray, List.getElem_cons_zero, List.getElem_cons_succ, Act.put, List.setIfInBounds_toArray, List.set_cons_zero, List.set_cons_succ]
  refine wpAnyE_take (i := 27) (v := ?_) (A9.stays w g3 g4 g5) (fun _ h => h) rfl (by kernel_rfl) (by kernel_rfl) (by kernel_rfl) (by kernel_rfl) (fun _ _ _ h => h) (SteadyB.of_yields (Or.inl ⟨by rfl, ?_⟩)) ?_
  rotate_left
  · intro wq hSw
    obtain ⟨m0, m1, m2, m3, m4⟩ := Mu.at (Mu.mk 5 3 2 2) hSw.1.2.2
    obtain ⟨q0, q1, q2⟩ := P3.at (5, 0, 1) hSw.1.1
    obtain ⟨r0, r1, r2⟩ := P3.at (8, 0, 1) hSw.1.2.1
    have a0 := hSw.2.1.1.at0
    have a1 := hSw.2.1.1.at1
    have b0 := hSw.2.1.2.at0
    have b1 := hSw.2.1.2.at1
    dsimp only at m0 m1 m2 m3 m4 q0 q1 q2 r0 r1 r2
    go_simp
    (try with_reducible rfl)
  try simp only [List.getElem_toArray, List.getElem_cons_zero, List.getElem_cons_succ, Act.put, List.setIfInBounds_toArray, List.set_cons_zero, List.set_cons_succ]
  refine wpAnyE_take (i := 28) (v := Value.bool false) (A9.stays w g3 g4 g5) (fun _ h => h) rfl (by kernel_rfl) (by kernel_rfl) (by kernel_rfl) (by kernel_rfl) (fun _ _ _ h => h) (Or.inl ⟨by rfl, fun wq hSw => ?_⟩) ?_
  · refine RunB.of_calls (ex9b wq) (by go_simp) ?_
    rintro e wr ⟨rfl, hb⟩
    exact ⟨rfl, hb⟩
  try simp only [List.getElem_toArray, List.getElem_cons_zero, List.getElem_cons_succ, Act.put, List.setIfInBounds_toArray, List.set_cons_zero, List.set_cons_succ]
  refine wpAnyE_take (i := 29) (v := ?_) (A9.stays w g3 g4 g5) (fun _ h => h) rfl (by kernel_rfl) (by kernel_rfl) (by kernel_rfl) (by kernel_rfl) (fun _ _ _ h => h) (SteadyB.of_yields (Or.inl ⟨by rfl, ?_⟩)) ?_
  rotate_left
  · intro wq hSw
    go_simp
    (try with_reducible rfl)
  try simp only [List.getElem_toArray, List.getElem_cons_zero, List.getElem_cons_succ, Act.put, List.setIfInBounds_toArray, List.set_cons_zero, List.set_cons_succ]
  refine wpAnyE_take (i := 30) (v := ?_) (A9.stays w g3 g4 g5) (fun _ h => h) rfl (by kernel_rfl) (by kernel_rfl) (by kernel_rfl) (by kernel_rfl) (fun _ _ _ h => h) (SteadyB.of_yields (Or.inl ⟨by rfl, ?_⟩)) ?_
  rotate_left
  · intro wq hSw
    go_simp
    (try with_reducible rfl)
  try simp only [List.getElem_toArray, List.getElem_cons_zero, List.getElem_cons_succ, Act.put, List.setIfInBounds_toArray, List.set_cons_zero, List.set_cons_succ]
  refine wpAnyE_take (i := 31) (v := ?_) (A9.stays w g3 g4 g5) (fun _ h => h) rfl (by kernel_rfl) (by kernel_rfl) (by kernel_rfl) (by kernel_rfl) (fun _ _ _ h => h) (SteadyB.of_yields (Or.inl ⟨by rfl, ?_⟩)) ?_
  rotate_left
  · intro wq hSw
    go_simp
    (try with_reducible rfl)
  try simp only [List.getElem_toArray, List.getElem_cons_zero, List.getElem_cons_succ, Act.put, List.setIfInBounds_toArray, List.set_cons_zero, List.set_cons_succ]
  refine wpAnyE_done (by kernel_rfl) (fun wz hSz => ?_) _
  have HF := hid hSz.2.2
  clear hSz HA5
  go_wp2_with fail
  go_ret
  exact ⟨rfl, HF.out⟩
theorem Law9.Awake (w : World) (htab : Tab10 w.heap.size w) : Calls Tryz.prog 218 #[] w (Ans (.bool true) w) := by
  go_enter Tryz.func218, Tryz.ntmps218
  go_wp2_with (go_at_call 21; refine (Law9.awake _ htab).mono ?_; rintro e w' ⟨rfl, hb⟩)
  go_ret
  exact ⟨rfl, hb⟩
end

/- LagBases: the walk. -/
section
open Go.RowKit
theorem mem_take1 {l : List P3} {k : Nat} {C : P3 → Prop} (hk : k < l.length) (h : ∀ p ∈ l.take k, C p) (hx : C (l.getD k (0, 0, 0))) : ∀ p ∈ l.take (k + 1), C p := fun p hp => by
  have e : l.getD k (0, 0, 0) = l[k] := by simp [List.getD, hk]
  rw [List.take_succ_eq_append_getElem hk, ← e] at hp
  rcases List.mem_append.1 hp with h1 | h1
  · exact h p h1
  · simp at h1; subst h1; exact hx
end

/- LagReads: the walk. -/
section
open Go.RowKit
theorem lag_wr' (m : Mu) (p : P3) : WR (m.lag p).2 := by
  unfold Mu.lag
  split
  · rename_i h
    unfold Mu.ovOk at h
    simp only [Bool.and_eq_true, decide_eq_true_eq] at h
    have := right_w h.1.1.1.1 h.1.1.1.2
    exact div_wr (okW_iff.1 h.2) (by omega)
  · unfold WR; omega
end

/- LagOwed: the walk. -/
section
open Go.RowKit
theorem RdP.nil (w : World) : RdP w none 0 [] := ⟨rfl, fun i hi => absurd hi (by omega)⟩
end

/- LagNought: the walk. -/
section
open Go.RowKit
/-- The mean's variable, and the two sums'. -/
def NS (w0 : World) (gm ga gd : Nat) (m : Mu) (K : Nat) (s1 : Bool) (A1 : Option Addr) (n1 c1 : Nat) (u : Int) (s2 : Bool) (A2 : Option Addr) (n2 c2 : Nat) (v : Int) (w : World) : Prop :=
  (Cs w gm m.cells ∧ Var w ga s1 A1 n1 c1 ∧ Var w gd s2 A2 n2 c2) ∧ (IsB w K s1 A1 n1 c1 u ∧ IsB w K s2 A2 n2 c2 v) ∧ Below w0.heap.size w0 w
theorem NS.below {w0 : World} {gm ga gd : Nat} {m : Mu} {K : Nat} {s1 : Bool} {A1 : Option Addr} {n1 c1 : Nat} {u : Int} {s2 : Bool} {A2 : Option Addr} {n2 c2 : Nat} {v : Int} {w w' : World} (h : NS w0 gm ga gd m K s1 A1 n1 c1 u s2 A2 n2 c2 v w) (hb : Below w.heap.size w w') : NS w0 gm ga gd m K s1 A1 n1 c1 u s2 A2 n2 c2 v w' :=
  ⟨⟨h.1.1.below hb, h.1.2.1.below hb, h.1.2.2.below hb⟩, ⟨h.2.1.1.below hb, h.2.1.2.below hb⟩, below_on h.2.2 hb⟩
theorem NS.put {w0 : World} {gm ga gd : Nat} {m : Mu} {K K' : Nat} {s1 : Bool} {A1 : Option Addr} {n1 c1 : Nat} {u : Int} {s2 : Bool} {A2 : Option Addr} {n2 c2 : Nat} {v : Int} {w : World} (h : NS w0 gm ga gd m K s1 A1 n1 c1 u s2 A2 n2 c2 v w)
    (e1 : gm < ga) (e2 : ga < gd) (e3 : w0.heap.size ≤ gm) {s3 : Bool} {A3 : Option Addr} {n3 c3 : Nat} {u' : Int} {s4 : Bool} {A4 : Option Addr} {n4 c4 : Nat} {v' : Int} (h3 : IsB w K' s3 A3 n3 c3 u') (h4 : IsB w K' s4 A4 n4 c4 v') :
    ∀ W, W = (((w.setCell ⟨ga, 0, none⟩ (.bool s3)).setCell ⟨ga, 1, none⟩ (.slice A3 n3 c3)).setCell ⟨gd, 0, none⟩ (.bool s4)).setCell ⟨gd, 1, none⟩ (.slice A4 n4 c4) → NS w0 gm ga gd m K' s3 A3 n3 c3 u' s4 A4 n4 c4 v' W := by
  rintro W rfl
  have v1 := h.1.2.1.store s3 A3 n3 c3
  have v2 := h.1.2.2.far (b := ga) (by omega) 0 1 (.bool s3) (.slice A3 n3 c3)
  refine ⟨⟨?_, ?_, v2.store _ _ _ _⟩, ⟨?_, ?_⟩, ?_⟩
  · exact (((h.1.1.far (by omega) 0 _).far (by omega) 1 _).far (by omega) 0 _).far (by omega) 1 _
  · exact v1.far (b := gd) (by omega) 0 1 (.bool s4) (.slice A4 n4 c4)
  · exact (h3.storeV h.1.2.1 _ _ _ _).storeV v2 _ _ _ _
  · exact (h4.storeV h.1.2.1 _ _ _ _).storeV v2 _ _ _ _
  · exact (((h.2.2.setCell (show w0.heap.size ≤ ga by omega) _).setCell (show w0.heap.size ≤ ga by omega) _).setCell (show w0.heap.size ≤ gd by omega) _).setCell (show w0.heap.size ≤ gd by omega) _
theorem stays_true (_x : Unit) : Stays (fun _ : World => True) := fun _ _ _ _ => trivial
theorem cmp0_up {x : Int} (h : 0 ≤ x) : 0 ≤ cmpI x 0 := by unfold cmpI; split <;> (try split) <;> omega
theorem cmp0_upn {x : Int} (h : ¬ 0 ≤ x) : ¬ 0 ≤ cmpI x 0 := by unfold cmpI; split <;> (try split) <;> omega
theorem cmp0_dn {x : Int} (h : x ≤ 0) : cmpI x 0 ≤ 0 := by unfold cmpI; split <;> (try split) <;> omega
theorem cmp0_dnn {x : Int} (h : ¬ x ≤ 0) : ¬ cmpI x 0 ≤ 0 := by unfold cmpI; split <;> (try split) <;> omega
set_option maxRecDepth 100000 in
set_option maxHeartbeats 1000000 in
theorem Lno.away1 (t : Int) (A : Option Addr) (n c : Nat) (w : World) (hn : 32 < n) (htab : Tab10 w.heap.size w) :
    Calls Tryz.prog 4 #[.int .u64 t, .slice A n c] w (Ans (.bool true) w) := by
  have h2 : (32 : Int) < (n : Int) := by omega
  have HT := hid htab
  clear hn htab
  go_enter Tryz.func4, Tryz.ntmps4
  go_wp2_with fail
  refine (Law9.awake _ HT.out).mono ?_
  rintro e w1 ⟨rfl, hb1⟩
  go_wp2_with fail
  go_ret
  exact ⟨rfl, hb1⟩
set_option maxRecDepth 100000 in
set_option maxHeartbeats 1000000 in
theorem Lno.away2 (t : Int) (A : Option Addr) (c : Nat) (w : World) (htab : Tab10 w.heap.size w) :
    Calls Tryz.prog 4 #[.int .u64 t, .slice A 0 c] w (Ans (.bool true) w) := by
  have HT := hid htab
  clear htab
  go_enter Tryz.func4, Tryz.ntmps4
  go_wp2_with fail
  refine (Law9.awake _ HT.out).mono ?_
  rintro e w1 ⟨rfl, hb1⟩
  go_wp2_with fail
  go_ret
  exact ⟨rfl, hb1⟩
set_option maxRecDepth 100000 in
set_option maxHeartbeats 32000000 in
theorem Lno.core (t : Int) (ht : IsT t) (A : Option Addr) (n c : Nat) (l : List P3) (w : World) (hr : RdP w A n l) (hl : ∀ q ∈ l, PIn q) (h0 : 0 < n) (hn : n ≤ 32) (htab : Tab10 w.heap.size w) :
    Calls Tryz.prog 4 #[.int .u64 t, .slice A n c] w (Ans (.bool true) w) := by
  have HT := hid htab
  have HR := hid hr
  have HL := hid hl
  have HTT := hid ht
  have HLN := hid hr.1
  have h2 : ¬ (32 : Int) < (n : Int) := by omega
  have h3 : ((n : Int) == 0) = false := by rw [beq_eq_false_iff_ne]; omega
  clear hr hl ht htab
  go_enter Tryz.func4, Tryz.ntmps4
  go_wp2_with fail
  refine (Law9.awake _ HT.out).mono ?_
  rintro e w1 ⟨rfl, hb⟩
  have HB1 := hid hb
  clear hb HT
  go_wp2_with fail
  go_loopg [34] n (fun s i wr => ∃ k : Nat, i = .int .i64 k ∧ k ≤ n ∧ s = n - k ∧ (∀ p ∈ l.take k, NrP 1152921504606846976 t p) ∧ Below w.heap.size w wr)
  case atStart => exact ⟨0, rfl, Nat.zero_le _, by omega, (by simp), HB1.out⟩
  case round =>
    obtain ⟨k, rfl, hk, hs, hnr, hb⟩ := hrel
    have HS := hid hs
    have HNR := hid hnr
    have HB := hid hb
    clear hs hnr hb
    by_cases hkn : k < n
    · obtain ⟨bb, off, hA, _, hc⟩ := (HR.out.below HB.out).2 0 (by omega)
      obtain ⟨p0, p1, p2⟩ := hc k hkn
      have hkl : k < l.length := by have := HLN.out; omega
      have HX := hid (HL.out _ (getD_mem hkl))
      have HNK := hid (fun hx => mem_take1 (C := fun p => NrP 1152921504606846976 t p) hkl HNR.out hx)
      generalize l.getD k (0, 0, 0) = x at *
      subst hA
      have hki : (k : Int) < n := by omega
      clear hc hkl
      have HBa := hid (below_on HB.out ((Below.refl wr.heap.size wr).alloc (Nat.le_refl _) (.cells #[.int .u64 x.1, .int .u32 x.2.1, .int .u32 x.2.2] 29)))
      have HXc := hid (Cs.alloc_new6 wr 29 (pcells x))
      go_wp2_with fail
      refine (Vtime.since x.1 t _).mono ?_
      rintro e w2 ⟨rfl, hb⟩
      have HB2 := hid (below_on HBa.out hb)
      have HXd := hid ((show Cs (wr.alloc (.cells #[.int .u64 x.1, .int .u32 x.2.1, .int .u32 x.2.2] 29)) wr.heap.size (pcells x) from HXc.out).below hb)
      obtain ⟨q0, q1, q2⟩ := P3.at x HXd.out
      clear hb HBa HXc p0 p1 p2
      go_wp2_with fail
      refine (Pos.rightF x _).mono ?_
      rintro e w3 ⟨rfl, hb⟩
      have HB3 := hid (below_on HB2.out hb)
      clear hb HB2 HXd q0 q1 q2
      cases hpr : pR x with
      | false =>
        go_wp2_with fail
        go_ret
        exact ⟨rfl, HB3.out⟩
      | true =>
        have HPR := hid hpr
        clear hpr
        by_cases g1 : dif x.1 t ≤ -1152921504606846976
        · go_wp2_with fail
          go_ret
          exact ⟨rfl, HB3.out⟩
        · by_cases g2 : 1152921504606846976 ≤ dif x.1 t
          · go_wp2_with fail
            go_ret
            exact ⟨rfl, HB3.out⟩
          · have HN := hid (HNK.out ⟨⟨HPR.out, HX.out⟩, by omega, by omega⟩)
            go_wp2_with fail
            go_roundg (n - (k + 1))
            case measure => have := HS.out; omega
            case rel => exact ⟨k + 1, by go_num, by omega, rfl, HN.out, HB3.out⟩
    · obtain rfl : k = n := by omega
      have hki : ¬ (k : Int) < k := by omega
      have HNL : Hid (∀ p ∈ l, NrP 1152921504606846976 t p) := hid (by have := HNR.out; rwa [List.take_of_length_le (by have := HLN.out; omega)] at this)
      clear HNR HS
      have HOK : Hid (∀ p ∈ l, pR p = true ∧ PIn p) := hid (fun p hp => (HNL.out p hp).1)
      have h0k : 0 < k := h0
      have HLB : Hid (0 < l.length ∧ l.length ≤ 32) := hid (by have := HLN.out; omega)
      have E1 := hid (of_yes t HOK.out HLB.out.2)
      have HI1 := hid (sums_in HTT.out HOK.out HLB.out.2)
      have HEO := hid (fun (p : P3) (hp : p ∈ l) => each_ov (t := t) HOK.out HLB.out.1 HLB.out.2 hp)
      have HNT := hid (nought (t := t) HOK.out HLB.out.1)
      go_wp2_with fail
      refine (Mean.of t HTT.out A k c l _ (HR.out.below HB.out) HL.out (by omega)).mono ?_
      rw [E1.out]
      clear E1 HNL HOK
      generalize (Mu.sums t l) = m at *
      have HM := hid HI1.out
      clear HI1
      rintro e w2 ⟨rfl, hb⟩
      have HB2 := hid (below_on HB.out hb)
      clear hb HB
      have HS0 : Hid (NS w w2.heap.size (w2.heap.size + 1) (w2.heap.size + 1 + 1) m 90 false none 0 0 0 false none 0 0 0 (((w2.alloc (.cells #[.int .u64 m.b, .int .i64 (hiW m.a), .int .u64 (loW m.a), .int .u64 m.w, .int .i64 m.n] 36)).alloc (.cells #[.bool false, .slice none 0 0] 41)).alloc (.cells #[.bool false, .slice none 0 0] 41))) := hid (by
        have c1 := Cs.alloc_new6 w2 36 m.cells
        have v1 := Var.new (w2.alloc (.cells #[.int .u64 m.b, .int .i64 (hiW m.a), .int .u64 (loW m.a), .int .u64 m.w, .int .i64 m.n] 36)) 41 false none 0 0
        have v2 := Var.new ((w2.alloc (.cells #[.int .u64 m.b, .int .i64 (hiW m.a), .int .u64 (loW m.a), .int .u64 m.w, .int .i64 m.n] 36)).alloc (.cells #[.bool false, .slice none 0 0] 41)) 41 false none 0 0
        simp only [World.size_alloc] at v1 v2
        exact ⟨⟨(c1.alloc _).alloc _, v1.alloc _, v2⟩, ⟨IsB.zero _ _, IsB.zero _ _⟩, ((HB2.out.alloc HB2.out.size _).alloc (by have := HB2.out.size; simp; omega) _).alloc (by have := HB2.out.size; simp; omega) _⟩)
      have HG : Hid (w.heap.size ≤ w2.heap.size) := hid HB2.out.size
      go_wp2_with fail
      generalize (((w2.alloc (.cells #[.int .u64 m.b, .int .i64 (hiW m.a), .int .u64 (loW m.a), .int .u64 m.w, .int .i64 m.n] 36)).alloc (.cells #[.bool false, .slice none 0 0] 41)).alloc (.cells #[.bool false, .slice none 0 0] 41)) = W0 at HS0 ⊢
      generalize w2.heap.size = gm at HS0 HG ⊢
      have HGG : Hid (gm < (gm + 1) ∧ (gm + 1) < (gm + 1 + 1) ∧ w.heap.size ≤ gm) := hid (by have := HG.out; omega)
      clear HG HB2 hki
      go_loopg [12, 13, 62] k (fun s a b i wr => ∃ (j : Nat) (s1 : Bool) (A1 : Option Addr) (n1 c1 : Nat) (s2 : Bool) (A2 : Option Addr) (n2 c2 : Nat), a = .int .i64 (upN m (l.take j)) ∧ b = .int .i64 (dnN m (l.take j)) ∧ i = .int .i64 j ∧ j ≤ k ∧ s = k - j ∧ NS w gm (gm + 1) (gm + 1 + 1) m (90 + j) s1 A1 n1 c1 (sumO m (l.take j)) s2 A2 n2 c2 (sumL m (l.take j)) wr)
      case atStart => exact ⟨0, false, none, 0, 0, false, none, 0, 0, rfl, rfl, rfl, Nat.zero_le _, by omega, HS0.out⟩
      case round =>
        obtain ⟨j, s1, A1, n1, c1, s2, A2, n2, c2, rfl, rfl, rfl, hj, hs, hns⟩ := hrel
        have HS := hid hs
        have HN := hid hns
        clear hs hns HS0
        by_cases hjk : j < k
        · obtain ⟨bb, off, hA, _, hc⟩ := (HR.out.below HN.out.2.2).2 0 (by omega)
          obtain ⟨p0, p1, p2⟩ := hc j hjk
          have hjl : j < l.length := by have := HLN.out; omega
          have HX := hid (HL.out _ (getD_mem hjl))
          have HEx := hid (HEO.out _ (getD_mem hjl))
          have HUP := hid (upN_take (m := m) hjl)
          have HDN := hid (dnN_take (m := m) hjl)
          have HSO := hid (sumO_take (m := m) hjl)
          have HSL := hid (sumL_take (m := m) hjl)
          have hpu : upN m (l.take j) ≤ 1000 := by have := upN_le m (l.take j); rw [List.length_take] at this; omega
          have hpd : dnN m (l.take j) ≤ 1000 := by have := dnN_le m (l.take j); rw [List.length_take] at this; omega
          subst hA
          have hji : (j : Int) < k := by omega
          clear hc hjl
          generalize l.getD j (0, 0, 0) = x at *
          generalize upN m (l.take j) = pu at *
          generalize dnN m (l.take j) = pd at *
          generalize sumO m (l.take j) = u at *
          generalize sumL m (l.take j) = v at *
          obtain ⟨o, ho⟩ : ∃ o, m.ov x = o := ⟨_, rfl⟩
          obtain ⟨z, hz⟩ : ∃ z, o / m.w = z := ⟨_, rfl⟩
          rw [ho, hz] at HEx HSL
          rw [ho] at HUP HDN HSO
          have HOV := hid HEx.out.1
          have HLG := hid HEx.out.2
          have HSG : Hid (m.sign x = (true, cmpI o 0)) := hid (by unfold Mu.sign; rw [HOV.out])
          have HZ : Hid (WR z) := hid (by have := lag_wr' m x; rwa [HLG.out] at this)
          clear ho hz HEx
          have ha := (Below.refl wr.heap.size wr).alloc (Nat.le_refl _) (.cells #[.int .u64 x.1, .int .u32 x.2.1, .int .u32 x.2.2] 29)
          have HQ7 : Hid ((Cs (wr.alloc (.cells #[.int .u64 x.1, .int .u32 x.2.1, .int .u32 x.2.2] 29)) gm m.cells ∧ Cs (wr.alloc (.cells #[.int .u64 x.1, .int .u32 x.2.1, .int .u32 x.2.2] 29)) wr.heap.size (pcells x)) ∧ Below (wr.alloc (.cells #[.int .u64 x.1, .int .u32 x.2.1, .int .u32 x.2.2] 29)).heap.size (wr.alloc (.cells #[.int .u64 x.1, .int .u32 x.2.1, .int .u32 x.2.2] 29)) (wr.alloc (.cells #[.int .u64 x.1, .int .u32 x.2.1, .int .u32 x.2.2] 29))) := hid ⟨⟨HN.out.1.1.below ha, Cs.alloc_new6 wr 29 (pcells x)⟩, Below.refl _ _⟩
          have HGP : Hid (gm < (wr.alloc (.cells #[.int .u64 x.1, .int .u32 x.2.1, .int .u32 x.2.2] 29)).heap.size ∧ wr.heap.size < (wr.alloc (.cells #[.int .u64 x.1, .int .u32 x.2.1, .int .u32 x.2.2] 29)).heap.size) := hid ⟨by have := HN.out.1.1.lt; simp; omega, by simp⟩
          have HN1 := hid (HN.out.below ha)
          clear ha HN
          go_wp2_with fail
          clear p0 p1 p2
          generalize wr.alloc (.cells #[.int .u64 x.1, .int .u32 x.2.1, .int .u32 x.2.2] 29) = Wa at HQ7 HGP HN1 ⊢
          generalize wr.heap.size = gp at HQ7 HGP ⊢
          have hsT1 : Stays (fun wx => (Cs wx gm m.cells ∧ Cs wx gp (pcells x)) ∧ Below Wa.heap.size Wa wx) := fun _ _ h hb => ⟨⟨h.1.1.below hb, h.1.2.below hb⟩, below_on h.2 hb⟩
          refine wp_region_grow (S := fun wx => (Cs wx gm m.cells ∧ Cs wx gp (pcells x)) ∧ Below Wa.heap.size Wa wx) 11 (by kernel_rfl) (hsT1 _ _ (HQ7.out) (Below.refl _ _).drew) ?_
          refine wpAnyE_take (i := 0) (v := ?_) (hsT1) (fun _ h => h) rfl (by kernel_rfl) (by kernel_rfl) (by kernel_rfl) (by kernel_rfl) (fun _ _ _ h => h) (SteadyB.of_yields (Or.inl ⟨by rfl, ?_⟩)) ?_
          rotate_left
          · intro wq hSw
            obtain ⟨m0, m1, m2, m3, m4⟩ := Mu.at m hSw.1.1
            obtain ⟨q0, q1, q2⟩ := P3.at x hSw.1.2
            go_simp
            (try with_reducible rfl)
          try simp only [List.getElem_toArray, List.getElem_cons_zero, List.getElem_cons_succ, Act.put, List.setIfInBounds_toArray, List.set_cons_zero, List.set_cons_succ]
          refine wpAnyE_take (i := 2) (v := ?_) (hsT1) (fun _ h => h) rfl (by kernel_rfl) (by kernel_rfl) (by kernel_rfl) (by kernel_rfl) (fun _ _ _ h => h) (SteadyB.of_yields (Or.inl ⟨by rfl, ?_⟩)) ?_
          rotate_left
          · intro wq hSw
            obtain ⟨m0, m1, m2, m3, m4⟩ := Mu.at m hSw.1.1
            obtain ⟨q0, q1, q2⟩ := P3.at x hSw.1.2
            go_simp
            (try with_reducible rfl)
          try simp only [List.getElem_toArray, List.getElem_cons_zero, List.getElem_cons_succ, Act.put, List.setIfInBounds_toArray, List.set_cons_zero, List.set_cons_succ]
          refine wpF.fst (j := 8) (dst := some 16) (T := fun wx g => Var wx g false none 0 0 ∧ Wa.heap.size ≤ g) ?_
          refine wpF_call (k := 1) _ (fun x => rmV m x) (bqR 18 m.a) rfl rfl rfl (Or.inl (by kernel_rfl)) (by kernel_rfl) (by decide) (by decide) (by decide) (by kernel_rfl) (by intro cs b h; cases h) (by rfl) (fun _ => rfl) (hsT1) (fun _ h => h) (fun g => fun _ _ h hb => ⟨h.1.below hb, h.2⟩) (fun yq => bqR.stays 18 m.a yq) (fun aq wq hSw => ?_) (fun wq hSw => ?_) (fun yq => ?_)
          · (first | exact ⟨_, by go_simp; (try with_reducible rfl), (Below.refl _ _).alloc (Nat.le_refl _) _, Var.new _ _ _ _ _ _, hSw.2.size⟩ | exact ⟨_, by go_simp; (try with_reducible rfl), (Below.refl _ _).alloc (Nat.le_refl _) _, Var.new _ _ _ _ _ _, hSw.1.2.size⟩ | exact ⟨_, by go_simp; (try with_reducible rfl), (Below.refl _ _).alloc (Nat.le_refl _) _, Var.new _ _ _ _ _ _, hSw.1.1.2.size⟩ | exact ⟨_, by go_simp; (try with_reducible rfl), (Below.refl _ _).alloc (Nat.le_refl _) _, Var.new _ _ _ _ _ _, hSw.1.1.1.2.size⟩)
          · exact RunI.of_calls (Law8.of m HM.out wq) (by go_simp) (fun e w' h => h)
          obtain ⟨s5, A5, n5, c5⟩ := yq
          dsimp only [bqV, bqR]
          try simp only [List.getElem_toArray, List.getElem_cons_zero, List.getElem_cons_succ, Act.put, List.setIfInBounds_toArray, List.set_cons_zero, List.set_cons_succ]
          refine wpF_take (k := 3) (v := pv x) _ rfl rfl rfl (by decide) (Stays.and_ (hsT1) (bqR.stays 18 m.a (s5, A5, n5, c5))) (fun _ h => h.1) (fun g => fun _ _ h hb => ⟨h.1.below hb, h.2⟩) (by kernel_rfl) (by kernel_rfl) (by kernel_rfl) (by kernel_rfl) (by kernel_rfl) (by kernel_rfl) (by kernel_rfl) (by kernel_rfl) (by intro cs b h; cases h) (fun _ _ _ h => h) (Or.inl ⟨by rfl, fun wq hSw => ?_⟩) ?_
          · refine RunB.of_calls (Law4.of x.1 x.2.1 x.2.2 wq) (by go_simp) ?_
            rintro e wr ⟨rfl, hb⟩
            exact ⟨rfl, hb⟩
          try simp only [List.getElem_toArray, List.getElem_cons_zero, List.getElem_cons_succ, Act.put, List.setIfInBounds_toArray, List.set_cons_zero, List.set_cons_succ]
          refine wpF_call (k := 4) _ (fun x => .tuple #[bqV x, .bool true]) (bqR 84 o) rfl rfl rfl (Or.inl (by kernel_rfl)) (by kernel_rfl) (by decide) (by decide) (by decide) (by kernel_rfl) (by intro cs b h; cases h) (by rfl) (fun _ => rfl) (Stays.and_ (hsT1) (bqR.stays 18 m.a (s5, A5, n5, c5))) (fun _ h => h.1) (fun g => fun _ _ h hb => ⟨h.1.below hb, h.2⟩) (fun yq => bqR.stays 84 o yq) (fun aq wq hSw => ?_) (fun wq hSw => ?_) (fun yq => ?_)
          · (first | exact ⟨_, by go_simp; (try with_reducible rfl), (Below.refl _ _).alloc (Nat.le_refl _) _, Var.new _ _ _ _ _ _, hSw.2.size⟩ | exact ⟨_, by go_simp; (try with_reducible rfl), (Below.refl _ _).alloc (Nat.le_refl _) _, Var.new _ _ _ _ _ _, hSw.1.2.size⟩ | exact ⟨_, by go_simp; (try with_reducible rfl), (Below.refl _ _).alloc (Nat.le_refl _) _, Var.new _ _ _ _ _ _, hSw.1.1.2.size⟩ | exact ⟨_, by go_simp; (try with_reducible rfl), (Below.refl _ _).alloc (Nat.le_refl _) _, Var.new _ _ _ _ _ _, hSw.1.1.1.2.size⟩)
          · exact RunI.of_calls (Ref9.over m (s5, A5, n5, c5) x HM.out HX.out wq hSw.2) (by go_simp) (fun e w' h => by rw [HOV.out] at h; exact h)
          obtain ⟨s6, A6, n6, c6⟩ := yq
          dsimp only [bqV, bqR]
          try simp only [List.getElem_toArray, List.getElem_cons_zero, List.getElem_cons_succ, Act.put, List.setIfInBounds_toArray, List.set_cons_zero, List.set_cons_succ]
          refine wpF_take (k := 5) (v := ?_) _ rfl rfl rfl (by decide) (Stays.and_ (Stays.and_ (hsT1) (bqR.stays 18 m.a (s5, A5, n5, c5))) (bqR.stays 84 o (s6, A6, n6, c6))) (fun _ h => h.1.1) (fun g => fun _ _ h hb => ⟨h.1.below hb, h.2⟩) (by kernel_rfl) (by kernel_rfl) (by kernel_rfl) (by kernel_rfl) (by kernel_rfl) (by kernel_rfl) (by kernel_rfl) (by kernel_rfl) (by intro cs b h; cases h) (fun _ _ _ h => h) (SteadyB.of_yields (Or.inl ⟨by rfl, ?_⟩)) ?_
          rotate_left
          · intro wq hSw
            go_simp
            (try with_reducible rfl)
          try simp only [List.getElem_toArray, List.getElem_cons_zero, List.getElem_cons_succ, Act.put, List.setIfInBounds_toArray, List.set_cons_zero, List.set_cons_succ]
          refine wpF_take (k := 6) (v := ?_) _ rfl rfl rfl (by decide) (Stays.and_ (Stays.and_ (hsT1) (bqR.stays 18 m.a (s5, A5, n5, c5))) (bqR.stays 84 o (s6, A6, n6, c6))) (fun _ h => h.1.1) (fun g => fun _ _ h hb => ⟨h.1.below hb, h.2⟩) (by kernel_rfl) (by kernel_rfl) (by kernel_rfl) (by kernel_rfl) (by kernel_rfl) (by kernel_rfl) (by kernel_rfl) (by kernel_rfl) (by intro cs b h; cases h) (fun _ _ _ h => h) (SteadyB.of_yields (Or.inl ⟨by rfl, ?_⟩)) ?_
          rotate_left
          · intro wq hSw
            go_simp
            (try with_reducible rfl)
          try simp only [List.getElem_toArray, List.getElem_cons_zero, List.getElem_cons_succ, Act.put, List.setIfInBounds_toArray, List.set_cons_zero, List.set_cons_succ]
          refine wpF_take (k := 7) (v := ?_) _ rfl rfl rfl (by decide) (Stays.and_ (Stays.and_ (hsT1) (bqR.stays 18 m.a (s5, A5, n5, c5))) (bqR.stays 84 o (s6, A6, n6, c6))) (fun _ h => h.1.1) (fun g => fun _ _ h hb => ⟨h.1.below hb, h.2⟩) (by kernel_rfl) (by kernel_rfl) (by kernel_rfl) (by kernel_rfl) (by kernel_rfl) (by kernel_rfl) (by kernel_rfl) (by kernel_rfl) (by intro cs b h; cases h) (fun _ _ _ h => h) (SteadyB.of_yields (Or.inl ⟨by rfl, ?_⟩)) ?_
          rotate_left
          · intro wq hSw
            go_simp
            (try with_reducible rfl)
          try simp only [List.getElem_toArray, List.getElem_cons_zero, List.getElem_cons_succ, Act.put, List.setIfInBounds_toArray, List.set_cons_zero, List.set_cons_succ]
          refine wpF_done _ rfl rfl (by kernel_rfl) (by decide) (by rfl) (Stays.and_ (Stays.and_ (hsT1) (bqR.stays 18 m.a (s5, A5, n5, c5))) (bqR.stays 84 o (s6, A6, n6, c6))) (fun _ h => h.1.1) (fun g => fun _ _ h hb => ⟨h.1.below hb, h.2⟩) (fun wq hSw => ?_) (fun gA => ?_)
          · (first | exact ⟨_, by go_simp; (try with_reducible rfl), (Below.refl _ _).alloc (Nat.le_refl _) _, Var.new _ _ _ _ _ _, hSw.2.size⟩ | exact ⟨_, by go_simp; (try with_reducible rfl), (Below.refl _ _).alloc (Nat.le_refl _) _, Var.new _ _ _ _ _ _, hSw.1.2.size⟩ | exact ⟨_, by go_simp; (try with_reducible rfl), (Below.refl _ _).alloc (Nat.le_refl _) _, Var.new _ _ _ _ _ _, hSw.1.1.2.size⟩ | exact ⟨_, by go_simp; (try with_reducible rfl), (Below.refl _ _).alloc (Nat.le_refl _) _, Var.new _ _ _ _ _ _, hSw.1.1.1.2.size⟩)
          try simp only [List.getElem_toArray, List.getElem_cons_zero, List.getElem_cons_succ, Act.put, List.setIfInBounds_toArray, List.set_cons_zero, List.set_cons_succ]
          refine wpAnyE_store (i := 9) (fun wx => (fun wx => (Cs wx gm m.cells ∧ Cs wx gp (pcells x)) ∧ Below Wa.heap.size Wa wx) wx ∧ ((Var wx gA s6 A6 n6 c6 ∧ IsB wx 84 s6 A6 n6 c6 o) ∧ Wa.heap.size ≤ gA)) 41 [.bool s6, .slice A6 n6 c6] [.bool false, .slice none 0 0] gA infoBig (.tmp 16) (.tmp 72) rfl rfl (by kernel_rfl) (by decide) (by rfl) ?sv2a ?sv2b ?sv2c ?sv2d ?sv2e (fun _ h => h.2.1.cs) (fun _ h => ⟨⟨⟨h.1.1.1.1.1.fars (by have := HGP.out; have := h.2.2; omega) _ _, h.1.1.1.1.2.fars (by have := HGP.out; have := h.2.2; omega) _ _⟩, below_sets (by have := h.2.2; omega) _ _ h.1.1.1.2⟩, ⟨h.2.1.sets s6 A6 n6 c6, h.1.2.sets h.2.1.2.2.2.2 0 _⟩, h.2.2⟩) (fun _ h => h.1) ((fun _ _ h hb => ⟨⟨⟨h.1.1.1.below hb, h.1.1.2.below hb⟩, below_on h.1.2 hb⟩, ⟨h.2.1.1.below hb, h.2.1.2.below hb⟩, h.2.2⟩)) ?sv2f
          case sv2a => rfl
          case sv2b => rfl
          case sv2c => rfl
          case sv2d => rfl
          case sv2e => rfl
          try simp only [List.getElem_toArray, List.getElem_cons_zero, List.getElem_cons_succ, Act.put, List.setIfInBounds_toArray, List.set_cons_zero, List.set_cons_succ]
          refine wpAnyE_take (i := 10) (v := ?_) ((fun _ _ h hb => ⟨⟨⟨h.1.1.1.below hb, h.1.1.2.below hb⟩, below_on h.1.2 hb⟩, ⟨h.2.1.1.below hb, h.2.1.2.below hb⟩, h.2.2⟩)) (fun _ h => h.1) rfl (by kernel_rfl) (by kernel_rfl) (by kernel_rfl) (by kernel_rfl) (fun _ _ _ h => h) (SteadyB.of_yields (Or.inl ⟨by rfl, ?_⟩)) ?_
          rotate_left
          · intro wq hSw
            go_simp
            (try with_reducible rfl)
          try simp only [List.getElem_toArray, List.getElem_cons_zero, List.getElem_cons_succ, Act.put, List.setIfInBounds_toArray, List.set_cons_zero, List.set_cons_succ]
          refine wpAnyE_done (by kernel_rfl) (fun wz hSz => ?_) _
          have HQ := hid hSz
          clear hSz HQ7
          generalize gA = go at HQ ⊢
          have HN2 := hid (HN1.out.below HQ.out.1.2)
          obtain ⟨m0, m1, m2, m3, m4⟩ := Mu.at m HQ.out.1.1.1
          obtain ⟨q0, q1, q2⟩ := P3.at x HQ.out.1.1.2
          go_wp2_with fail
          clear m0 m1 m2 m3 m4 q0 q1 q2 HN1
          refine (Lag.read m x HM.out HX.out _).mono ?_
          rw [HLG.out]
          rintro e w3 ⟨rfl, hb⟩
          have ha := (Below.refl w3.heap.size w3).alloc (Nat.le_refl _) (.cells #[.int .i64 (hiW z), .int .u64 (loW z)] 34)
          have HN3 := hid ((HN2.out.below hb).below ha)
          have HO3 := hid (And.intro ((HQ.out.2.1.1.below hb).below ha) ((HQ.out.2.1.2.below hb).below ha))
          have HP3 := hid ((HQ.out.1.1.2.below hb).below ha)
          have HC3 := hid (Cs.new2 w3 34 (.int .i64 (hiW z)) (.int .u64 (loW z)))
          clear hb ha HQ HN2
          obtain ⟨m0, m1, m2, m3, m4⟩ := Mu.at m HN3.out.1.1
          obtain ⟨q0, q1, q2⟩ := P3.at x HP3.out
          go_wp2_with fail
          clear m0 m1 m2 m3 m4 q0 q1 q2 HP3
          generalize w3.alloc (.cells #[.int .i64 (hiW z), .int .u64 (loW z)] 34) = W3 at HN3 HO3 HC3 ⊢
          generalize w3.heap.size = gz at HC3 ⊢
          refine (Lag.sign m x HM.out HX.out _).mono ?_
          rw [HSG.out]
          rintro e w4 ⟨rfl, hb⟩
          have HQ8 : Hid ((NS w gm (gm + 1) (gm + 1 + 1) m (90 + j) s1 A1 n1 c1 u s2 A2 n2 c2 v w4 ∧ (Var w4 go s6 A6 n6 c6 ∧ IsB w4 84 s6 A6 n6 c6 o)) ∧ Cs w4 gz [.int .i64 (hiW z), .int .u64 (loW z)]) := hid ⟨⟨HN3.out.below hb, HO3.out.1.below hb, HO3.out.2.below hb⟩, (show Cs W3 gz [.int .i64 (hiW z), .int .u64 (loW z)] from HC3.out).below hb⟩
          clear hb HN3 HO3 HC3
          go_wp2_with fail
          have hsT3 : Stays (fun wx => (NS w gm (gm + 1) (gm + 1 + 1) m (90 + j) s1 A1 n1 c1 u s2 A2 n2 c2 v wx ∧ (Var wx go s6 A6 n6 c6 ∧ IsB wx 84 s6 A6 n6 c6 o)) ∧ Cs wx gz [.int .i64 (hiW z), .int .u64 (loW z)]) := fun _ _ h hb => ⟨⟨h.1.1.below hb, h.1.2.1.below hb, h.1.2.2.below hb⟩, h.2.below hb⟩
          refine wp_region_grow (S := fun wx => (NS w gm (gm + 1) (gm + 1 + 1) m (90 + j) s1 A1 n1 c1 u s2 A2 n2 c2 v wx ∧ (Var wx go s6 A6 n6 c6 ∧ IsB wx 84 s6 A6 n6 c6 o)) ∧ Cs wx gz [.int .i64 (hiW z), .int .u64 (loW z)]) 7 (by kernel_rfl) (hsT3 _ _ (HQ8.out) (Below.refl _ _).drew) ?_
          refine wpAnyE_take (i := 0) (v := ?_) (hsT3) (fun _ h => h) rfl (by kernel_rfl) (by kernel_rfl) (by kernel_rfl) (by kernel_rfl) (fun _ _ _ h => h) (SteadyB.of_yields (Or.inl ⟨by rfl, ?_⟩)) ?_
          rotate_left
          · intro wq hSw
            obtain ⟨a0, a1, a2, a3, _⟩ := hSw.1.1.1.2.1
            have al := hSw.1.1.1.2.1.lt
            obtain ⟨b0, b1, b2, b3, _⟩ := hSw.1.1.1.2.2
            have bl := hSw.1.1.1.2.2.lt
            obtain ⟨d0, d1, d2, d3, _⟩ := hSw.1.2.1
            have dl := hSw.1.2.1.lt
            obtain ⟨z0, z1⟩ := hSw.2.two
            go_simp
            (try with_reducible rfl)
          try simp only [List.getElem_toArray, List.getElem_cons_zero, List.getElem_cons_succ, Act.put, List.setIfInBounds_toArray, List.set_cons_zero, List.set_cons_succ]
          refine wpAnyE_take (i := 1) (v := ?_) (hsT3) (fun _ h => h) rfl (by kernel_rfl) (by kernel_rfl) (by kernel_rfl) (by kernel_rfl) (fun _ _ _ h => h) (SteadyB.of_yields (Or.inl ⟨by rfl, ?_⟩)) ?_
          rotate_left
          · intro wq hSw
            obtain ⟨a0, a1, a2, a3, _⟩ := hSw.1.1.1.2.1
            have al := hSw.1.1.1.2.1.lt
            obtain ⟨b0, b1, b2, b3, _⟩ := hSw.1.1.1.2.2
            have bl := hSw.1.1.1.2.2.lt
            obtain ⟨d0, d1, d2, d3, _⟩ := hSw.1.2.1
            have dl := hSw.1.2.1.lt
            obtain ⟨z0, z1⟩ := hSw.2.two
            go_simp
            (try with_reducible rfl)
          try simp only [List.getElem_toArray, List.getElem_cons_zero, List.getElem_cons_succ, Act.put, List.setIfInBounds_toArray, List.set_cons_zero, List.set_cons_succ]
          refine wpAnyE_take (i := 3) (v := ?_) (hsT3) (fun _ h => h) rfl (by kernel_rfl) (by kernel_rfl) (by kernel_rfl) (by kernel_rfl) (fun _ _ _ h => h) (SteadyB.of_yields (Or.inl ⟨by rfl, ?_⟩)) ?_
          rotate_left
          · intro wq hSw
            obtain ⟨a0, a1, a2, a3, _⟩ := hSw.1.1.1.2.1
            have al := hSw.1.1.1.2.1.lt
            obtain ⟨b0, b1, b2, b3, _⟩ := hSw.1.1.1.2.2
            have bl := hSw.1.1.1.2.2.lt
            obtain ⟨d0, d1, d2, d3, _⟩ := hSw.1.2.1
            have dl := hSw.1.2.1.lt
            obtain ⟨z0, z1⟩ := hSw.2.two
            go_simp
            (try with_reducible rfl)
          try simp only [List.getElem_toArray, List.getElem_cons_zero, List.getElem_cons_succ, Act.put, List.setIfInBounds_toArray, List.set_cons_zero, List.set_cons_succ]
          refine wpAnyE_take (i := 4) (v := ?_) (hsT3) (fun _ h => h) rfl (by kernel_rfl) (by kernel_rfl) (by kernel_rfl) (by kernel_rfl) (fun _ _ _ h => h) (SteadyB.of_yields (Or.inl ⟨by rfl, ?_⟩)) ?_
          rotate_left
          · intro wq hSw
            obtain ⟨a0, a1, a2, a3, _⟩ := hSw.1.1.1.2.1
            have al := hSw.1.1.1.2.1.lt
            obtain ⟨b0, b1, b2, b3, _⟩ := hSw.1.1.1.2.2
            have bl := hSw.1.1.1.2.2.lt
            obtain ⟨d0, d1, d2, d3, _⟩ := hSw.1.2.1
            have dl := hSw.1.2.1.lt
            obtain ⟨z0, z1⟩ := hSw.2.two
            go_simp
            (try with_reducible rfl)
          try simp only [List.getElem_toArray, List.getElem_cons_zero, List.getElem_cons_succ, Act.put, List.setIfInBounds_toArray, List.set_cons_zero, List.set_cons_succ]
          refine wpAnyE_call (i := 2) (bqV) (bqR (90 + j + 1) (u + o)) rfl (by kernel_rfl) (by decide) (by rfl) (hsT3) (fun _ h => h) (fun yq => bqR.stays (90 + j + 1) (u + o) yq) (fun wq hSw => ?_) (fun yq => ?_)
          · exact RunI.big (Ref.add (90 + j) s1 s6 A1 A6 n1 c1 n6 c6 u o wq hSw.1.1.2.1.1 (hSw.1.2.2.mono (by omega)) (by omega)) (by go_simp)
          obtain ⟨s7, A7, n7, c7⟩ := yq
          dsimp only [bqV, bqR]
          try simp only [List.getElem_toArray, List.getElem_cons_zero, List.getElem_cons_succ, Act.put, List.setIfInBounds_toArray, List.set_cons_zero, List.set_cons_succ]
          refine wpAnyE_call (i := 5) (bqV) (bqR 18 z) rfl (by kernel_rfl) (by decide) (by rfl) (Stays.and_ (hsT3) (bqR.stays (90 + j + 1) (u + o) (s7, A7, n7, c7))) (fun _ h => h.1) (fun yq => bqR.stays 18 z yq) (fun wq hSw => ?_) (fun yq => ?_)
          · exact RunI.big (Law.of (hiW z) (loW z) z (isW_of HZ.out) wq) (by go_simp)
          obtain ⟨s8, A8, n8, c8⟩ := yq
          dsimp only [bqV, bqR]
          try simp only [List.getElem_toArray, List.getElem_cons_zero, List.getElem_cons_succ, Act.put, List.setIfInBounds_toArray, List.set_cons_zero, List.set_cons_succ]
          refine wpAnyE_call (i := 6) (bqV) (bqR (90 + j + 1) (v + z)) rfl (by kernel_rfl) (by decide) (by rfl) (Stays.and_ (Stays.and_ (hsT3) (bqR.stays (90 + j + 1) (u + o) (s7, A7, n7, c7))) (bqR.stays 18 z (s8, A8, n8, c8))) (fun _ h => h.1.1) (fun yq => bqR.stays (90 + j + 1) (v + z) yq) (fun wq hSw => ?_) (fun yq => ?_)
          · exact RunI.big (Ref.add (90 + j) s2 s8 A2 A8 n2 c2 n8 c8 v z wq hSw.1.1.1.1.2.1.2 (IsB.mono hSw.2 (by omega)) (by omega)) (by go_simp)
          obtain ⟨s9, A9, n9, c9⟩ := yq
          dsimp only [bqV, bqR]
          try simp only [List.getElem_toArray, List.getElem_cons_zero, List.getElem_cons_succ, Act.put, List.setIfInBounds_toArray, List.set_cons_zero, List.set_cons_succ]
          refine wpAnyE_rest (n := 7) rfl rfl (by kernel_rfl) (fun wz hSz => ?_)
          simp only [List.toList_toArray, List.drop_succ_cons, List.drop_zero]
          have HPUT := hid (hSz.1.1.1.1.1.put HGG.out.1 HGG.out.2.1 HGG.out.2.2 hSz.1.1.2 hSz.2)
          obtain ⟨a0, a1, a2, a3, _⟩ := hSz.1.1.1.1.1.1.2.1
          have al := hSz.1.1.1.1.1.1.2.1.lt
          obtain ⟨b0, b1, b2, b3, _⟩ := hSz.1.1.1.1.1.1.2.2
          have bl := hSz.1.1.1.1.1.1.2.2.lt
          have hne : gm + 1 ≠ gm + 1 + 1 := by omega
          have hne2 : gm + 1 + 1 ≠ gm + 1 := Ne.symm hne
          clear hSz HQ8
          by_cases k1 : 0 ≤ o
          · have f1 : 0 ≤ cmpI o 0 := cmp0_up k1
            by_cases k2 : o ≤ 0
            · have f2 : cmpI o 0 ≤ 0 := cmp0_dn k2
              go_wp2_with fail
              go_roundg (k - (j + 1))
              case measure => have := HS.out; omega
              case rel => exact ⟨j + 1, s7, A7, n7, c7, s9, A9, n9, c9, by rw [HUP.out, if_pos (by omega)]; go_num, by rw [HDN.out, if_pos (by omega)]; go_num, by go_num, by omega, rfl, by rw [HSO.out, HSL.out]; exact HPUT.out _ rfl⟩
            · have f2 : ¬ cmpI o 0 ≤ 0 := cmp0_dnn k2
              go_wp2_with fail
              go_roundg (k - (j + 1))
              case measure => have := HS.out; omega
              case rel => exact ⟨j + 1, s7, A7, n7, c7, s9, A9, n9, c9, by rw [HUP.out, if_pos (by omega)]; go_num, by rw [HDN.out, if_neg (by omega)]; go_num, by go_num, by omega, rfl, by rw [HSO.out, HSL.out]; exact HPUT.out _ rfl⟩
          · have f1 : ¬ 0 ≤ cmpI o 0 := cmp0_upn k1
            have k2 : o ≤ 0 := by omega
            have f2 : cmpI o 0 ≤ 0 := cmp0_dn k2
            go_wp2_with fail
            go_roundg (k - (j + 1))
            case measure => have := HS.out; omega
            case rel => exact ⟨j + 1, s7, A7, n7, c7, s9, A9, n9, c9, by rw [HUP.out, if_neg (by omega)]; go_num, by rw [HDN.out, if_pos (by omega)]; go_num, by go_num, by omega, rfl, by rw [HSO.out, HSL.out]; exact HPUT.out _ rfl⟩
        · obtain rfl : j = k := by omega
          have hji : ¬ (j : Int) < j := by omega
          have e : l.take j = l := List.take_of_length_le (by have := HLN.out; omega)
          have hn := HN.out
          rw [e] at hn
          simp only [e]
          rw [HNT.out.1] at hn
          have HQ9 := hid hn
          have hu : (0 : Int) < upN m l := by have := HNT.out.2.1; omega
          have hd : (0 : Int) < dnN m l := by have := HNT.out.2.2.1; omega
          have hu' := HNT.out.2.1
          have hd' := HNT.out.2.2.1
          have hwj : IntKind.i64.wrap (-(j : Int)) = -(j : Int) := by rw [IntKind.wrap_i64]; omega
          have hv : cmpI (sumL m l) 0 ≤ 0 := cmp0_dn HNT.out.2.2.2.1
          have hv2 : 0 < cmpI (sumL m l) (-(j : Int)) := by rw [cmpI_gt (by have := HNT.out.2.2.2.2; have := HLN.out; omega)]; decide
          clear hn e HN HNT
          generalize sumL m l = v at *
          generalize upN m l = pu at *
          generalize dnN m l = pd at *
          go_wp2_with fail
          have hsT4 : Stays (fun wx => NS w gm (gm + 1) (gm + 1 + 1) m (90 + j) s1 A1 n1 c1 0 s2 A2 n2 c2 v wx) := fun _ _ h hb => h.below hb
          refine wp_region_grow (S := fun wx => NS w gm (gm + 1) (gm + 1 + 1) m (90 + j) s1 A1 n1 c1 0 s2 A2 n2 c2 v wx) 29 (by kernel_rfl) (hsT4 _ _ (HQ9.out) (Below.refl _ _).drew) ?_
          refine wpAnyE_take (i := 0) (v := ?_) (hsT4) (fun _ h => h) rfl (by kernel_rfl) (by kernel_rfl) (by kernel_rfl) (by kernel_rfl) (fun _ _ _ h => h) (SteadyB.of_yields (Or.inl ⟨by rfl, ?_⟩)) ?_
          rotate_left
          · intro wq hSw
            go_simp
            (try with_reducible rfl)
          try simp only [List.getElem_toArray, List.getElem_cons_zero, List.getElem_cons_succ, Act.put, List.setIfInBounds_toArray, List.set_cons_zero, List.set_cons_succ]
          refine wpAnyE_take (i := 1) (v := ?_) (hsT4) (fun _ h => h) rfl (by kernel_rfl) (by kernel_rfl) (by kernel_rfl) (by kernel_rfl) (fun _ _ _ h => h) (SteadyB.of_yields (Or.inl ⟨by rfl, ?_⟩)) ?_
          rotate_left
          · intro wq hSw
            go_simp
            (try with_reducible rfl)
          try simp only [List.getElem_toArray, List.getElem_cons_zero, List.getElem_cons_succ, Act.put, List.setIfInBounds_toArray, List.set_cons_zero, List.set_cons_succ]
          refine wpAnyE_take (i := 2) (v := ?_) (hsT4) (fun _ h => h) rfl (by kernel_rfl) (by kernel_rfl) (by kernel_rfl) (by kernel_rfl) (fun _ _ _ h => h) (SteadyB.of_yields (Or.inl ⟨by rfl, ?_⟩)) ?_
          rotate_left
          · intro wq hSw
            obtain ⟨a0, a1, a2, a3, _⟩ := hSw.1.2.1
            have al := hSw.1.2.1.lt
            obtain ⟨b0, b1, b2, b3, _⟩ := hSw.1.2.2
            have bl := hSw.1.2.2.lt
            go_simp
            (try with_reducible rfl)
          try simp only [List.getElem_toArray, List.getElem_cons_zero, List.getElem_cons_succ, Act.put, List.setIfInBounds_toArray, List.set_cons_zero, List.set_cons_succ]
          refine wpAnyE_take (i := 3) (v := Value.int .i64 0) (hsT4) (fun _ h => h) rfl (by kernel_rfl) (by kernel_rfl) (by kernel_rfl) (by kernel_rfl) (fun _ _ _ h => h) (Or.inl ⟨by rfl, fun wq hSw => ?_⟩) ?_
          · refine RunB.of_calls (Ref.sign (90 + j) s1 A1 n1 c1 0 wq hSw.2.1.1) (by go_simp) ?_
            rintro e wr ⟨rfl, hb⟩
            exact ⟨rfl, hb⟩
          try simp only [List.getElem_toArray, List.getElem_cons_zero, List.getElem_cons_succ, Act.put, List.setIfInBounds_toArray, List.set_cons_zero, List.set_cons_succ]
          refine wpAnyE_take (i := 4) (v := ?_) (hsT4) (fun _ h => h) rfl (by kernel_rfl) (by kernel_rfl) (by kernel_rfl) (by kernel_rfl) (fun _ _ _ h => h) (SteadyB.of_yields (Or.inl ⟨by rfl, ?_⟩)) ?_
          rotate_left
          · intro wq hSw
            go_simp
            (try with_reducible rfl)
          try simp only [List.getElem_toArray, List.getElem_cons_zero, List.getElem_cons_succ, Act.put, List.setIfInBounds_toArray, List.set_cons_zero, List.set_cons_succ]
          refine wpAnyE_take (i := 5) (v := ?_) (hsT4) (fun _ h => h) rfl (by kernel_rfl) (by kernel_rfl) (by kernel_rfl) (by kernel_rfl) (fun _ _ _ h => h) (SteadyB.of_yields (Or.inl ⟨by rfl, ?_⟩)) ?_
          rotate_left
          · intro wq hSw
            go_simp
            (try with_reducible rfl)
          try simp only [List.getElem_toArray, List.getElem_cons_zero, List.getElem_cons_succ, Act.put, List.setIfInBounds_toArray, List.set_cons_zero, List.set_cons_succ]
          refine wpAnyE_take (i := 6) (v := ?_) (hsT4) (fun _ h => h) rfl (by kernel_rfl) (by kernel_rfl) (by kernel_rfl) (by kernel_rfl) (fun _ _ _ h => h) (SteadyB.of_yields (Or.inl ⟨by rfl, ?_⟩)) ?_
          rotate_left
          · intro wq hSw
            go_simp
            (try with_reducible rfl)
          try simp only [List.getElem_toArray, List.getElem_cons_zero, List.getElem_cons_succ, Act.put, List.setIfInBounds_toArray, List.set_cons_zero, List.set_cons_succ]
          refine wpAnyE_take (i := 7) (v := ?_) (hsT4) (fun _ h => h) rfl (by kernel_rfl) (by kernel_rfl) (by kernel_rfl) (by kernel_rfl) (fun _ _ _ h => h) (SteadyB.of_yields (Or.inl ⟨by rfl, ?_⟩)) ?_
          rotate_left
          · intro wq hSw
            go_simp
            (try with_reducible rfl)
          try simp only [List.getElem_toArray, List.getElem_cons_zero, List.getElem_cons_succ, Act.put, List.setIfInBounds_toArray, List.set_cons_zero, List.set_cons_succ]
          refine wpAnyE_take (i := 8) (v := ?_) (hsT4) (fun _ h => h) rfl (by kernel_rfl) (by kernel_rfl) (by kernel_rfl) (by kernel_rfl) (fun _ _ _ h => h) (SteadyB.of_yields (Or.inl ⟨by rfl, ?_⟩)) ?_
          rotate_left
          · intro wq hSw
            go_simp
            (try with_reducible rfl)
          try simp only [List.getElem_toArray, List.getElem_cons_zero, List.getElem_cons_succ, Act.put, List.setIfInBounds_toArray, List.set_cons_zero, List.set_cons_succ]
          refine wpAnyE_take (i := 9) (v := ?_) (hsT4) (fun _ h => h) rfl (by kernel_rfl) (by kernel_rfl) (by kernel_rfl) (by kernel_rfl) (fun _ _ _ h => h) (SteadyB.of_yields (Or.inl ⟨by rfl, ?_⟩)) ?_
          rotate_left
          · intro wq hSw
            go_simp
            (try with_reducible rfl)
          try simp only [List.getElem_toArray, List.getElem_cons_zero, List.getElem_cons_succ, Act.put, List.setIfInBounds_toArray, List.set_cons_zero, List.set_cons_succ]
          refine wpAnyE_take (i := 10) (v := ?_) (hsT4) (fun _ h => h) rfl (by kernel_rfl) (by kernel_rfl) (by kernel_rfl) (by kernel_rfl) (fun _ _ _ h => h) (SteadyB.of_yields (Or.inl ⟨by rfl, ?_⟩)) ?_
          rotate_left
          · intro wq hSw
            go_simp
            (try with_reducible rfl)
          try simp only [List.getElem_toArray, List.getElem_cons_zero, List.getElem_cons_succ, Act.put, List.setIfInBounds_toArray, List.set_cons_zero, List.set_cons_succ]
          refine wpAnyE_take (i := 11) (v := ?_) (hsT4) (fun _ h => h) rfl (by kernel_rfl) (by kernel_rfl) (by kernel_rfl) (by kernel_rfl) (fun _ _ _ h => h) (SteadyB.of_yields (Or.inl ⟨by rfl, ?_⟩)) ?_
          rotate_left
          · intro wq hSw
            go_simp
            (try with_reducible rfl)
          try simp only [List.getElem_toArray, List.getElem_cons_zero, List.getElem_cons_succ, Act.put, List.setIfInBounds_toArray, List.set_cons_zero, List.set_cons_succ]
          refine wpAnyE_take (i := 12) (v := ?_) (hsT4) (fun _ h => h) rfl (by kernel_rfl) (by kernel_rfl) (by kernel_rfl) (by kernel_rfl) (fun _ _ _ h => h) (SteadyB.of_yields (Or.inl ⟨by rfl, ?_⟩)) ?_
          rotate_left
          · intro wq hSw
            go_simp
            (try with_reducible rfl)
          try simp only [List.getElem_toArray, List.getElem_cons_zero, List.getElem_cons_succ, Act.put, List.setIfInBounds_toArray, List.set_cons_zero, List.set_cons_succ]
          refine wpAnyE_take (i := 13) (v := ?_) (hsT4) (fun _ h => h) rfl (by kernel_rfl) (by kernel_rfl) (by kernel_rfl) (by kernel_rfl) (fun _ _ _ h => h) (SteadyB.of_yields (Or.inl ⟨by rfl, ?_⟩)) ?_
          rotate_left
          · intro wq hSw
            go_simp
            (try with_reducible rfl)
          try simp only [List.getElem_toArray, List.getElem_cons_zero, List.getElem_cons_succ, Act.put, List.setIfInBounds_toArray, List.set_cons_zero, List.set_cons_succ]
          refine wpAnyE_take (i := 14) (v := ?_) (hsT4) (fun _ h => h) rfl (by kernel_rfl) (by kernel_rfl) (by kernel_rfl) (by kernel_rfl) (fun _ _ _ h => h) (SteadyB.of_yields (Or.inl ⟨by rfl, ?_⟩)) ?_
          rotate_left
          · intro wq hSw
            go_simp
            (try with_reducible rfl)
          try simp only [List.getElem_toArray, List.getElem_cons_zero, List.getElem_cons_succ, Act.put, List.setIfInBounds_toArray, List.set_cons_zero, List.set_cons_succ]
          refine wpAnyE_take (i := 15) (v := ?_) (hsT4) (fun _ h => h) rfl (by kernel_rfl) (by kernel_rfl) (by kernel_rfl) (by kernel_rfl) (fun _ _ _ h => h) (SteadyB.of_yields (Or.inl ⟨by rfl, ?_⟩)) ?_
          rotate_left
          · intro wq hSw
            obtain ⟨a0, a1, a2, a3, _⟩ := hSw.1.2.1
            have al := hSw.1.2.1.lt
            obtain ⟨b0, b1, b2, b3, _⟩ := hSw.1.2.2
            have bl := hSw.1.2.2.lt
            go_simp
            (try with_reducible rfl)
          try simp only [List.getElem_toArray, List.getElem_cons_zero, List.getElem_cons_succ, Act.put, List.setIfInBounds_toArray, List.set_cons_zero, List.set_cons_succ]
          refine wpAnyE_take (i := 16) (v := Value.int .i64 (cmpI v 0)) (hsT4) (fun _ h => h) rfl (by kernel_rfl) (by kernel_rfl) (by kernel_rfl) (by kernel_rfl) (fun _ _ _ h => h) (Or.inl ⟨by rfl, fun wq hSw => ?_⟩) ?_
          · refine RunB.of_calls (Ref.sign (90 + j) s2 A2 n2 c2 v wq hSw.2.1.2) (by go_simp) ?_
            rintro e wr ⟨rfl, hb⟩
            exact ⟨rfl, hb⟩
          try simp only [List.getElem_toArray, List.getElem_cons_zero, List.getElem_cons_succ, Act.put, List.setIfInBounds_toArray, List.set_cons_zero, List.set_cons_succ]
          refine wpAnyE_take (i := 17) (v := ?_) (hsT4) (fun _ h => h) rfl (by kernel_rfl) (by kernel_rfl) (by kernel_rfl) (by kernel_rfl) (fun _ _ _ h => h) (SteadyB.of_yields (Or.inl ⟨by rfl, ?_⟩)) ?_
          rotate_left
          · intro wq hSw
            go_simp
            (try with_reducible rfl)
          try simp only [List.getElem_toArray, List.getElem_cons_zero, List.getElem_cons_succ, Act.put, List.setIfInBounds_toArray, List.set_cons_zero, List.set_cons_succ]
          refine wpAnyE_take (i := 18) (v := ?_) (hsT4) (fun _ h => h) rfl (by kernel_rfl) (by kernel_rfl) (by kernel_rfl) (by kernel_rfl) (fun _ _ _ h => h) (SteadyB.of_yields (Or.inl ⟨by rfl, ?_⟩)) ?_
          rotate_left
          · intro wq hSw
            go_simp
            (try with_reducible rfl)
          try simp only [List.getElem_toArray, List.getElem_cons_zero, List.getElem_cons_succ, Act.put, List.setIfInBounds_toArray, List.set_cons_zero, List.set_cons_succ]
          refine wpAnyE_take (i := 19) (v := ?_) (hsT4) (fun _ h => h) rfl (by kernel_rfl) (by kernel_rfl) (by kernel_rfl) (by kernel_rfl) (fun _ _ _ h => h) (SteadyB.of_yields (Or.inl ⟨by rfl, ?_⟩)) ?_
          rotate_left
          · intro wq hSw
            go_simp
            (try with_reducible rfl)
          try simp only [List.getElem_toArray, List.getElem_cons_zero, List.getElem_cons_succ, Act.put, List.setIfInBounds_toArray, List.set_cons_zero, List.set_cons_succ]
          refine wpAnyE_take (i := 20) (v := ?_) (hsT4) (fun _ h => h) rfl (by kernel_rfl) (by kernel_rfl) (by kernel_rfl) (by kernel_rfl) (fun _ _ _ h => h) (SteadyB.of_yields (Or.inl ⟨by rfl, ?_⟩)) ?_
          rotate_left
          · intro wq hSw
            obtain ⟨a0, a1, a2, a3, _⟩ := hSw.1.2.1
            have al := hSw.1.2.1.lt
            obtain ⟨b0, b1, b2, b3, _⟩ := hSw.1.2.2
            have bl := hSw.1.2.2.lt
            go_simp
            (try with_reducible rfl)
          try simp only [List.getElem_toArray, List.getElem_cons_zero, List.getElem_cons_succ, Act.put, List.setIfInBounds_toArray, List.set_cons_zero, List.set_cons_succ]
          refine wpAnyE_take (i := 21) (v := ?_) (hsT4) (fun _ h => h) rfl (by kernel_rfl) (by kernel_rfl) (by kernel_rfl) (by kernel_rfl) (fun _ _ _ h => h) (SteadyB.of_yields (Or.inl ⟨by rfl, ?_⟩)) ?_
          rotate_left
          · intro wq hSw
            go_simp
            (try with_reducible rfl)
          try simp only [List.getElem_toArray, List.getElem_cons_zero, List.getElem_cons_succ, Act.put, List.setIfInBounds_toArray, List.set_cons_zero, List.set_cons_succ]
          refine wpAnyE_take (i := 22) (v := ?_) (hsT4) (fun _ h => h) rfl (by kernel_rfl) (by kernel_rfl) (by kernel_rfl) (by kernel_rfl) (fun _ _ _ h => h) (SteadyB.of_yields (Or.inl ⟨by rfl, ?_⟩)) ?_
          rotate_left
          · intro wq hSw
            go_simp
            (try with_reducible rfl)
          try simp only [List.getElem_toArray, List.getElem_cons_zero, List.getElem_cons_succ, Act.put, List.setIfInBounds_toArray, List.set_cons_zero, List.set_cons_succ]
          refine wpAnyE_take (i := 23) (v := ?_) (hsT4) (fun _ h => h) rfl (by kernel_rfl) (by kernel_rfl) (by kernel_rfl) (by kernel_rfl) (fun _ _ _ h => h) (SteadyB.of_yields (Or.inl ⟨by rfl, ?_⟩)) ?_
          rotate_left
          · intro wq hSw
            go_simp
            (try with_reducible rfl)
          try simp only [List.getElem_toArray, List.getElem_cons_zero, List.getElem_cons_succ, Act.put, List.setIfInBounds_toArray, List.set_cons_zero, List.set_cons_succ]
          refine wpAnyE_call (i := 24) (bqV) (bqR 5 (-(j : Int))) rfl (by kernel_rfl) (by decide) (by rfl) (hsT4) (fun _ h => h) (fun yq => bqR.stays 5 (-(j : Int)) yq) (fun wq hSw => ?_) (fun yq => ?_)
          · exact RunI.big (Ref.N (-(j : Int)) (by omega) (by omega) wq) (by go_simp)
          obtain ⟨s7, A7, n7, c7⟩ := yq
          dsimp only [bqV, bqR]
          try simp only [List.getElem_toArray, List.getElem_cons_zero, List.getElem_cons_succ, Act.put, List.setIfInBounds_toArray, List.set_cons_zero, List.set_cons_succ]
          refine wpAnyE_call (i := 25) (fun _ : Unit => Value.int .i64 (cmpI v (-(j : Int)))) (fun (_ : Unit) (_ : World) => True) rfl (by kernel_rfl) (by decide) (by rfl) (Stays.and_ (hsT4) (bqR.stays 5 (-(j : Int)) (s7, A7, n7, c7))) (fun _ h => h.1) (fun yq => stays_true yq) (fun wq hSw => ?_) (fun yq => ?_)
          · exact RunI.of_calls (Ref.cmp (90 + j) s2 s7 A2 A7 n2 c2 n7 c7 v (-(j : Int)) wq hSw.1.2.1.2 (IsB.mono hSw.2 (by omega)) (by omega)) (by go_simp) (fun e w' h => ⟨(), h.1, trivial, h.2⟩)
          obtain ⟨⟩ := yq
          skip
          try simp only [List.getElem_toArray, List.getElem_cons_zero, List.getElem_cons_succ, Act.put, List.setIfInBounds_toArray, List.set_cons_zero, List.set_cons_succ]
          refine wpAnyE_take (i := 26) (v := ?_) (Stays.and_ (Stays.and_ (hsT4) (bqR.stays 5 (-(j : Int)) (s7, A7, n7, c7))) (stays_true ())) (fun _ h => h.1.1) rfl (by kernel_rfl) (by kernel_rfl) (by kernel_rfl) (by kernel_rfl) (fun _ _ _ h => h) (SteadyB.of_yields (Or.inl ⟨by rfl, ?_⟩)) ?_
          rotate_left
          · intro wq hSw
            go_simp
            (try with_reducible rfl)
          try simp only [List.getElem_toArray, List.getElem_cons_zero, List.getElem_cons_succ, Act.put, List.setIfInBounds_toArray, List.set_cons_zero, List.set_cons_succ]
          refine wpAnyE_take (i := 27) (v := ?_) (Stays.and_ (Stays.and_ (hsT4) (bqR.stays 5 (-(j : Int)) (s7, A7, n7, c7))) (stays_true ())) (fun _ h => h.1.1) rfl (by kernel_rfl) (by kernel_rfl) (by kernel_rfl) (by kernel_rfl) (fun _ _ _ h => h) (SteadyB.of_yields (Or.inl ⟨by rfl, ?_⟩)) ?_
          rotate_left
          · intro wq hSw
            go_simp
            (try with_reducible rfl)
          try simp only [List.getElem_toArray, List.getElem_cons_zero, List.getElem_cons_succ, Act.put, List.setIfInBounds_toArray, List.set_cons_zero, List.set_cons_succ]
          refine wpAnyE_take (i := 28) (v := ?_) (Stays.and_ (Stays.and_ (hsT4) (bqR.stays 5 (-(j : Int)) (s7, A7, n7, c7))) (stays_true ())) (fun _ h => h.1.1) rfl (by kernel_rfl) (by kernel_rfl) (by kernel_rfl) (by kernel_rfl) (fun _ _ _ h => h) (SteadyB.of_yields (Or.inl ⟨by rfl, ?_⟩)) ?_
          rotate_left
          · intro wq hSw
            go_simp
            (try with_reducible rfl)
          try simp only [List.getElem_toArray, List.getElem_cons_zero, List.getElem_cons_succ, Act.put, List.setIfInBounds_toArray, List.set_cons_zero, List.set_cons_succ]
          refine wpAnyE_done (by kernel_rfl) (fun wz hSz => ?_) _
          have HQ10 := hid hSz
          clear hSz
          go_wp2_with fail
          go_ret
          exact ⟨rfl, HQ10.out.1.1.2.2⟩
theorem Lno.law (t : Int) (A : Option Addr) (n c : Nat) (l : List P3) (w : World) (w0 : (Lit.int .u64 t).wf = true) (h : RdP w A n l ∧ InP l ∧ n ≤ 9223372036854775807) (htab : Tab10 w.heap.size w) :
    Calls Tryz.prog 4 #[.int .u64 t, .slice A n c] w fun e w' => e = .returned (.bool true) ∧ Below w.heap.size w w' := by
  by_cases hn : 32 < n
  · exact Lno.away1 t A n c w hn htab
  · rcases Nat.eq_zero_or_pos n with h0 | h0
    · subst h0; exact Lno.away2 t A c w htab
    · exact Lno.core t (bounds_u64 w0) A n c l w h.1 (fun q hq => h.2.1 q hq) h0 (by omega) htab
end

end Go.Proofs.YtkddkllepbhnhaaGreatDoor
