/- Texts of LagMoves's proof, together. -/
import Derived.Test.YtoioeginfhkjjaaGreatDoorLagMovesZ33
import Derived.Test.YtoioeginfhkjjaaGreatDoorLagMovesZ37
import Derived.Test.YtoioeginfhkjjaaGreatDoorLagMovesZ22
import Derived.Test.YtoioeginfhkjjaaGreatDoorLagMovesZ44
import Derived.Test.YtoioeginfhkjjaaGreatDoorStr
import Derived.Test.YtoioeginfhkjjaaGreatDoorLagMovesZ15
namespace Go.Proofs.YtoioeginfhkjjaaGreatDoor
/- The chapter's example of layer 8, as the laws ask it. -/
section
open Go.RowKit

theorem Law7.Awake (w : World) : Calls Tryz.prog 58 #[] w (Ans (.bool true) w) := by
  go_enter Tryz.func58, Tryz.ntmps58
  go_wp2_with (go_at_call 91; refine (Law7.awake _).mono ?_; rintro e w' ⟨rfl, hb⟩)
  go_ret
  exact ⟨rfl, hb⟩

theorem ex8 : Mu.of 5 [(5, 0, 1), (8, 0, 1)] = (true, ⟨5, 3, 2, 2⟩) := by
  rw [of_yes 5 (l := [(5, 0, 1), (8, 0, 1)]) (fun p hp => by
    simp at hp
    rcases hp with rfl | rfl
    · exact ⟨by decide, ⟨by decide, by decide⟩, ⟨by decide, by decide⟩, by decide, by decide⟩
    · exact ⟨by decide, ⟨by decide, by decide⟩, ⟨by decide, by decide⟩, by decide, by decide⟩) (by decide)]
  rfl
theorem ex8f : Mu.fl ⟨5, 3, 2, 2⟩ = (true, 6) := by first | rfl | decide +kernel
theorem ex8t : txtOf 3 = [51] := by first | decide +kernel | (unfold txtOf; rw [if_neg (by decide)]; simp [Lib.decDigits])
theorem Tab10.at2 {w0 w : World} (h : Tab10 w0.heap.size w0) (hb : Below w0.heap.size w0 w) : Tab10 w.heap.size w := Tab10.of (h.on hb).here

set_option maxRecDepth 100000 in
set_option maxHeartbeats 4000000 in
theorem Law8.awake (w : World) (htab : Tab10 w.heap.size w) : Calls Tryz.prog 16 #[] w (Ans (.bool true) w) := by
  have HT := hid htab
  have HB0 := hid ((Below.refl w.heap.size w).alloc (Nat.le_refl _) (.cells #[.int .u64 5, .int .u32 0, .int .u32 1, .int .u64 8, .int .u32 0, .int .u32 1] 29))
  have HR := hid (RdP.new2 w 29 5 0 1 8 0 1)
  clear htab
  go_enter Tryz.func16, Tryz.ntmps16
  go_wp2_with fail

  generalize (w.alloc (.cells #[.int .u64 5, .int .u32 0, .int .u32 1, .int .u64 8, .int .u32 0, .int .u32 1] 29)) = W0 at HB0 HR ⊢
  refine (Mean.of 5 ⟨by decide, by decide⟩ (some ⟨w.heap.size, 0, none⟩) 2 2 [(5, 0, 1), (8, 0, 1)] _ HR.out (fun p hp => by
    simp at hp
    rcases hp with rfl | rfl
    · exact ⟨⟨by decide, by decide⟩, ⟨by decide, by decide⟩, by decide, by decide⟩
    · exact ⟨⟨by decide, by decide⟩, ⟨by decide, by decide⟩, by decide, by decide⟩) (by decide)).mono ?_
  rw [ex8]
  rintro e w1 ⟨rfl, hb⟩
  have ha := (Below.refl w1.heap.size w1).alloc (Nat.le_refl _) (.cells #[.int .u64 5, .int .i64 (hiW 3), .int .u64 (loW 3), .int .u64 2, .int .i64 2] 36)
  have HB1 := hid (below_on (below_on HB0.out hb) ha)
  have HC1 : Hid (Cs (w1.alloc (.cells #[.int .u64 5, .int .i64 (hiW 3), .int .u64 (loW 3), .int .u64 2, .int .i64 2] 36)) w1.heap.size (Mu.mk 5 3 2 2).cells) := hid (Cs.alloc_new6 w1 _ (Mu.mk 5 3 2 2).cells)
  clear hb ha HB0 HR
  go_wp2_with fail
  generalize (w1.alloc (.cells #[.int .u64 5, .int .i64 (hiW 3), .int .u64 (loW 3), .int .u64 2, .int .i64 2] 36)) = W1 at HB1 HC1 ⊢
  generalize w1.heap.size = g at HC1 ⊢
  refine (Mean.floor ⟨5, 3, 2, 2⟩ (by unfold Mu.In WR; refine ⟨⟨?_, ?_⟩, ⟨?_, ?_⟩, ⟨?_, ?_⟩, ?_, ?_⟩ <;> decide) _).mono ?_
  rw [ex8f]
  rintro e w2 ⟨rfl, hb⟩
  have HB2 := hid (below_on HB1.out hb)
  have HC2 := hid (HC1.out.below hb)
  clear hb HB1 HC1
  go_wp2_with fail
  refine (Law7.Awake _).mono ?_
  rintro e w3 ⟨rfl, hb⟩
  have HB3 := hid (below_on HB2.out hb)
  have HC3 := hid (HC2.out.below hb)
  clear hb HB2 HC2
  obtain ⟨m0, m1, m2, m3, m4⟩ := Mu.at _ HC3.out
  go_wp2_with fail
  refine (Wide.string (hiW 3) (loW 3) 3 (isW_of (by unfold WR; omega)) _ (HT.out.at2 HB3.out)).mono ?_
  rw [ex8t]
  rintro e w4 ⟨rfl, hb⟩
  have HB4 := hid (below_on HB3.out hb)
  have HC4 := hid (HC3.out.below hb)
  clear hb HB3 HC3 m0 m1 m2 m3 m4
  obtain ⟨m0, m1, m2, m3, m4⟩ := Mu.at _ HC4.out
  go_wp2_with fail
  go_ret
  exact ⟨rfl, HB4.out⟩
theorem Law8.Awake (w : World) (htab : Tab10 w.heap.size w) : Calls Tryz.prog 68 #[] w (Ans (.bool true) w) := by
  go_enter Tryz.func68, Tryz.ntmps68
  go_wp2_with (go_at_call 16; refine (Law8.awake _ htab).mono ?_; rintro e w' ⟨rfl, hb⟩)
  go_ret
  exact ⟨rfl, hb⟩
end

/- The chapter's example of layer 9, as the laws ask it. -/
section
open Go.RowKit

theorem ex9in : (Mu.mk 5 3 2 2).In := by unfold Mu.In WR; refine ⟨⟨?_, ?_⟩, ⟨?_, ?_⟩, ⟨?_, ?_⟩, ?_, ?_⟩ <;> decide
theorem ex9p : PIn (5, 0, 1) := ⟨⟨by decide, by decide⟩, ⟨by decide, by decide⟩, by decide, by decide⟩
theorem ex9q : PIn (8, 0, 1) := ⟨⟨by decide, by decide⟩, ⟨by decide, by decide⟩, by decide, by decide⟩
theorem ex9a (w : World) : Calls Tryz.prog 33 #[(Mu.mk 5 3 2 2).val, pv (5, 0, 1)] w (Ans (.bool true) w) := by
  have h := Lag.eligible (Mu.mk 5 3 2 2) (5, 0, 1) ex9in ex9p w
  rwa [show (Mu.mk 5 3 2 2).elig (5, 0, 1) = true by first | rfl | decide +kernel] at h
theorem ex9b (w : World) : Calls Tryz.prog 33 #[(Mu.mk 5 3 2 2).val, pv (8, 0, 1)] w (Ans (.bool false) w) := by
  have h := Lag.eligible (Mu.mk 5 3 2 2) (8, 0, 1) ex9in ex9q w
  rwa [show (Mu.mk 5 3 2 2).elig (8, 0, 1) = false by first | rfl | decide +kernel] at h
theorem ex9c (w : World) : Calls Tryz.prog 35 #[(Mu.mk 5 3 2 2).val, pv (5, 0, 1)] w (Ans (.tuple #[wv 1, .bool true]) w) := by
  have h := Lag.read (Mu.mk 5 3 2 2) (5, 0, 1) ex9in ex9p w
  rwa [show (Mu.mk 5 3 2 2).lag (5, 0, 1) = (true, 1) by first | rfl | decide +kernel] at h
theorem ex9d (w : World) : Calls Tryz.prog 35 #[(Mu.mk 5 3 2 2).val, pv (8, 0, 1)] w (Ans (.tuple #[wv (-2), .bool true]) w) := by
  have h := Lag.read (Mu.mk 5 3 2 2) (8, 0, 1) ex9in ex9q w
  rwa [show (Mu.mk 5 3 2 2).lag (8, 0, 1) = (true, -2) by first | rfl | decide +kernel] at h
/-- The example's variables. -/
def A9 (w : World) (g3 g4 g5 : Nat) (W : World) : Prop := (Cs W w.heap.size (pcells (5, 0, 1)) ∧ Cs W (w.heap.size + 1) (pcells (8, 0, 1)) ∧ Cs W g3 (Mu.mk 5 3 2 2).cells) ∧ (Cs W g4 [.int .i64 (hiW 1), .int .u64 (loW 1)] ∧ Cs W g5 [.int .i64 (hiW (-2)), .int .u64 (loW (-2))]) ∧ Below w.heap.size w W
theorem A9.below {w w1 w2 : World} {g3 g4 g5 : Nat} (h : A9 w g3 g4 g5 w1) (hb : Below w1.heap.size w1 w2) : A9 w g3 g4 g5 w2 := ⟨⟨h.1.1.below hb, h.1.2.1.below hb, h.1.2.2.below hb⟩, ⟨h.2.1.1.below hb, h.2.1.2.below hb⟩, below_on h.2.2 hb⟩
theorem A9.stays (w : World) (g3 g4 g5 : Nat) : Stays (A9 w g3 g4 g5) := fun _ _ h hb => h.below hb

set_option maxRecDepth 100000 in
set_option maxHeartbeats 8000000 in
theorem Law9.awake (w : World) (htab : Tab10 w.heap.size w) : Calls Tryz.prog 32 #[] w (Ans (.bool true) w) := by
  have HT := hid htab
  have HA0 : Hid ((Cs (((w.alloc (.cells #[.int .u64 5, .int .u32 0, .int .u32 1] 29)).alloc (.cells #[.int .u64 8, .int .u32 0, .int .u32 1] 29)).alloc (.cells #[.int .u64 5, .int .u32 0, .int .u32 1, .int .u64 8, .int .u32 0, .int .u32 1] 29)) w.heap.size (pcells (5, 0, 1)) ∧ Cs (((w.alloc (.cells #[.int .u64 5, .int .u32 0, .int .u32 1] 29)).alloc (.cells #[.int .u64 8, .int .u32 0, .int .u32 1] 29)).alloc (.cells #[.int .u64 5, .int .u32 0, .int .u32 1, .int .u64 8, .int .u32 0, .int .u32 1] 29)) (w.heap.size + 1) (pcells (8, 0, 1))) ∧ RdP (((w.alloc (.cells #[.int .u64 5, .int .u32 0, .int .u32 1] 29)).alloc (.cells #[.int .u64 8, .int .u32 0, .int .u32 1] 29)).alloc (.cells #[.int .u64 5, .int .u32 0, .int .u32 1, .int .u64 8, .int .u32 0, .int .u32 1] 29)) (some ⟨w.heap.size + 2, 0, none⟩) 2 [(5, 0, 1), (8, 0, 1)] ∧ Below w.heap.size w (((w.alloc (.cells #[.int .u64 5, .int .u32 0, .int .u32 1] 29)).alloc (.cells #[.int .u64 8, .int .u32 0, .int .u32 1] 29)).alloc (.cells #[.int .u64 5, .int .u32 0, .int .u32 1, .int .u64 8, .int .u32 0, .int .u32 1] 29))) := hid (by
    have h1 := Cs.alloc_new6 w 29 (pcells (5, 0, 1))
    have h2 := Cs.alloc_new6 (w.alloc (.cells #[.int .u64 5, .int .u32 0, .int .u32 1] 29)) 29 (pcells (8, 0, 1))
    have h3 := RdP.new2 ((w.alloc (.cells #[.int .u64 5, .int .u32 0, .int .u32 1] 29)).alloc (.cells #[.int .u64 8, .int .u32 0, .int .u32 1] 29)) 29 5 0 1 8 0 1
    simp only [World.size_alloc] at h2 h3
    exact ⟨⟨(h1.alloc _).alloc _, h2.alloc _⟩, h3, (((Below.refl w.heap.size w).alloc (Nat.le_refl _) _).alloc (by simp) _).alloc (by simp; omega) _⟩)
  clear htab
  go_enter Tryz.func32, Tryz.ntmps32
  go_wp2_with fail
  generalize (((w.alloc (.cells #[.int .u64 5, .int .u32 0, .int .u32 1] 29)).alloc (.cells #[.int .u64 8, .int .u32 0, .int .u32 1] 29)).alloc (.cells #[.int .u64 5, .int .u32 0, .int .u32 1, .int .u64 8, .int .u32 0, .int .u32 1] 29)) = W3 at HA0 ⊢
  refine (Mean.of 5 ⟨by decide, by decide⟩ (some ⟨w.heap.size + 2, 0, none⟩) 2 2 [(5, 0, 1), (8, 0, 1)] _ HA0.out.2.1 (fun p hp => by
    simp at hp
    rcases hp with rfl | rfl
    · exact ex9p
    · exact ex9q) (by decide)).mono ?_
  rw [ex8]
  rintro e w1 ⟨rfl, hb⟩
  have ha := (Below.refl w1.heap.size w1).alloc (Nat.le_refl _) (.cells #[.int .u64 5, .int .i64 (hiW 3), .int .u64 (loW 3), .int .u64 2, .int .i64 2] 36)
  have HA1 : Hid (((Cs (w1.alloc (.cells #[.int .u64 5, .int .i64 (hiW 3), .int .u64 (loW 3), .int .u64 2, .int .i64 2] 36)) w.heap.size (pcells (5, 0, 1)) ∧ Cs (w1.alloc (.cells #[.int .u64 5, .int .i64 (hiW 3), .int .u64 (loW 3), .int .u64 2, .int .i64 2] 36)) (w.heap.size + 1) (pcells (8, 0, 1))) ∧ Cs (w1.alloc (.cells #[.int .u64 5, .int .i64 (hiW 3), .int .u64 (loW 3), .int .u64 2, .int .i64 2] 36)) w1.heap.size (Mu.mk 5 3 2 2).cells) ∧ Below w.heap.size w (w1.alloc (.cells #[.int .u64 5, .int .i64 (hiW 3), .int .u64 (loW 3), .int .u64 2, .int .i64 2] 36))) := hid ⟨⟨⟨(HA0.out.1.1.below hb).below ha, (HA0.out.1.2.below hb).below ha⟩, Cs.alloc_new6 w1 _ (Mu.mk 5 3 2 2).cells⟩, below_on (below_on HA0.out.2.2 hb) ha⟩
  clear hb ha HA0
  obtain ⟨m0, m1, m2, m3, m4⟩ := Mu.at (Mu.mk 5 3 2 2) HA1.out.1.2
  obtain ⟨q0, q1, q2⟩ := P3.at (5, 0, 1) HA1.out.1.1.1
  dsimp only at m0 m1 m2 m3 m4 q0 q1 q2
  go_wp2_with fail
  clear m0 m1 m2 m3 m4 q0 q1 q2
  generalize w1.alloc (.cells #[.int .u64 5, .int .i64 (hiW 3), .int .u64 (loW 3), .int .u64 2, .int .i64 2] 36) = W4 at HA1 ⊢
  generalize w1.heap.size = g3 at HA1 ⊢
  refine (ex9c _).mono ?_
  rintro e w2 ⟨rfl, hb⟩
  have ha := (Below.refl w2.heap.size w2).alloc (Nat.le_refl _) (.cells #[.int .i64 (hiW 1), .int .u64 (loW 1)] 34)
  have HA2 : Hid (((Cs (w2.alloc (.cells #[.int .i64 (hiW 1), .int .u64 (loW 1)] 34)) w.heap.size (pcells (5, 0, 1)) ∧ Cs (w2.alloc (.cells #[.int .i64 (hiW 1), .int .u64 (loW 1)] 34)) (w.heap.size + 1) (pcells (8, 0, 1))) ∧ Cs (w2.alloc (.cells #[.int .i64 (hiW 1), .int .u64 (loW 1)] 34)) g3 (Mu.mk 5 3 2 2).cells) ∧ Cs (w2.alloc (.cells #[.int .i64 (hiW 1), .int .u64 (loW 1)] 34)) w2.heap.size [.int .i64 (hiW 1), .int .u64 (loW 1)] ∧ Below w.heap.size w (w2.alloc (.cells #[.int .i64 (hiW 1), .int .u64 (loW 1)] 34))) := hid ⟨⟨⟨(HA1.out.1.1.1.below hb).below ha, (HA1.out.1.1.2.below hb).below ha⟩, (HA1.out.1.2.below hb).below ha⟩, Cs.new2 w2 _ _ _, below_on (below_on HA1.out.2 hb) ha⟩
  clear hb ha HA1
  obtain ⟨m0, m1, m2, m3, m4⟩ := Mu.at (Mu.mk 5 3 2 2) HA2.out.1.2
  obtain ⟨q0, q1, q2⟩ := P3.at (8, 0, 1) HA2.out.1.1.2
  dsimp only at m0 m1 m2 m3 m4 q0 q1 q2
  go_wp2_with fail
  clear m0 m1 m2 m3 m4 q0 q1 q2
  generalize w2.alloc (.cells #[.int .i64 (hiW 1), .int .u64 (loW 1)] 34) = W5 at HA2 ⊢
  generalize w2.heap.size = g4 at HA2 ⊢
  refine (ex9d _).mono ?_
  rintro e w3 ⟨rfl, hb⟩
  have ha := (Below.refl w3.heap.size w3).alloc (Nat.le_refl _) (.cells #[.int .i64 (hiW (-2)), .int .u64 (loW (-2))] 34)
  have HA5 : Hid (A9 w g3 g4 w3.heap.size (w3.alloc (.cells #[.int .i64 (hiW (-2)), .int .u64 (loW (-2))] 34))) := hid ⟨⟨(HA2.out.1.1.1.below hb).below ha, (HA2.out.1.1.2.below hb).below ha, (HA2.out.1.2.below hb).below ha⟩, ⟨(HA2.out.2.1.below hb).below ha, Cs.new2 w3 _ _ _⟩, below_on (below_on HA2.out.2.2 hb) ha⟩
  clear hb ha HA2
  go_wp2_with fail
  generalize w3.alloc (.cells #[.int .i64 (hiW (-2)), .int .u64 (loW (-2))] 34) = W6 at HA5 ⊢
  generalize w3.heap.size = g5 at HA5 ⊢
  refine wp_region_grow (S := A9 w g3 g4 g5) 32 (by kernel_rfl) (HA5.out.below (Below.refl _ _).drew) ?_
  refine wpAnyE_take (i := 0) (v := Value.bool true) (A9.stays w g3 g4 g5) (fun _ h => h) rfl (by kernel_rfl) (by kernel_rfl) (by kernel_rfl) (by kernel_rfl) (fun _ _ _ h => h) (Or.inl ⟨by rfl, fun wq hSw => ?_⟩) ?_
  · refine RunB.of_calls (Law8.Awake wq (HT.out.at2 hSw.2.2)) (by go_simp) ?_
    rintro e wr ⟨rfl, hb⟩
    exact ⟨rfl, hb⟩
  try simp only [List.getElem_toArray, List.getElem_cons_zero, List.getElem_cons_succ, Act.put, List.setIfInBounds_toArray, List.set_cons_zero, List.set_cons_succ]
  refine wpAnyE_take (i := 1) (v := ?_) (A9.stays w g3 g4 g5) (fun _ h => h) rfl (by kernel_rfl) (by kernel_rfl) (by kernel_rfl) (by kernel_rfl) (fun _ _ _ h => h) (SteadyB.of_yields (Or.inl ⟨by rfl, ?_⟩)) ?_
  rotate_left
  · intro wq hSw
    go_simp
    (try with_reducible rfl)
  try simp only [List.getElem_toArray, List.getElem_cons_zero, List.getElem_cons_succ, Act.put, List.setIfInBounds_toArray, List.set_cons_zero, List.set_cons_succ]
  refine wpAnyE_take (i := 2) (v := ?_) (A9.stays w g3 g4 g5) (fun _ h => h) rfl (by kernel_rfl) (by kernel_rfl) (by kernel_rfl) (by kernel_rfl) (fun _ _ _ h => h) (SteadyB.of_yields (Or.inl ⟨by rfl, ?_⟩)) ?_
  rotate_left
  · intro wq hSw
    go_simp
    (try with_reducible rfl)
  try simp only [List.getElem_toArray, List.getElem_cons_zero, List.getElem_cons_succ, Act.put, List.setIfInBounds_toArray, List.set_cons_zero, List.set_cons_succ]
  refine wpAnyE_take (i := 3) (v := ?_) (A9.stays w g3 g4 g5) (fun _ h => h) rfl (by kernel_rfl) (by kernel_rfl) (by kernel_rfl) (by kernel_rfl) (fun _ _ _ h => h) (SteadyB.of_yields (Or.inl ⟨by rfl, ?_⟩)) ?_
  rotate_left
  · intro wq hSw
    go_simp
    (try with_reducible rfl)
  try simp only [List.getElem_toArray, List.getElem_cons_zero, List.getElem_cons_succ, Act.put, List.setIfInBounds_toArray, List.set_cons_zero, List.set_cons_succ]
  refine wpAnyE_take (i := 4) (v := ?_) (A9.stays w g3 g4 g5) (fun _ h => h) rfl (by kernel_rfl) (by kernel_rfl) (by kernel_rfl) (by kernel_rfl) (fun _ _ _ h => h) (SteadyB.of_yields (Or.inl ⟨by rfl, ?_⟩)) ?_
  rotate_left
  · intro wq hSw
    go_simp
    (try with_reducible rfl)
  try simp only [List.getElem_toArray, List.getElem_cons_zero, List.getElem_cons_succ, Act.put, List.setIfInBounds_toArray, List.set_cons_zero, List.set_cons_succ]
  refine wpAnyE_take (i := 5) (v := ?_) (A9.stays w g3 g4 g5) (fun _ h => h) rfl (by kernel_rfl) (by kernel_rfl) (by kernel_rfl) (by kernel_rfl) (fun _ _ _ h => h) (SteadyB.of_yields (Or.inl ⟨by rfl, ?_⟩)) ?_
  rotate_left
  · intro wq hSw
    go_simp
    (try with_reducible rfl)
  try simp only [List.getElem_toArray, List.getElem_cons_zero, List.getElem_cons_succ, Act.put, List.setIfInBounds_toArray, List.set_cons_zero, List.set_cons_succ]
  refine wpAnyE_take (i := 6) (v := ?_) (A9.stays w g3 g4 g5) (fun _ h => h) rfl (by kernel_rfl) (by kernel_rfl) (by kernel_rfl) (by kernel_rfl) (fun _ _ _ h => h) (SteadyB.of_yields (Or.inl ⟨by rfl, ?_⟩)) ?_
  rotate_left
  · intro wq hSw
    go_simp
    (try with_reducible rfl)
  try simp only [List.getElem_toArray, List.getElem_cons_zero, List.getElem_cons_succ, Act.put, List.setIfInBounds_toArray, List.set_cons_zero, List.set_cons_succ]
  refine wpAnyE_take (i := 7) (v := ?_) (A9.stays w g3 g4 g5) (fun _ h => h) rfl (by kernel_rfl) (by kernel_rfl) (by kernel_rfl) (by kernel_rfl) (fun _ _ _ h => h) (SteadyB.of_yields (Or.inl ⟨by rfl, ?_⟩)) ?_
  rotate_left
  · intro wq hSw
    go_simp
    (try with_reducible rfl)
  try simp only [List.getElem_toArray, List.getElem_cons_zero, List.getElem_cons_succ, Act.put, List.setIfInBounds_toArray, List.set_cons_zero, List.set_cons_succ]
  refine wpAnyE_take (i := 8) (v := ?_) (A9.stays w g3 g4 g5) (fun _ h => h) rfl (by kernel_rfl) (by kernel_rfl) (by kernel_rfl) (by kernel_rfl) (fun _ _ _ h => h) (SteadyB.of_yields (Or.inl ⟨by rfl, ?_⟩)) ?_
  rotate_left
  · intro wq hSw
    go_simp
    (try with_reducible rfl)
  try simp only [List.getElem_toArray, List.getElem_cons_zero, List.getElem_cons_succ, Act.put, List.setIfInBounds_toArray, List.set_cons_zero, List.set_cons_succ]
  refine wpAnyE_take (i := 9) (v := ?_) (A9.stays w g3 g4 g5) (fun _ h => h) rfl (by kernel_rfl) (by kernel_rfl) (by kernel_rfl) (by kernel_rfl) (fun _ _ _ h => h) (SteadyB.of_yields (Or.inl ⟨by rfl, ?_⟩)) ?_
  rotate_left
  · intro wq hSw
    go_simp
    (try with_reducible rfl)
  try simp only [List.getElem_toArray, List.getElem_cons_zero, List.getElem_cons_succ, Act.put, List.setIfInBounds_toArray, List.set_cons_zero, List.set_cons_succ]
  refine wpAnyE_take (i := 10) (v := ?_) (A9.stays w g3 g4 g5) (fun _ h => h) rfl (by kernel_rfl) (by kernel_rfl) (by kernel_rfl) (by kernel_rfl) (fun _ _ _ h => h) (SteadyB.of_yields (Or.inl ⟨by rfl, ?_⟩)) ?_
  rotate_left
  · intro wq hSw
    go_simp
    (try with_reducible rfl)
  try simp only [List.getElem_toArray, List.getElem_cons_zero, List.getElem_cons_succ, Act.put, List.setIfInBounds_toArray, List.set_cons_zero, List.set_cons_succ]
  refine wpAnyE_take (i := 11) (v := ?_) (A9.stays w g3 g4 g5) (fun _ h => h) rfl (by kernel_rfl) (by kernel_rfl) (by kernel_rfl) (by kernel_rfl) (fun _ _ _ h => h) (SteadyB.of_yields (Or.inl ⟨by rfl, ?_⟩)) ?_
  rotate_left
  · intro wq hSw
    obtain ⟨m0, m1, m2, m3, m4⟩ := Mu.at (Mu.mk 5 3 2 2) hSw.1.2.2
    obtain ⟨q0, q1, q2⟩ := P3.at (5, 0, 1) hSw.1.1
    obtain ⟨r0, r1, r2⟩ := P3.at (8, 0, 1) hSw.1.2.1
    have a0 := hSw.2.1.1.at0
    have a1 := hSw.2.1.1.at1
    have b0 := hSw.2.1.2.at0
    have b1 := hSw.2.1.2.at1
    dsimp only at m0 m1 m2 m3 m4 q0 q1 q2 r0 r1 r2
    go_simp
    (try with_reducible rfl)
  try simp only [List.getElem_toArray, List.getElem_cons_zero, List.getElem_cons_succ, Act.put, List.setIfInBounds_toArray, List.set_cons_zero, List.set_cons_succ]
  refine wpAnyE_take (i := 12) (v := wv 1) (A9.stays w g3 g4 g5) (fun _ h => h) rfl (by kernel_rfl) (by kernel_rfl) (by kernel_rfl) (by kernel_rfl) (fun _ _ _ h => h) (Or.inl ⟨by rfl, fun wq hSw => ?_⟩) ?_
  · refine RunB.of_calls (Wide.ofF (x := 1) (by decide) (by decide) wq) (by go_simp) ?_
    rintro e wr ⟨rfl, hb⟩
    exact ⟨rfl, hb⟩
  try simp only [List.getElem_toArray, List.getElem_cons_zero, List.getElem_cons_succ, Act.put, List.setIfInBounds_toArray, List.set_cons_zero, List.set_cons_succ]
  refine wpAnyE_take (i := 13) (v := ?_) (A9.stays w g3 g4 g5) (fun _ h => h) rfl (by kernel_rfl) (by kernel_rfl) (by kernel_rfl) (by kernel_rfl) (fun _ _ _ h => h) (SteadyB.of_yields (Or.inl ⟨by rfl, ?_⟩)) ?_
  rotate_left
  · intro wq hSw
    go_simp
    (try with_reducible rfl)
  try simp only [List.getElem_toArray, List.getElem_cons_zero, List.getElem_cons_succ, Act.put, List.setIfInBounds_toArray, List.set_cons_zero, List.set_cons_succ]
  refine wpAnyE_take (i := 14) (v := ?_) (A9.stays w g3 g4 g5) (fun _ h => h) rfl (by kernel_rfl) (by kernel_rfl) (by kernel_rfl) (by kernel_rfl) (fun _ _ _ h => h) (SteadyB.of_yields (Or.inl ⟨by rfl, ?_⟩)) ?_
  rotate_left
  · intro wq hSw
    go_simp
    (try with_reducible rfl)
  try simp only [List.getElem_toArray, List.getElem_cons_zero, List.getElem_cons_succ, Act.put, List.setIfInBounds_toArray, List.set_cons_zero, List.set_cons_succ]
  refine wpAnyE_take (i := 15) (v := ?_) (A9.stays w g3 g4 g5) (fun _ h => h) rfl (by kernel_rfl) (by kernel_rfl) (by kernel_rfl) (by kernel_rfl) (fun _ _ _ h => h) (SteadyB.of_yields (Or.inl ⟨by rfl, ?_⟩)) ?_
  rotate_left
  · intro wq hSw
    go_simp
    (try with_reducible rfl)
  try simp only [List.getElem_toArray, List.getElem_cons_zero, List.getElem_cons_succ, Act.put, List.setIfInBounds_toArray, List.set_cons_zero, List.set_cons_succ]
  refine wpAnyE_take (i := 16) (v := ?_) (A9.stays w g3 g4 g5) (fun _ h => h) rfl (by kernel_rfl) (by kernel_rfl) (by kernel_rfl) (by kernel_rfl) (fun _ _ _ h => h) (SteadyB.of_yields (Or.inl ⟨by rfl, ?_⟩)) ?_
  rotate_left
  · intro wq hSw
    obtain ⟨m0, m1, m2, m3, m4⟩ := Mu.at (Mu.mk 5 3 2 2) hSw.1.2.2
    obtain ⟨q0, q1, q2⟩ := P3.at (5, 0, 1) hSw.1.1
    obtain ⟨r0, r1, r2⟩ := P3.at (8, 0, 1) hSw.1.2.1
    have a0 := hSw.2.1.1.at0
    have a1 := hSw.2.1.1.at1
    have b0 := hSw.2.1.2.at0
    have b1 := hSw.2.1.2.at1
    dsimp only at m0 m1 m2 m3 m4 q0 q1 q2 r0 r1 r2
    go_simp
    (try with_reducible rfl)
  try simp only [List.getElem_toArray, List.getElem_cons_zero, List.getElem_cons_succ, Act.put, List.setIfInBounds_toArray, List.set_cons_zero, List.set_cons_succ]
  refine wpAnyE_take (i := 17) (v := wv (-2)) (A9.stays w g3 g4 g5) (fun _ h => h) rfl (by kernel_rfl) (by kernel_rfl) (by kernel_rfl) (by kernel_rfl) (fun _ _ _ h => h) (Or.inl ⟨by rfl, fun wq hSw => ?_⟩) ?_
  · refine RunB.of_calls (Wide.ofF (x := -2) (by decide) (by decide) wq) (by go_simp) ?_
    rintro e wr ⟨rfl, hb⟩
    exact ⟨rfl, hb⟩
  try simp only [List.getElem_toArray, List.getElem_cons_zero, List.getElem_cons_succ, Act.put, List.setIfInBounds_toArray, List.set_cons_zero, List.set_cons_succ]
  refine wpAnyE_take (i := 18) (v := ?_) (A9.stays w g3 g4 g5) (fun _ h => h) rfl (by kernel_rfl) (by kernel_rfl) (by kernel_rfl) (by kernel_rfl) (fun _ _ _ h => h) (SteadyB.of_yields (Or.inl ⟨by rfl, ?_⟩)) ?_
  rotate_left
  · intro wq hSw
    go_simp
    (try with_reducible rfl)
  try simp only [List.getElem_toArray, List.getElem_cons_zero, List.getElem_cons_succ, Act.put, List.setIfInBounds_toArray, List.set_cons_zero, List.set_cons_succ]
  refine wpAnyE_take (i := 19) (v := ?_) (A9.stays w g3 g4 g5) (fun _ h => h) rfl (by kernel_rfl) (by kernel_rfl) (by kernel_rfl) (by kernel_rfl) (fun _ _ _ h => h) (SteadyB.of_yields (Or.inl ⟨by rfl, ?_⟩)) ?_
  rotate_left
  · intro wq hSw
    go_simp
    (try with_reducible rfl)
  try simp only [List.getElem_toArray, List.getElem_cons_zero, List.getElem_cons_succ, Act.put, List.setIfInBounds_toArray, List.set_cons_zero, List.set_cons_succ]
  refine wpAnyE_take (i := 20) (v := ?_) (A9.stays w g3 g4 g5) (fun _ h => h) rfl (by kernel_rfl) (by kernel_rfl) (by kernel_rfl) (by kernel_rfl) (fun _ _ _ h => h) (SteadyB.of_yields (Or.inl ⟨by rfl, ?_⟩)) ?_
  rotate_left
  · intro wq hSw
    go_simp
    (try with_reducible rfl)
  try simp only [List.getElem_toArray, List.getElem_cons_zero, List.getElem_cons_succ, Act.put, List.setIfInBounds_toArray, List.set_cons_zero, List.set_cons_succ]
  refine wpAnyE_take (i := 21) (v := ?_) (A9.stays w g3 g4 g5) (fun _ h => h) rfl (by kernel_rfl) (by kernel_rfl) (by kernel_rfl) (by kernel_rfl) (fun _ _ _ h => h) (SteadyB.of_yields (Or.inl ⟨by rfl, ?_⟩)) ?_
  rotate_left
  · intro wq hSw
    obtain ⟨m0, m1, m2, m3, m4⟩ := Mu.at (Mu.mk 5 3 2 2) hSw.1.2.2
    obtain ⟨q0, q1, q2⟩ := P3.at (5, 0, 1) hSw.1.1
    obtain ⟨r0, r1, r2⟩ := P3.at (8, 0, 1) hSw.1.2.1
    have a0 := hSw.2.1.1.at0
    have a1 := hSw.2.1.1.at1
    have b0 := hSw.2.1.2.at0
    have b1 := hSw.2.1.2.at1
    dsimp only at m0 m1 m2 m3 m4 q0 q1 q2 r0 r1 r2
    go_simp
    (try with_reducible rfl)
  try simp only [List.getElem_toArray, List.getElem_cons_zero, List.getElem_cons_succ, Act.put, List.setIfInBounds_toArray, List.set_cons_zero, List.set_cons_succ]
  refine wpAnyE_take (i := 22) (v := ?_) (A9.stays w g3 g4 g5) (fun _ h => h) rfl (by kernel_rfl) (by kernel_rfl) (by kernel_rfl) (by kernel_rfl) (fun _ _ _ h => h) (SteadyB.of_yields (Or.inl ⟨by rfl, ?_⟩)) ?_
  rotate_left
  · intro wq hSw
    obtain ⟨m0, m1, m2, m3, m4⟩ := Mu.at (Mu.mk 5 3 2 2) hSw.1.2.2
    obtain ⟨q0, q1, q2⟩ := P3.at (5, 0, 1) hSw.1.1
    obtain ⟨r0, r1, r2⟩ := P3.at (8, 0, 1) hSw.1.2.1
    have a0 := hSw.2.1.1.at0
    have a1 := hSw.2.1.1.at1
    have b0 := hSw.2.1.2.at0
    have b1 := hSw.2.1.2.at1
    dsimp only at m0 m1 m2 m3 m4 q0 q1 q2 r0 r1 r2
    go_simp
    (try with_reducible rfl)
  try simp only [List.getElem_toArray, List.getElem_cons_zero, List.getElem_cons_succ, Act.put, List.setIfInBounds_toArray, List.set_cons_zero, List.set_cons_succ]
  refine wpAnyE_take (i := 23) (v := Value.bool true) (A9.stays w g3 g4 g5) (fun _ h => h) rfl (by kernel_rfl) (by kernel_rfl) (by kernel_rfl) (by kernel_rfl) (fun _ _ _ h => h) (Or.inl ⟨by rfl, fun wq hSw => ?_⟩) ?_
  · refine RunB.of_calls (ex9a wq) (by go_simp) ?_
    rintro e wr ⟨rfl, hb⟩
    exact ⟨rfl, hb⟩
  try simp only [List.getElem_toArray, List.getElem_cons_zero, List.getElem_cons_succ, Act.put, List.setIfInBounds_toArray, List.set_cons_zero, List.set_cons_succ]
  refine wpAnyE_take (i := 24) (v := ?_) (A9.stays w g3 g4 g5) (fun _ h => h) rfl (by kernel_rfl) (by kernel_rfl) (by kernel_rfl) (by kernel_rfl) (fun _ _ _ h => h) (SteadyB.of_yields (Or.inl ⟨by rfl, ?_⟩)) ?_
  rotate_left
  · intro wq hSw
    go_simp
    (try with_reducible rfl)
  try simp only [List.getElem_toArray, List.getElem_cons_zero, List.getElem_cons_succ, Act.put, List.setIfInBounds_toArray, List.set_cons_zero, List.set_cons_succ]
  refine wpAnyE_take (i := 25) (v := ?_) (A9.stays w g3 g4 g5) (fun _ h => h) rfl (by kernel_rfl) (by kernel_rfl) (by kernel_rfl) (by kernel_rfl) (fun _ _ _ h => h) (SteadyB.of_yields (Or.inl ⟨by rfl, ?_⟩)) ?_
  rotate_left
  · intro wq hSw
    go_simp
    (try with_reducible rfl)
  try simp only [List.getElem_toArray, List.getElem_cons_zero, List.getElem_cons_succ, Act.put, List.setIfInBounds_toArray, List.set_cons_zero, List.set_cons_succ]
  refine wpAnyE_take (i := 26) (v := ?_) (A9.stays w g3 g4 g5) (fun _ h => h) rfl (by kernel_rfl) (by kernel_rfl) (by kernel_rfl) (by kernel_rfl) (fun _ _ _ h => h) (SteadyB.of_yields (Or.inl ⟨by rfl, ?_⟩)) ?_
  rotate_left
  · intro wq hSw
    obtain ⟨m0, m1, m2, m3, m4⟩ := Mu.at (Mu.mk 5 3 2 2) hSw.1.2.2
    obtain ⟨q0, q1, q2⟩ := P3.at (5, 0, 1) hSw.1.1
    obtain ⟨r0, r1, r2⟩ := P3.at (8, 0, 1) hSw.1.2.1
    have a0 := hSw.2.1.1.at0
    have a1 := hSw.2.1.1.at1
    have b0 := hSw.2.1.2.at0
    have b1 := hSw.2.1.2.at1
    dsimp only at m0 m1 m2 m3 m4 q0 q1 q2 r0 r1 r2
    go_simp
    (try with_reducible rfl)
  try simp only [List.getElem_toArray, List.getElem_cons_zero, List.getElem_cons_succ, Act.put, List.setIfInBounds_toArray, List.set_cons_zero, List.set_cons_succ]
  refine wpAnyE_take (i := 27) (v := ?_) (A9.stays w g3 g4 g5) (fun _ h => h) rfl (by kernel_rfl) (by kernel_rfl) (by kernel_rfl) (by kernel_rfl) (fun _ _ _ h => h) (SteadyB.of_yields (Or.inl ⟨by rfl, ?_⟩)) ?_
  rotate_left
  · intro wq hSw
    obtain ⟨m0, m1, m2, m3, m4⟩ := Mu.at (Mu.mk 5 3 2 2) hSw.1.2.2
    obtain ⟨q0, q1, q2⟩ := P3.at (5, 0, 1) hSw.1.1
    obtain ⟨r0, r1, r2⟩ := P3.at (8, 0, 1) hSw.1.2.1
    have a0 := hSw.2.1.1.at0
    have a1 := hSw.2.1.1.at1
    have b0 := hSw.2.1.2.at0
    have b1 := hSw.2.1.2.at1
    dsimp only at m0 m1 m2 m3 m4 q0 q1 q2 r0 r1 r2
    go_simp
    (try with_reducible rfl)
  try simp only [List.getElem_toArray, List.getElem_cons_zero, List.getElem_cons_succ, Act.put, List.setIfInBounds_toArray, List.set_cons_zero, List.set_cons_succ]
  refine wpAnyE_take (i := 28) (v := Value.bool false) (A9.stays w g3 g4 g5) (fun _ h => h) rfl (by kernel_rfl) (by kernel_rfl) (by kernel_rfl) (by kernel_rfl) (fun _ _ _ h => h) (Or.inl ⟨by rfl, fun wq hSw => ?_⟩) ?_
  · refine RunB.of_calls (ex9b wq) (by go_simp) ?_
    rintro e wr ⟨rfl, hb⟩
    exact ⟨rfl, hb⟩
  try simp only [List.getElem_toArray, List.getElem_cons_zero, List.getElem_cons_succ, Act.put, List.setIfInBounds_toArray, List.set_cons_zero, List.set_cons_succ]
  refine wpAnyE_take (i := 29) (v := ?_) (A9.stays w g3 g4 g5) (fun _ h => h) rfl (by kernel_rfl) (by kernel_rfl) (by kernel_rfl) (by kernel_rfl) (fun _ _ _ h => h) (SteadyB.of_yields (Or.inl ⟨by rfl, ?_⟩)) ?_
  rotate_left
  · intro wq hSw
    go_simp
    (try with_reducible rfl)
  try simp only [List.getElem_toArray, List.getElem_cons_zero, List.getElem_cons_succ, Act.put, List.setIfInBounds_toArray, List.set_cons_zero, List.set_cons_succ]
  refine wpAnyE_take (i := 30) (v := ?_) (A9.stays w g3 g4 g5) (fun _ h => h) rfl (by kernel_rfl) (by kernel_rfl) (by kernel_rfl) (by kernel_rfl) (fun _ _ _ h => h) (SteadyB.of_yields (Or.inl ⟨by rfl, ?_⟩)) ?_
  rotate_left
  · intro wq hSw
    go_simp
    (try with_reducible rfl)
  try simp only [List.getElem_toArray, List.getElem_cons_zero, List.getElem_cons_succ, Act.put, List.setIfInBounds_toArray, List.set_cons_zero, List.set_cons_succ]
  refine wpAnyE_take (i := 31) (v := ?_) (A9.stays w g3 g4 g5) (fun _ h => h) rfl (by kernel_rfl) (by kernel_rfl) (by kernel_rfl) (by kernel_rfl) (fun _ _ _ h => h) (SteadyB.of_yields (Or.inl ⟨by rfl, ?_⟩)) ?_
  rotate_left
  · intro wq hSw
    go_simp
    (try with_reducible rfl)
  try simp only [List.getElem_toArray, List.getElem_cons_zero, List.getElem_cons_succ, Act.put, List.setIfInBounds_toArray, List.set_cons_zero, List.set_cons_succ]
  refine wpAnyE_done (by kernel_rfl) (fun wz hSz => ?_) _
  have HF := hid hSz.2.2
  clear hSz HA5
  go_wp2_with fail
  go_ret
  exact ⟨rfl, HF.out⟩
theorem Law9.Awake (w : World) (htab : Tab10 w.heap.size w) : Calls Tryz.prog 88 #[] w (Ans (.bool true) w) := by
  go_enter Tryz.func88, Tryz.ntmps88
  go_wp2_with (go_at_call 32; refine (Law9.awake _ htab).mono ?_; rintro e w' ⟨rfl, hb⟩)
  go_ret
  exact ⟨rfl, hb⟩
end

/- LagBases: the walk. -/
section
open Go.RowKit

theorem mem_take1 {l : List P3} {k : Nat} {C : P3 → Prop} (hk : k < l.length) (h : ∀ p ∈ l.take k, C p) (hx : C (l.getD k (0, 0, 0))) : ∀ p ∈ l.take (k + 1), C p := fun p hp => by
  have e : l.getD k (0, 0, 0) = l[k] := by simp [List.getD, hk]
  rw [List.take_succ_eq_append_getElem hk, ← e] at hp
  rcases List.mem_append.1 hp with h1 | h1
  · exact h p h1
  · simp at h1; subst h1; exact hx

set_option maxHeartbeats 1000000 in
theorem Lbas.away1 (t b : Int) (A : Option Addr) (n c : Nat) (w : World) (hn : 32 < n) (htab : Tab10 w.heap.size w) :
    Calls Tryz.prog 10 #[.int .u64 t, .slice A n c, .int .i64 b] w (Ans (.bool true) w) := by
  have HT := hid htab
  have h2 : (32 : Int) < (n : Int) := by omega
  clear hn
  clear htab
  go_enter Tryz.func10, Tryz.ntmps10
  go_wp2_with fail
  refine (Law9.awake _ HT.out).mono ?_
  rintro e w1 ⟨rfl, hb1⟩
  go_wp2_with fail
  go_ret
  exact ⟨rfl, hb1⟩

set_option maxHeartbeats 1000000 in
theorem Lbas.away3 (t b : Int) (A : Option Addr) (n c : Nat) (w : World) (hn : n ≤ 32) (hb : b ≤ -1152921504606846976) (htab : Tab10 w.heap.size w) :
    Calls Tryz.prog 10 #[.int .u64 t, .slice A n c, .int .i64 b] w (Ans (.bool true) w) := by
  have HT := hid htab
  have h2 : ¬ (32 : Int) < (n : Int) := by omega
  clear hn
  clear htab
  go_enter Tryz.func10, Tryz.ntmps10
  go_wp2_with fail
  refine (Law9.awake _ HT.out).mono ?_
  rintro e w1 ⟨rfl, hb1⟩
  go_wp2_with fail
  go_ret
  exact ⟨rfl, hb1⟩

set_option maxHeartbeats 1000000 in
theorem Lbas.away4 (t b : Int) (A : Option Addr) (n c : Nat) (w : World) (hn : n ≤ 32) (hb0 : ¬ b ≤ -1152921504606846976) (hb : 1152921504606846976 ≤ b) (htab : Tab10 w.heap.size w) :
    Calls Tryz.prog 10 #[.int .u64 t, .slice A n c, .int .i64 b] w (Ans (.bool true) w) := by
  have HT := hid htab
  have h2 : ¬ (32 : Int) < (n : Int) := by omega
  clear hn
  clear htab
  go_enter Tryz.func10, Tryz.ntmps10
  go_wp2_with fail
  refine (Law9.awake _ HT.out).mono ?_
  rintro e w1 ⟨rfl, hb1⟩
  go_wp2_with fail
  go_ret
  exact ⟨rfl, hb1⟩

set_option maxRecDepth 100000 in
set_option maxHeartbeats 16000000 in
theorem Lbas.core (t b : Int) (ht : IsT t) (A : Option Addr) (n c : Nat) (l : List P3) (w : World) (hr : RdP w A n l) (hl : ∀ q ∈ l, PIn q) (hn : n ≤ 32) (b0 : -1152921504606846976 < b) (b1 : b < 1152921504606846976) (htab : Tab10 w.heap.size w) :
    Calls Tryz.prog 10 #[.int .u64 t, .slice A n c, .int .i64 b] w (Ans (.bool true) w) := by
  have HT := hid htab
  have HR := hid hr
  have HL := hid hl
  have HBB := hid (And.intro b0 b1)
  have HTT := hid ht
  have HLN := hid hr.1
  have h2 : ¬ (32 : Int) < (n : Int) := by omega
  have h4 : ¬ b ≤ -1152921504606846976 := by omega
  have h5 : ¬ 1152921504606846976 ≤ b := by omega
  clear hr hl htab b0 b1 ht
  go_enter Tryz.func10, Tryz.ntmps10
  go_wp2_with fail
  refine (Law9.awake _ HT.out).mono ?_
  rintro e w1 ⟨rfl, hb⟩
  have HB1 := hid hb
  clear hb HT
  go_wp2_with fail
  go_loopg [35] n (fun s i wr => ∃ k : Nat, i = .int .i64 k ∧ k ≤ n ∧ s = n - k ∧ (∀ p ∈ l.take k, NrP 1152921504606846976 t p) ∧ Below w.heap.size w wr)
  case atStart => exact ⟨0, rfl, Nat.zero_le _, by omega, (by simp), HB1.out⟩
  case round =>
    obtain ⟨k, rfl, hk, hs, hnr, hb⟩ := hrel
    have HS := hid hs
    have HNR := hid hnr
    have HB := hid hb
    clear hs hnr hb
    by_cases hkn : k < n
    · obtain ⟨bb, off, hA, _, hc⟩ := (HR.out.below HB.out).2 0 (by omega)
      obtain ⟨p0, p1, p2⟩ := hc k hkn
      have hkl : k < l.length := by have := HLN.out; omega
      have HX := hid (HL.out _ (getD_mem hkl))
      have HNK := hid (fun hx => mem_take1 (C := fun p => NrP 1152921504606846976 t p) hkl HNR.out hx)
      generalize l.getD k (0, 0, 0) = x at *
      subst hA
      have hki : (k : Int) < n := by omega
      clear hc hkl
      have HBa := hid (below_on HB.out ((Below.refl wr.heap.size wr).alloc (Nat.le_refl _) (.cells #[.int .u64 x.1, .int .u32 x.2.1, .int .u32 x.2.2] 29)))
      have HXc := hid (Cs.alloc_new6 wr 29 (pcells x))
      go_wp2_with fail
      refine (Vtime.since x.1 t _).mono ?_
      rintro e w2 ⟨rfl, hb⟩
      have HB2 := hid (below_on HBa.out hb)
      have HXd := hid ((show Cs (wr.alloc (.cells #[.int .u64 x.1, .int .u32 x.2.1, .int .u32 x.2.2] 29)) wr.heap.size (pcells x) from HXc.out).below hb)
      obtain ⟨q0, q1, q2⟩ := P3.at x HXd.out
      clear hb HBa HXc p0 p1 p2
      go_wp2_with fail
      refine (Pos.rightF x _).mono ?_
      rintro e w3 ⟨rfl, hb⟩
      have HB3 := hid (below_on HB2.out hb)
      clear hb HB2 HXd q0 q1 q2
      cases hpr : pR x with
      | false =>
        go_wp2_with fail
        go_ret
        exact ⟨rfl, HB3.out⟩
      | true =>
        have HPR := hid hpr
        clear hpr
        by_cases g1 : dif x.1 t ≤ -1152921504606846976
        · go_wp2_with fail
          go_ret
          exact ⟨rfl, HB3.out⟩
        · by_cases g2 : 1152921504606846976 ≤ dif x.1 t
          · go_wp2_with fail
            go_ret
            exact ⟨rfl, HB3.out⟩
          · have HN := hid (HNK.out ⟨⟨HPR.out, HX.out⟩, by omega, by omega⟩)
            go_wp2_with fail
            go_roundg (n - (k + 1))
            case measure => have := HS.out; omega
            case rel => exact ⟨k + 1, by go_num, by omega, rfl, HN.out, HB3.out⟩
    · obtain rfl : k = n := by omega
      have hki : ¬ (k : Int) < k := by omega
      have HNL : Hid (∀ p ∈ l, NrP 1152921504606846976 t p) := hid (by have := HNR.out; rwa [List.take_of_length_le (by have := HLN.out; omega)] at this)
      clear HNR HS
      have HOK : Hid (∀ p ∈ l, pR p = true ∧ PIn p) := hid (fun p hp => (HNL.out p hp).1)
      have E1 := hid (of_yes t HOK.out (by have := HLN.out; omega))
      have HI1 := hid (sums_in HTT.out HOK.out (by have := HLN.out; omega))
      have HI2 := hid (sums_in (adv_T t b) HOK.out (by have := HLN.out; omega))
      have HRB : Hid (∀ wq, Calls Tryz.prog 28 #[(Mu.sums t l).val, .int .u64 (adv t b)] wq (Ans (.tuple #[Mu.val (Mu.sums (adv t b) l), .bool true]) wq)) := hid (fun wq => by
        have h := Mean.rebase (Mu.sums t l) (adv t b) HI1.out wq
        rwa [base_reb HNL.out HBB.out.1 HBB.out.2 (by have := HLN.out; omega)] at h)
      go_wp2_with fail
      refine (Mean.of t HTT.out A k c l _ (HR.out.below HB.out) HL.out (by omega)).mono ?_
      rw [E1.out]
      rintro e w4 ⟨rfl, hb⟩
      have HG4 : Hid ((Cs (w4.alloc (.cells #[.int .u64 (Mu.sums t l).b, .int .i64 (hiW (Mu.sums t l).a), .int .u64 (loW (Mu.sums t l).a), .int .u64 (Mu.sums t l).w, .int .i64 (Mu.sums t l).n] 36)) w4.heap.size (Mu.sums t l).cells ∧ w.heap.size ≤ w4.heap.size) ∧ Below w.heap.size w (w4.alloc (.cells #[.int .u64 (Mu.sums t l).b, .int .i64 (hiW (Mu.sums t l).a), .int .u64 (loW (Mu.sums t l).a), .int .u64 (Mu.sums t l).w, .int .i64 (Mu.sums t l).n] 36))) := hid ⟨⟨Cs.alloc_new6 w4 _ (Mu.sums t l).cells, (below_on HB.out hb).size⟩, below_on (below_on HB.out hb) ((Below.refl w4.heap.size w4).alloc (Nat.le_refl _) _)⟩
      clear hb HB
      go_wp2_with fail
      generalize w4.alloc (.cells #[.int .u64 (Mu.sums t l).b, .int .i64 (hiW (Mu.sums t l).a), .int .u64 (loW (Mu.sums t l).a), .int .u64 (Mu.sums t l).w, .int .i64 (Mu.sums t l).n] 36) = W4 at HG4 ⊢
      generalize w4.heap.size = gm at HG4 ⊢
      refine wp_region_grow (S := fun wx => (Cs wx gm (Mu.sums t l).cells ∧ w.heap.size ≤ gm) ∧ Below w.heap.size w wx) 11 (by kernel_rfl) (⟨⟨HG4.out.1.1.below (Below.refl _ _).drew, HG4.out.1.2⟩, HG4.out.2.drew⟩) ?_
      refine wpAnyE_take (i := 0) (v := ?_) (((fun _ _ h hb => ⟨⟨h.1.1.below hb, h.1.2⟩, below_on h.2 hb⟩) : Stays (fun wx => (Cs wx gm (Mu.sums t l).cells ∧ w.heap.size ≤ gm) ∧ Below w.heap.size w wx))) (fun _ h => h) rfl (by kernel_rfl) (by kernel_rfl) (by kernel_rfl) (by kernel_rfl) (fun _ _ _ h => h) (SteadyB.of_yields (Or.inl ⟨by rfl, ?_⟩)) ?_
      rotate_left
      · intro wq hSw
        obtain ⟨m0, m1, m2, m3, m4⟩ := Mu.at _ hSw.1.1
        go_simp
        (try with_reducible rfl)
      try simp only [List.getElem_toArray, List.getElem_cons_zero, List.getElem_cons_succ, Act.put, List.setIfInBounds_toArray, List.set_cons_zero, List.set_cons_succ]
      refine wpAnyE_take (i := 1) (v := ?_) (((fun _ _ h hb => ⟨⟨h.1.1.below hb, h.1.2⟩, below_on h.2 hb⟩) : Stays (fun wx => (Cs wx gm (Mu.sums t l).cells ∧ w.heap.size ≤ gm) ∧ Below w.heap.size w wx))) (fun _ h => h) rfl (by kernel_rfl) (by kernel_rfl) (by kernel_rfl) (by kernel_rfl) (fun _ _ _ h => h) (SteadyB.of_yields (Or.inl ⟨by rfl, ?_⟩)) ?_
      rotate_left
      · intro wq hSw
        go_simp
        (try with_reducible rfl)
      try simp only [List.getElem_toArray, List.getElem_cons_zero, List.getElem_cons_succ, Act.put, List.setIfInBounds_toArray, List.set_cons_zero, List.set_cons_succ]
      refine wpAnyE_take (i := 2) (v := ?_) (((fun _ _ h hb => ⟨⟨h.1.1.below hb, h.1.2⟩, below_on h.2 hb⟩) : Stays (fun wx => (Cs wx gm (Mu.sums t l).cells ∧ w.heap.size ≤ gm) ∧ Below w.heap.size w wx))) (fun _ h => h) rfl (by kernel_rfl) (by kernel_rfl) (by kernel_rfl) (by kernel_rfl) (fun _ _ _ h => h) (SteadyB.of_yields (Or.inl ⟨by rfl, ?_⟩)) ?_
      rotate_left
      · intro wq hSw
        go_simp
        (try with_reducible rfl)
      try simp only [List.getElem_toArray, List.getElem_cons_zero, List.getElem_cons_succ, Act.put, List.setIfInBounds_toArray, List.set_cons_zero, List.set_cons_succ]
      refine wpAnyE_take (i := 3) (v := .int .u64 (adv t b)) (((fun _ _ h hb => ⟨⟨h.1.1.below hb, h.1.2⟩, below_on h.2 hb⟩) : Stays (fun wx => (Cs wx gm (Mu.sums t l).cells ∧ w.heap.size ≤ gm) ∧ Below w.heap.size w wx))) (fun _ h => h) rfl (by kernel_rfl) (by kernel_rfl) (by kernel_rfl) (by kernel_rfl) (fun _ _ _ h => h) (Or.inl ⟨by rfl, fun wq hSw => ?_⟩) ?_
      · refine RunB.of_calls (Vtime.add t b wq) (by go_simp) ?_
        rintro e wr ⟨rfl, hb⟩
        exact ⟨rfl, hb⟩
      try simp only [List.getElem_toArray, List.getElem_cons_zero, List.getElem_cons_succ, Act.put, List.setIfInBounds_toArray, List.set_cons_zero, List.set_cons_succ]
      refine wpAnyE_take (i := 4) (v := (.tuple #[Mu.val (Mu.sums (adv t b) l), .bool true])) (((fun _ _ h hb => ⟨⟨h.1.1.below hb, h.1.2⟩, below_on h.2 hb⟩) : Stays (fun wx => (Cs wx gm (Mu.sums t l).cells ∧ w.heap.size ≤ gm) ∧ Below w.heap.size w wx))) (fun _ h => h) rfl (by kernel_rfl) (by kernel_rfl) (by kernel_rfl) (by kernel_rfl) (fun _ _ _ h => h) (Or.inl ⟨by rfl, fun wq hSw => ?_⟩) ?_
      · refine RunB.of_calls (HRB.out wq) (by go_simp) ?_
        rintro e wr ⟨rfl, hb⟩
        exact ⟨rfl, hb⟩
      try simp only [List.getElem_toArray, List.getElem_cons_zero, List.getElem_cons_succ, Act.put, List.setIfInBounds_toArray, List.set_cons_zero, List.set_cons_succ]
      refine wpAnyE_take (i := 5) (v := ?_) (((fun _ _ h hb => ⟨⟨h.1.1.below hb, h.1.2⟩, below_on h.2 hb⟩) : Stays (fun wx => (Cs wx gm (Mu.sums t l).cells ∧ w.heap.size ≤ gm) ∧ Below w.heap.size w wx))) (fun _ h => h) rfl (by kernel_rfl) (by kernel_rfl) (by kernel_rfl) (by kernel_rfl) (fun _ _ _ h => h) (SteadyB.of_yields (Or.inl ⟨by rfl, ?_⟩)) ?_
      rotate_left
      · intro wq hSw
        go_simp
        (try with_reducible rfl)
      try simp only [List.getElem_toArray, List.getElem_cons_zero, List.getElem_cons_succ, Act.put, List.setIfInBounds_toArray, List.set_cons_zero, List.set_cons_succ]
      refine wpAnyE_take (i := 6) (v := ?_) (((fun _ _ h hb => ⟨⟨h.1.1.below hb, h.1.2⟩, below_on h.2 hb⟩) : Stays (fun wx => (Cs wx gm (Mu.sums t l).cells ∧ w.heap.size ≤ gm) ∧ Below w.heap.size w wx))) (fun _ h => h) rfl (by kernel_rfl) (by kernel_rfl) (by kernel_rfl) (by kernel_rfl) (fun _ _ _ h => h) (SteadyB.of_yields (Or.inl ⟨by rfl, ?_⟩)) ?_
      rotate_left
      · intro wq hSw
        go_simp
        (try with_reducible rfl)
      try simp only [List.getElem_toArray, List.getElem_cons_zero, List.getElem_cons_succ, Act.put, List.setIfInBounds_toArray, List.set_cons_zero, List.set_cons_succ]
      refine wpAnyE_take (i := 7) (v := ?_) (((fun _ _ h hb => ⟨⟨h.1.1.below hb, h.1.2⟩, below_on h.2 hb⟩) : Stays (fun wx => (Cs wx gm (Mu.sums t l).cells ∧ w.heap.size ≤ gm) ∧ Below w.heap.size w wx))) (fun _ h => h) rfl (by kernel_rfl) (by kernel_rfl) (by kernel_rfl) (by kernel_rfl) (fun _ _ _ h => h) (SteadyB.of_yields (Or.inl ⟨by rfl, ?_⟩)) ?_
      rotate_left
      · intro wq hSw
        go_simp
        (try with_reducible rfl)
      try simp only [List.getElem_toArray, List.getElem_cons_zero, List.getElem_cons_succ, Act.put, List.setIfInBounds_toArray, List.set_cons_zero, List.set_cons_succ]
      refine wpAnyE_alloc (i := 8) (fun wx g9 => Cs wx g9 [.int .u64 0, .int .i64 0, .int .u64 0, .int .u64 0, .int .i64 0] ∧ gm < g9) rfl (by kernel_rfl) (by decide) (by rfl) (((fun _ _ h hb => ⟨⟨h.1.1.below hb, h.1.2⟩, below_on h.2 hb⟩) : Stays (fun wx => (Cs wx gm (Mu.sums t l).cells ∧ w.heap.size ≤ gm) ∧ Below w.heap.size w wx))) (fun _ h => h) (fun g9 => (fun _ _ h hb => ⟨h.1.below hb, h.2⟩)) (fun wq hSw => ?_) (fun gA => ?_)
      · exact ⟨_, by go_simp; (try with_reducible rfl), (Below.refl _ _).alloc (Nat.le_refl _) _, Cs.alloc_new6 _ _ [.int .u64 0, .int .i64 0, .int .u64 0, .int .u64 0, .int .i64 0], hSw.1.1.lt⟩
      try simp only [List.getElem_toArray, List.getElem_cons_zero, List.getElem_cons_succ, Act.put, List.setIfInBounds_toArray, List.set_cons_zero, List.set_cons_succ]
      refine wpAnyE_store (i := 9) (fun wx => (fun wx => (Cs wx gm (Mu.sums t l).cells ∧ w.heap.size ≤ gm) ∧ Below w.heap.size w wx) wx ∧ (Cs wx gA [.int .u64 (Mu.sums (adv t b) l).b, .int .i64 (hiW (Mu.sums (adv t b) l).a), .int .u64 (loW (Mu.sums (adv t b) l).a), .int .u64 (Mu.sums (adv t b) l).w, .int .i64 (Mu.sums (adv t b) l).n] ∧ gm < gA)) 36 [.int .u64 (Mu.sums (adv t b) l).b, .int .i64 (hiW (Mu.sums (adv t b) l).a), .int .u64 (loW (Mu.sums (adv t b) l).a), .int .u64 (Mu.sums (adv t b) l).w, .int .i64 (Mu.sums (adv t b) l).n] [.int .u64 0, .int .i64 0, .int .u64 0, .int .u64 0, .int .i64 0] gA infoMean (.tmp 12) (.tmp 67) rfl rfl (by kernel_rfl) (by decide) (by rfl) ?st9_1a ?st9_1b ?st9_1c ?st9_1d ?st9_1e (fun _ h => h.2.1) (fun _ h => ⟨⟨⟨h.1.1.1.fars (by have := h.2.2; omega) _ _, h.1.1.2⟩, below_sets (by have := h.1.1.2; have := h.2.2; omega) _ _ h.1.2⟩, Cs.putL _ 0 h.2.1 (by simp), h.2.2⟩) (fun _ h => h.1) (Stays.and_ ((fun _ _ h hb => ⟨⟨h.1.1.below hb, h.1.2⟩, below_on h.2 hb⟩) : Stays (fun wx => (Cs wx gm (Mu.sums t l).cells ∧ w.heap.size ≤ gm) ∧ Below w.heap.size w wx)) (fun _ _ h hb => ⟨h.1.below hb, h.2⟩)) ?st9_1f
      case st9_1a => rfl
      case st9_1b => rfl
      case st9_1c => rfl
      case st9_1d => rfl
      case st9_1e => rfl
      try simp only [List.getElem_toArray, List.getElem_cons_zero, List.getElem_cons_succ, Act.put, List.setIfInBounds_toArray, List.set_cons_zero, List.set_cons_succ]
      refine wpAnyE_take (i := 10) (v := ?_) (Stays.and_ ((fun _ _ h hb => ⟨⟨h.1.1.below hb, h.1.2⟩, below_on h.2 hb⟩) : Stays (fun wx => (Cs wx gm (Mu.sums t l).cells ∧ w.heap.size ≤ gm) ∧ Below w.heap.size w wx)) (fun _ _ h hb => ⟨h.1.below hb, h.2⟩)) (fun _ h => h.1) rfl (by kernel_rfl) (by kernel_rfl) (by kernel_rfl) (by kernel_rfl) (fun _ _ _ h => h) (SteadyB.of_yields (Or.inl ⟨by rfl, ?_⟩)) ?_
      rotate_left
      · intro wq hSw
        go_simp
        (try with_reducible rfl)
      try simp only [List.getElem_toArray, List.getElem_cons_zero, List.getElem_cons_succ, Act.put, List.setIfInBounds_toArray, List.set_cons_zero, List.set_cons_succ]
      refine wpAnyE_done (by kernel_rfl) (fun wz hSz => ?_) _
      have HG5 := hid (And.intro (And.intro hSz.1.1.1 hSz.2.1) hSz.1.2)
      clear hSz HG4 HRB
      go_wp2_with fail
      generalize gA = gn at HG5 ⊢
      go_loopg [71] k (fun s i wr => ∃ j : Nat, i = .int .i64 j ∧ j ≤ k ∧ s = k - j ∧ (Cs wr gm (Mu.sums t l).cells ∧ Cs wr gn (Mu.sums (adv t b) l).cells) ∧ Below w.heap.size w wr)
      case atStart => exact ⟨0, rfl, Nat.zero_le _, by omega, HG5.out⟩
      case round =>
        obtain ⟨j, rfl, hj, hs, hg⟩ := hrel
        have HS := hid hs
        have HG := hid hg
        clear hs hg HG5
        by_cases hjn : j < k
        · obtain ⟨bb, off, hA, _, hc⟩ := (HR.out.below HG.out.2).2 0 (by omega)
          obtain ⟨p0, p1, p2⟩ := hc j hjn
          have hjl : j < l.length := by have := HLN.out; omega
          have hm := getD_mem hjl
          have HX := hid (HOK.out _ hm)
          have L1 : Hid ((Mu.sums t l).lag (l.getD j (0, 0, 0)) = (true, (Mu.sums t l).ov (l.getD j (0, 0, 0)) / (Mu.sums t l).w)) := hid (by
            unfold Mu.lag; rw [if_pos (sums_ov HOK.out (by have := HLN.out; omega) (by omega) (HOK.out _ hm))])
          have L2 : Hid ((Mu.sums (adv t b) l).lag (l.getD j (0, 0, 0)) = (true, (Mu.sums t l).ov (l.getD j (0, 0, 0)) / (Mu.sums t l).w)) := hid (by
            unfold Mu.lag; rw [if_pos (sums_ov HOK.out (by have := HLN.out; omega) (by omega) (HOK.out _ hm)), ov_base HNL.out hm HBB.out.1 HBB.out.2]; rfl)
          have L3 : Hid ((Mu.sums (adv t b) l).elig (l.getD j (0, 0, 0)) = (Mu.sums t l).elig (l.getD j (0, 0, 0))) := hid (by
            unfold Mu.elig Mu.over
            rw [if_pos (sums_ov HOK.out (by have := HLN.out; omega) (by omega) (HOK.out _ hm)), if_pos (sums_ov HOK.out (by have := HLN.out; omega) (by omega) (HOK.out _ hm)), ov_base HNL.out hm HBB.out.1 HBB.out.2])
          generalize l.getD j (0, 0, 0) = x at *
          subst hA
          generalize (Mu.sums t l).ov x / (Mu.sums t l).w = a at *
          have HE1 : Hid (∀ wq, Calls Tryz.prog 33 #[(Mu.sums t l).val, pv x] wq (Ans (.bool ((Mu.sums t l).elig x)) wq)) := hid (fun wq => Lag.eligible (Mu.sums t l) x HI1.out HX.out.2 wq)
          have HE2 : Hid (∀ wq, Calls Tryz.prog 33 #[(Mu.sums (adv t b) l).val, pv x] wq (Ans (.bool ((Mu.sums t l).elig x)) wq)) := hid (fun wq => by
            have h := Lag.eligible (Mu.sums (adv t b) l) x HI2.out HX.out.2 wq
            rwa [L3.out] at h)
          have hji : (j : Int) < k := by omega
          have ha := (Below.refl wr.heap.size wr).alloc (Nat.le_refl _) (.cells #[.int .u64 x.1, .int .u32 x.2.1, .int .u32 x.2.2] 29)
          have HG6 : Hid (((Cs (wr.alloc (.cells #[.int .u64 x.1, .int .u32 x.2.1, .int .u32 x.2.2] 29)) gm (Mu.sums t l).cells ∧ Cs (wr.alloc (.cells #[.int .u64 x.1, .int .u32 x.2.1, .int .u32 x.2.2] 29)) gn (Mu.sums (adv t b) l).cells) ∧ Cs (wr.alloc (.cells #[.int .u64 x.1, .int .u32 x.2.1, .int .u32 x.2.2] 29)) wr.heap.size (pcells x)) ∧ Below w.heap.size w (wr.alloc (.cells #[.int .u64 x.1, .int .u32 x.2.1, .int .u32 x.2.2] 29))) := hid ⟨⟨⟨HG.out.1.1.below ha, HG.out.1.2.below ha⟩, Cs.alloc_new6 wr _ (pcells x)⟩, below_on HG.out.2 ha⟩
          obtain ⟨m0, m1, m2, m3, m4⟩ := Mu.at _ HG6.out.1.1.1
          clear hc hjl hm ha
          go_wp2_with fail
          clear m0 m1 m2 m3 m4 p0 p1 p2
          generalize wr.alloc (.cells #[.int .u64 x.1, .int .u32 x.2.1, .int .u32 x.2.2] 29) = W6 at HG6 ⊢
          generalize wr.heap.size = gp at HG6 ⊢
          refine (Lag.read (Mu.sums t l) x HI1.out HX.out.2 _).mono ?_
          rw [L1.out]
          rintro e w7 ⟨rfl, hb⟩
          have ha := (Below.refl w7.heap.size w7).alloc (Nat.le_refl _) (.cells #[.int .i64 (hiW a), .int .u64 (loW a)] 34)
          have HG7 : Hid ((((Cs (w7.alloc (.cells #[.int .i64 (hiW a), .int .u64 (loW a)] 34)) gm (Mu.sums t l).cells ∧ Cs (w7.alloc (.cells #[.int .i64 (hiW a), .int .u64 (loW a)] 34)) gn (Mu.sums (adv t b) l).cells) ∧ Cs (w7.alloc (.cells #[.int .i64 (hiW a), .int .u64 (loW a)] 34)) gp (pcells x)) ∧ Cs (w7.alloc (.cells #[.int .i64 (hiW a), .int .u64 (loW a)] 34)) w7.heap.size [.int .i64 (hiW a), .int .u64 (loW a)]) ∧ Below w.heap.size w (w7.alloc (.cells #[.int .i64 (hiW a), .int .u64 (loW a)] 34))) := hid ⟨⟨⟨⟨(HG6.out.1.1.1.below hb).below ha, (HG6.out.1.1.2.below hb).below ha⟩, (HG6.out.1.2.below hb).below ha⟩, Cs.new2 w7 _ _ _⟩, below_on (below_on HG6.out.2 hb) ha⟩
          clear hb ha HG6
          obtain ⟨m0, m1, m2, m3, m4⟩ := Mu.at _ HG7.out.1.1.1.2
          obtain ⟨q0, q1, q2⟩ := P3.at x HG7.out.1.1.2
          go_wp2_with fail
          clear m0 m1 m2 m3 m4 q0 q1 q2
          generalize w7.alloc (.cells #[.int .i64 (hiW a), .int .u64 (loW a)] 34) = W7 at HG7 ⊢
          generalize w7.heap.size = ga at HG7 ⊢
          refine (Lag.read (Mu.sums (adv t b) l) x HI2.out HX.out.2 _).mono ?_
          rw [L2.out]
          rintro e w8 ⟨rfl, hb⟩
          have ha := (Below.refl w8.heap.size w8).alloc (Nat.le_refl _) (.cells #[.int .i64 (hiW a), .int .u64 (loW a)] 34)
          have HG8 : Hid ((((Cs (w8.alloc (.cells #[.int .i64 (hiW a), .int .u64 (loW a)] 34)) gm (Mu.sums t l).cells ∧ Cs (w8.alloc (.cells #[.int .i64 (hiW a), .int .u64 (loW a)] 34)) gn (Mu.sums (adv t b) l).cells) ∧ Cs (w8.alloc (.cells #[.int .i64 (hiW a), .int .u64 (loW a)] 34)) gp (pcells x)) ∧ (Cs (w8.alloc (.cells #[.int .i64 (hiW a), .int .u64 (loW a)] 34)) ga [.int .i64 (hiW a), .int .u64 (loW a)] ∧ Cs (w8.alloc (.cells #[.int .i64 (hiW a), .int .u64 (loW a)] 34)) w8.heap.size [.int .i64 (hiW a), .int .u64 (loW a)]) ∧ Below w.heap.size w (w8.alloc (.cells #[.int .i64 (hiW a), .int .u64 (loW a)] 34)))) := hid ⟨⟨⟨(HG7.out.1.1.1.1.below hb).below ha, (HG7.out.1.1.1.2.below hb).below ha⟩, (HG7.out.1.1.2.below hb).below ha⟩, ⟨(HG7.out.1.2.below hb).below ha, Cs.new2 w8 _ _ _⟩, below_on (below_on HG7.out.2 hb) ha⟩
          clear hb ha HG7
          go_wp2_with fail
          generalize w8.alloc (.cells #[.int .i64 (hiW a), .int .u64 (loW a)] 34) = W8 at HG8 ⊢
          generalize w8.heap.size = gb at HG8 ⊢
          have HG9 := hid (((fun _ _ h hb => ⟨⟨⟨h.1.1.1.below hb, h.1.1.2.below hb⟩, h.1.2.below hb⟩, ⟨h.2.1.1.below hb, h.2.1.2.below hb⟩, below_on h.2.2 hb⟩) : Stays (fun wx => ((Cs wx gm (Mu.sums t l).cells ∧ Cs wx gn (Mu.sums (adv t b) l).cells) ∧ Cs wx gp (pcells x)) ∧ (Cs wx ga [.int .i64 (hiW a), .int .u64 (loW a)] ∧ Cs wx gb [.int .i64 (hiW a), .int .u64 (loW a)]) ∧ Below w.heap.size w wx)) _ _ HG8.out (Below.refl _ _).drew)
          clear HG8
          refine wp_region_grow (S := fun wx => ((Cs wx gm (Mu.sums t l).cells ∧ Cs wx gn (Mu.sums (adv t b) l).cells) ∧ Cs wx gp (pcells x)) ∧ (Cs wx ga [.int .i64 (hiW a), .int .u64 (loW a)] ∧ Cs wx gb [.int .i64 (hiW a), .int .u64 (loW a)]) ∧ Below w.heap.size w wx) 20 (by kernel_rfl) (HG9.out) ?_
          refine wpAnyE_take (i := 0) (v := ?_) (((fun _ _ h hb => ⟨⟨⟨h.1.1.1.below hb, h.1.1.2.below hb⟩, h.1.2.below hb⟩, ⟨h.2.1.1.below hb, h.2.1.2.below hb⟩, below_on h.2.2 hb⟩) : Stays (fun wx => ((Cs wx gm (Mu.sums t l).cells ∧ Cs wx gn (Mu.sums (adv t b) l).cells) ∧ Cs wx gp (pcells x)) ∧ (Cs wx ga [.int .i64 (hiW a), .int .u64 (loW a)] ∧ Cs wx gb [.int .i64 (hiW a), .int .u64 (loW a)]) ∧ Below w.heap.size w wx))) (fun _ h => h) rfl (by kernel_rfl) (by kernel_rfl) (by kernel_rfl) (by kernel_rfl) (fun _ _ _ h => h) (SteadyB.of_yields (Or.inl ⟨by rfl, ?_⟩)) ?_
          rotate_left
          · intro wq hSw
            go_simp
            (try with_reducible rfl)
          try simp only [List.getElem_toArray, List.getElem_cons_zero, List.getElem_cons_succ, Act.put, List.setIfInBounds_toArray, List.set_cons_zero, List.set_cons_succ]
          refine wpAnyE_take (i := 1) (v := ?_) (((fun _ _ h hb => ⟨⟨⟨h.1.1.1.below hb, h.1.1.2.below hb⟩, h.1.2.below hb⟩, ⟨h.2.1.1.below hb, h.2.1.2.below hb⟩, below_on h.2.2 hb⟩) : Stays (fun wx => ((Cs wx gm (Mu.sums t l).cells ∧ Cs wx gn (Mu.sums (adv t b) l).cells) ∧ Cs wx gp (pcells x)) ∧ (Cs wx ga [.int .i64 (hiW a), .int .u64 (loW a)] ∧ Cs wx gb [.int .i64 (hiW a), .int .u64 (loW a)]) ∧ Below w.heap.size w wx))) (fun _ h => h) rfl (by kernel_rfl) (by kernel_rfl) (by kernel_rfl) (by kernel_rfl) (fun _ _ _ h => h) (SteadyB.of_yields (Or.inl ⟨by rfl, ?_⟩)) ?_
          rotate_left
          · intro wq hSw
            go_simp
            (try with_reducible rfl)
          try simp only [List.getElem_toArray, List.getElem_cons_zero, List.getElem_cons_succ, Act.put, List.setIfInBounds_toArray, List.set_cons_zero, List.set_cons_succ]
          refine wpAnyE_take (i := 2) (v := ?_) (((fun _ _ h hb => ⟨⟨⟨h.1.1.1.below hb, h.1.1.2.below hb⟩, h.1.2.below hb⟩, ⟨h.2.1.1.below hb, h.2.1.2.below hb⟩, below_on h.2.2 hb⟩) : Stays (fun wx => ((Cs wx gm (Mu.sums t l).cells ∧ Cs wx gn (Mu.sums (adv t b) l).cells) ∧ Cs wx gp (pcells x)) ∧ (Cs wx ga [.int .i64 (hiW a), .int .u64 (loW a)] ∧ Cs wx gb [.int .i64 (hiW a), .int .u64 (loW a)]) ∧ Below w.heap.size w wx))) (fun _ h => h) rfl (by kernel_rfl) (by kernel_rfl) (by kernel_rfl) (by kernel_rfl) (fun _ _ _ h => h) (SteadyB.of_yields (Or.inl ⟨by rfl, ?_⟩)) ?_
          rotate_left
          · intro wq hSw
            go_simp
            (try with_reducible rfl)
          try simp only [List.getElem_toArray, List.getElem_cons_zero, List.getElem_cons_succ, Act.put, List.setIfInBounds_toArray, List.set_cons_zero, List.set_cons_succ]
          refine wpAnyE_take (i := 3) (v := ?_) (((fun _ _ h hb => ⟨⟨⟨h.1.1.1.below hb, h.1.1.2.below hb⟩, h.1.2.below hb⟩, ⟨h.2.1.1.below hb, h.2.1.2.below hb⟩, below_on h.2.2 hb⟩) : Stays (fun wx => ((Cs wx gm (Mu.sums t l).cells ∧ Cs wx gn (Mu.sums (adv t b) l).cells) ∧ Cs wx gp (pcells x)) ∧ (Cs wx ga [.int .i64 (hiW a), .int .u64 (loW a)] ∧ Cs wx gb [.int .i64 (hiW a), .int .u64 (loW a)]) ∧ Below w.heap.size w wx))) (fun _ h => h) rfl (by kernel_rfl) (by kernel_rfl) (by kernel_rfl) (by kernel_rfl) (fun _ _ _ h => h) (SteadyB.of_yields (Or.inl ⟨by rfl, ?_⟩)) ?_
          rotate_left
          · intro wq hSw
            go_simp
            (try with_reducible rfl)
          try simp only [List.getElem_toArray, List.getElem_cons_zero, List.getElem_cons_succ, Act.put, List.setIfInBounds_toArray, List.set_cons_zero, List.set_cons_succ]
          refine wpAnyE_take (i := 4) (v := ?_) (((fun _ _ h hb => ⟨⟨⟨h.1.1.1.below hb, h.1.1.2.below hb⟩, h.1.2.below hb⟩, ⟨h.2.1.1.below hb, h.2.1.2.below hb⟩, below_on h.2.2 hb⟩) : Stays (fun wx => ((Cs wx gm (Mu.sums t l).cells ∧ Cs wx gn (Mu.sums (adv t b) l).cells) ∧ Cs wx gp (pcells x)) ∧ (Cs wx ga [.int .i64 (hiW a), .int .u64 (loW a)] ∧ Cs wx gb [.int .i64 (hiW a), .int .u64 (loW a)]) ∧ Below w.heap.size w wx))) (fun _ h => h) rfl (by kernel_rfl) (by kernel_rfl) (by kernel_rfl) (by kernel_rfl) (fun _ _ _ h => h) (SteadyB.of_yields (Or.inl ⟨by rfl, ?_⟩)) ?_
          rotate_left
          · intro wq hSw
            go_simp
            (try with_reducible rfl)
          try simp only [List.getElem_toArray, List.getElem_cons_zero, List.getElem_cons_succ, Act.put, List.setIfInBounds_toArray, List.set_cons_zero, List.set_cons_succ]
          refine wpAnyE_take (i := 5) (v := ?_) (((fun _ _ h hb => ⟨⟨⟨h.1.1.1.below hb, h.1.1.2.below hb⟩, h.1.2.below hb⟩, ⟨h.2.1.1.below hb, h.2.1.2.below hb⟩, below_on h.2.2 hb⟩) : Stays (fun wx => ((Cs wx gm (Mu.sums t l).cells ∧ Cs wx gn (Mu.sums (adv t b) l).cells) ∧ Cs wx gp (pcells x)) ∧ (Cs wx ga [.int .i64 (hiW a), .int .u64 (loW a)] ∧ Cs wx gb [.int .i64 (hiW a), .int .u64 (loW a)]) ∧ Below w.heap.size w wx))) (fun _ h => h) rfl (by kernel_rfl) (by kernel_rfl) (by kernel_rfl) (by kernel_rfl) (fun _ _ _ h => h) (SteadyB.of_yields (Or.inl ⟨by rfl, ?_⟩)) ?_
          rotate_left
          · intro wq hSw
            go_simp
            (try with_reducible rfl)
          try simp only [List.getElem_toArray, List.getElem_cons_zero, List.getElem_cons_succ, Act.put, List.setIfInBounds_toArray, List.set_cons_zero, List.set_cons_succ]
          refine wpAnyE_take (i := 6) (v := ?_) (((fun _ _ h hb => ⟨⟨⟨h.1.1.1.below hb, h.1.1.2.below hb⟩, h.1.2.below hb⟩, ⟨h.2.1.1.below hb, h.2.1.2.below hb⟩, below_on h.2.2 hb⟩) : Stays (fun wx => ((Cs wx gm (Mu.sums t l).cells ∧ Cs wx gn (Mu.sums (adv t b) l).cells) ∧ Cs wx gp (pcells x)) ∧ (Cs wx ga [.int .i64 (hiW a), .int .u64 (loW a)] ∧ Cs wx gb [.int .i64 (hiW a), .int .u64 (loW a)]) ∧ Below w.heap.size w wx))) (fun _ h => h) rfl (by kernel_rfl) (by kernel_rfl) (by kernel_rfl) (by kernel_rfl) (fun _ _ _ h => h) (SteadyB.of_yields (Or.inl ⟨by rfl, ?_⟩)) ?_
          rotate_left
          · intro wq hSw
            go_simp
            (try with_reducible rfl)
          try simp only [List.getElem_toArray, List.getElem_cons_zero, List.getElem_cons_succ, Act.put, List.setIfInBounds_toArray, List.set_cons_zero, List.set_cons_succ]
          refine wpAnyE_take (i := 7) (v := ?_) (((fun _ _ h hb => ⟨⟨⟨h.1.1.1.below hb, h.1.1.2.below hb⟩, h.1.2.below hb⟩, ⟨h.2.1.1.below hb, h.2.1.2.below hb⟩, below_on h.2.2 hb⟩) : Stays (fun wx => ((Cs wx gm (Mu.sums t l).cells ∧ Cs wx gn (Mu.sums (adv t b) l).cells) ∧ Cs wx gp (pcells x)) ∧ (Cs wx ga [.int .i64 (hiW a), .int .u64 (loW a)] ∧ Cs wx gb [.int .i64 (hiW a), .int .u64 (loW a)]) ∧ Below w.heap.size w wx))) (fun _ h => h) rfl (by kernel_rfl) (by kernel_rfl) (by kernel_rfl) (by kernel_rfl) (fun _ _ _ h => h) (SteadyB.of_yields (Or.inl ⟨by rfl, ?_⟩)) ?_
          rotate_left
          · intro wq hSw
            obtain ⟨m0, m1, m2, m3, m4⟩ := Mu.at _ hSw.1.1.1
            obtain ⟨k0, k1, k2, k3, k4⟩ := Mu.at _ hSw.1.1.2
            obtain ⟨q0, q1, q2⟩ := P3.at x hSw.1.2
            have a0 := hSw.2.1.1.at0
            have a1 := hSw.2.1.1.at1
            have b0 := hSw.2.1.2.at0
            have b1 := hSw.2.1.2.at1
            go_simp
            (try with_reducible rfl)
          try simp only [List.getElem_toArray, List.getElem_cons_zero, List.getElem_cons_succ, Act.put, List.setIfInBounds_toArray, List.set_cons_zero, List.set_cons_succ]
          refine wpAnyE_take (i := 8) (v := ?_) (((fun _ _ h hb => ⟨⟨⟨h.1.1.1.below hb, h.1.1.2.below hb⟩, h.1.2.below hb⟩, ⟨h.2.1.1.below hb, h.2.1.2.below hb⟩, below_on h.2.2 hb⟩) : Stays (fun wx => ((Cs wx gm (Mu.sums t l).cells ∧ Cs wx gn (Mu.sums (adv t b) l).cells) ∧ Cs wx gp (pcells x)) ∧ (Cs wx ga [.int .i64 (hiW a), .int .u64 (loW a)] ∧ Cs wx gb [.int .i64 (hiW a), .int .u64 (loW a)]) ∧ Below w.heap.size w wx))) (fun _ h => h) rfl (by kernel_rfl) (by kernel_rfl) (by kernel_rfl) (by kernel_rfl) (fun _ _ _ h => h) (SteadyB.of_yields (Or.inl ⟨by rfl, ?_⟩)) ?_
          rotate_left
          · intro wq hSw
            obtain ⟨m0, m1, m2, m3, m4⟩ := Mu.at _ hSw.1.1.1
            obtain ⟨k0, k1, k2, k3, k4⟩ := Mu.at _ hSw.1.1.2
            obtain ⟨q0, q1, q2⟩ := P3.at x hSw.1.2
            have a0 := hSw.2.1.1.at0
            have a1 := hSw.2.1.1.at1
            have b0 := hSw.2.1.2.at0
            have b1 := hSw.2.1.2.at1
            go_simp
            (try with_reducible rfl)
          try simp only [List.getElem_toArray, List.getElem_cons_zero, List.getElem_cons_succ, Act.put, List.setIfInBounds_toArray, List.set_cons_zero, List.set_cons_succ]
          refine wpAnyE_take (i := 9) (v := ?_) (((fun _ _ h hb => ⟨⟨⟨h.1.1.1.below hb, h.1.1.2.below hb⟩, h.1.2.below hb⟩, ⟨h.2.1.1.below hb, h.2.1.2.below hb⟩, below_on h.2.2 hb⟩) : Stays (fun wx => ((Cs wx gm (Mu.sums t l).cells ∧ Cs wx gn (Mu.sums (adv t b) l).cells) ∧ Cs wx gp (pcells x)) ∧ (Cs wx ga [.int .i64 (hiW a), .int .u64 (loW a)] ∧ Cs wx gb [.int .i64 (hiW a), .int .u64 (loW a)]) ∧ Below w.heap.size w wx))) (fun _ h => h) rfl (by kernel_rfl) (by kernel_rfl) (by kernel_rfl) (by kernel_rfl) (fun _ _ _ h => h) (SteadyB.of_yields (Or.inl ⟨by rfl, ?_⟩)) ?_
          rotate_left
          · intro wq hSw
            go_simp
            (try with_reducible rfl)
          try simp only [List.getElem_toArray, List.getElem_cons_zero, List.getElem_cons_succ, Act.put, List.setIfInBounds_toArray, List.set_cons_zero, List.set_cons_succ]
          refine wpAnyE_take (i := 10) (v := ?_) (((fun _ _ h hb => ⟨⟨⟨h.1.1.1.below hb, h.1.1.2.below hb⟩, h.1.2.below hb⟩, ⟨h.2.1.1.below hb, h.2.1.2.below hb⟩, below_on h.2.2 hb⟩) : Stays (fun wx => ((Cs wx gm (Mu.sums t l).cells ∧ Cs wx gn (Mu.sums (adv t b) l).cells) ∧ Cs wx gp (pcells x)) ∧ (Cs wx ga [.int .i64 (hiW a), .int .u64 (loW a)] ∧ Cs wx gb [.int .i64 (hiW a), .int .u64 (loW a)]) ∧ Below w.heap.size w wx))) (fun _ h => h) rfl (by kernel_rfl) (by kernel_rfl) (by kernel_rfl) (by kernel_rfl) (fun _ _ _ h => h) (SteadyB.of_yields (Or.inl ⟨by rfl, ?_⟩)) ?_
          rotate_left
          · intro wq hSw
            go_simp
            (try with_reducible rfl)
          try simp only [List.getElem_toArray, List.getElem_cons_zero, List.getElem_cons_succ, Act.put, List.setIfInBounds_toArray, List.set_cons_zero, List.set_cons_succ]
          refine wpAnyE_take (i := 11) (v := ?_) (((fun _ _ h hb => ⟨⟨⟨h.1.1.1.below hb, h.1.1.2.below hb⟩, h.1.2.below hb⟩, ⟨h.2.1.1.below hb, h.2.1.2.below hb⟩, below_on h.2.2 hb⟩) : Stays (fun wx => ((Cs wx gm (Mu.sums t l).cells ∧ Cs wx gn (Mu.sums (adv t b) l).cells) ∧ Cs wx gp (pcells x)) ∧ (Cs wx ga [.int .i64 (hiW a), .int .u64 (loW a)] ∧ Cs wx gb [.int .i64 (hiW a), .int .u64 (loW a)]) ∧ Below w.heap.size w wx))) (fun _ h => h) rfl (by kernel_rfl) (by kernel_rfl) (by kernel_rfl) (by kernel_rfl) (fun _ _ _ h => h) (SteadyB.of_yields (Or.inl ⟨by rfl, ?_⟩)) ?_
          rotate_left
          · intro wq hSw
            go_simp
            (try with_reducible rfl)
          try simp only [List.getElem_toArray, List.getElem_cons_zero, List.getElem_cons_succ, Act.put, List.setIfInBounds_toArray, List.set_cons_zero, List.set_cons_succ]
          refine wpAnyE_take (i := 12) (v := ?_) (((fun _ _ h hb => ⟨⟨⟨h.1.1.1.below hb, h.1.1.2.below hb⟩, h.1.2.below hb⟩, ⟨h.2.1.1.below hb, h.2.1.2.below hb⟩, below_on h.2.2 hb⟩) : Stays (fun wx => ((Cs wx gm (Mu.sums t l).cells ∧ Cs wx gn (Mu.sums (adv t b) l).cells) ∧ Cs wx gp (pcells x)) ∧ (Cs wx ga [.int .i64 (hiW a), .int .u64 (loW a)] ∧ Cs wx gb [.int .i64 (hiW a), .int .u64 (loW a)]) ∧ Below w.heap.size w wx))) (fun _ h => h) rfl (by kernel_rfl) (by kernel_rfl) (by kernel_rfl) (by kernel_rfl) (fun _ _ _ h => h) (SteadyB.of_yields (Or.inl ⟨by rfl, ?_⟩)) ?_
          rotate_left
          · intro wq hSw
            obtain ⟨m0, m1, m2, m3, m4⟩ := Mu.at _ hSw.1.1.1
            obtain ⟨k0, k1, k2, k3, k4⟩ := Mu.at _ hSw.1.1.2
            obtain ⟨q0, q1, q2⟩ := P3.at x hSw.1.2
            have a0 := hSw.2.1.1.at0
            have a1 := hSw.2.1.1.at1
            have b0 := hSw.2.1.2.at0
            have b1 := hSw.2.1.2.at1
            go_simp
            (try with_reducible rfl)
          try simp only [List.getElem_toArray, List.getElem_cons_zero, List.getElem_cons_succ, Act.put, List.setIfInBounds_toArray, List.set_cons_zero, List.set_cons_succ]
          refine wpAnyE_take (i := 13) (v := ?_) (((fun _ _ h hb => ⟨⟨⟨h.1.1.1.below hb, h.1.1.2.below hb⟩, h.1.2.below hb⟩, ⟨h.2.1.1.below hb, h.2.1.2.below hb⟩, below_on h.2.2 hb⟩) : Stays (fun wx => ((Cs wx gm (Mu.sums t l).cells ∧ Cs wx gn (Mu.sums (adv t b) l).cells) ∧ Cs wx gp (pcells x)) ∧ (Cs wx ga [.int .i64 (hiW a), .int .u64 (loW a)] ∧ Cs wx gb [.int .i64 (hiW a), .int .u64 (loW a)]) ∧ Below w.heap.size w wx))) (fun _ h => h) rfl (by kernel_rfl) (by kernel_rfl) (by kernel_rfl) (by kernel_rfl) (fun _ _ _ h => h) (SteadyB.of_yields (Or.inl ⟨by rfl, ?_⟩)) ?_
          rotate_left
          · intro wq hSw
            obtain ⟨m0, m1, m2, m3, m4⟩ := Mu.at _ hSw.1.1.1
            obtain ⟨k0, k1, k2, k3, k4⟩ := Mu.at _ hSw.1.1.2
            obtain ⟨q0, q1, q2⟩ := P3.at x hSw.1.2
            have a0 := hSw.2.1.1.at0
            have a1 := hSw.2.1.1.at1
            have b0 := hSw.2.1.2.at0
            have b1 := hSw.2.1.2.at1
            go_simp
            (try with_reducible rfl)
          try simp only [List.getElem_toArray, List.getElem_cons_zero, List.getElem_cons_succ, Act.put, List.setIfInBounds_toArray, List.set_cons_zero, List.set_cons_succ]
          refine wpAnyE_take (i := 15) (v := ?_) (((fun _ _ h hb => ⟨⟨⟨h.1.1.1.below hb, h.1.1.2.below hb⟩, h.1.2.below hb⟩, ⟨h.2.1.1.below hb, h.2.1.2.below hb⟩, below_on h.2.2 hb⟩) : Stays (fun wx => ((Cs wx gm (Mu.sums t l).cells ∧ Cs wx gn (Mu.sums (adv t b) l).cells) ∧ Cs wx gp (pcells x)) ∧ (Cs wx ga [.int .i64 (hiW a), .int .u64 (loW a)] ∧ Cs wx gb [.int .i64 (hiW a), .int .u64 (loW a)]) ∧ Below w.heap.size w wx))) (fun _ h => h) rfl (by kernel_rfl) (by kernel_rfl) (by kernel_rfl) (by kernel_rfl) (fun _ _ _ h => h) (SteadyB.of_yields (Or.inl ⟨by rfl, ?_⟩)) ?_
          rotate_left
          · intro wq hSw
            obtain ⟨m0, m1, m2, m3, m4⟩ := Mu.at _ hSw.1.1.1
            obtain ⟨k0, k1, k2, k3, k4⟩ := Mu.at _ hSw.1.1.2
            obtain ⟨q0, q1, q2⟩ := P3.at x hSw.1.2
            have a0 := hSw.2.1.1.at0
            have a1 := hSw.2.1.1.at1
            have b0 := hSw.2.1.2.at0
            have b1 := hSw.2.1.2.at1
            go_simp
            (try with_reducible rfl)
          try simp only [List.getElem_toArray, List.getElem_cons_zero, List.getElem_cons_succ, Act.put, List.setIfInBounds_toArray, List.set_cons_zero, List.set_cons_succ]
          refine wpAnyE_take (i := 16) (v := ?_) (((fun _ _ h hb => ⟨⟨⟨h.1.1.1.below hb, h.1.1.2.below hb⟩, h.1.2.below hb⟩, ⟨h.2.1.1.below hb, h.2.1.2.below hb⟩, below_on h.2.2 hb⟩) : Stays (fun wx => ((Cs wx gm (Mu.sums t l).cells ∧ Cs wx gn (Mu.sums (adv t b) l).cells) ∧ Cs wx gp (pcells x)) ∧ (Cs wx ga [.int .i64 (hiW a), .int .u64 (loW a)] ∧ Cs wx gb [.int .i64 (hiW a), .int .u64 (loW a)]) ∧ Below w.heap.size w wx))) (fun _ h => h) rfl (by kernel_rfl) (by kernel_rfl) (by kernel_rfl) (by kernel_rfl) (fun _ _ _ h => h) (SteadyB.of_yields (Or.inl ⟨by rfl, ?_⟩)) ?_
          rotate_left
          · intro wq hSw
            obtain ⟨m0, m1, m2, m3, m4⟩ := Mu.at _ hSw.1.1.1
            obtain ⟨k0, k1, k2, k3, k4⟩ := Mu.at _ hSw.1.1.2
            obtain ⟨q0, q1, q2⟩ := P3.at x hSw.1.2
            have a0 := hSw.2.1.1.at0
            have a1 := hSw.2.1.1.at1
            have b0 := hSw.2.1.2.at0
            have b1 := hSw.2.1.2.at1
            go_simp
            (try with_reducible rfl)
          try simp only [List.getElem_toArray, List.getElem_cons_zero, List.getElem_cons_succ, Act.put, List.setIfInBounds_toArray, List.set_cons_zero, List.set_cons_succ]
          refine wpAnyE_take (i := 14) (v := Value.bool ((Mu.sums t l).elig x)) (((fun _ _ h hb => ⟨⟨⟨h.1.1.1.below hb, h.1.1.2.below hb⟩, h.1.2.below hb⟩, ⟨h.2.1.1.below hb, h.2.1.2.below hb⟩, below_on h.2.2 hb⟩) : Stays (fun wx => ((Cs wx gm (Mu.sums t l).cells ∧ Cs wx gn (Mu.sums (adv t b) l).cells) ∧ Cs wx gp (pcells x)) ∧ (Cs wx ga [.int .i64 (hiW a), .int .u64 (loW a)] ∧ Cs wx gb [.int .i64 (hiW a), .int .u64 (loW a)]) ∧ Below w.heap.size w wx))) (fun _ h => h) rfl (by kernel_rfl) (by kernel_rfl) (by kernel_rfl) (by kernel_rfl) (fun _ _ _ h => h) (Or.inl ⟨by rfl, fun wq hSw => ?_⟩) ?_
          · refine RunB.of_calls (HE1.out wq) (by go_simp) ?_
            rintro e wr ⟨rfl, hb⟩
            exact ⟨rfl, hb⟩
          try simp only [List.getElem_toArray, List.getElem_cons_zero, List.getElem_cons_succ, Act.put, List.setIfInBounds_toArray, List.set_cons_zero, List.set_cons_succ]
          refine wpAnyE_take (i := 17) (v := Value.bool ((Mu.sums t l).elig x)) (((fun _ _ h hb => ⟨⟨⟨h.1.1.1.below hb, h.1.1.2.below hb⟩, h.1.2.below hb⟩, ⟨h.2.1.1.below hb, h.2.1.2.below hb⟩, below_on h.2.2 hb⟩) : Stays (fun wx => ((Cs wx gm (Mu.sums t l).cells ∧ Cs wx gn (Mu.sums (adv t b) l).cells) ∧ Cs wx gp (pcells x)) ∧ (Cs wx ga [.int .i64 (hiW a), .int .u64 (loW a)] ∧ Cs wx gb [.int .i64 (hiW a), .int .u64 (loW a)]) ∧ Below w.heap.size w wx))) (fun _ h => h) rfl (by kernel_rfl) (by kernel_rfl) (by kernel_rfl) (by kernel_rfl) (fun _ _ _ h => h) (Or.inl ⟨by rfl, fun wq hSw => ?_⟩) ?_
          · refine RunB.of_calls (HE2.out wq) (by go_simp) ?_
            rintro e wr ⟨rfl, hb⟩
            exact ⟨rfl, hb⟩
          try simp only [List.getElem_toArray, List.getElem_cons_zero, List.getElem_cons_succ, Act.put, List.setIfInBounds_toArray, List.set_cons_zero, List.set_cons_succ]
          refine wpAnyE_take (i := 18) (v := ?_) (((fun _ _ h hb => ⟨⟨⟨h.1.1.1.below hb, h.1.1.2.below hb⟩, h.1.2.below hb⟩, ⟨h.2.1.1.below hb, h.2.1.2.below hb⟩, below_on h.2.2 hb⟩) : Stays (fun wx => ((Cs wx gm (Mu.sums t l).cells ∧ Cs wx gn (Mu.sums (adv t b) l).cells) ∧ Cs wx gp (pcells x)) ∧ (Cs wx ga [.int .i64 (hiW a), .int .u64 (loW a)] ∧ Cs wx gb [.int .i64 (hiW a), .int .u64 (loW a)]) ∧ Below w.heap.size w wx))) (fun _ h => h) rfl (by kernel_rfl) (by kernel_rfl) (by kernel_rfl) (by kernel_rfl) (fun _ _ _ h => h) (SteadyB.of_yields (Or.inl ⟨by rfl, ?_⟩)) ?_
          rotate_left
          · intro wq hSw
            go_simp
            (try with_reducible rfl)
          try simp only [List.getElem_toArray, List.getElem_cons_zero, List.getElem_cons_succ, Act.put, List.setIfInBounds_toArray, List.set_cons_zero, List.set_cons_succ]
          refine wpAnyE_take (i := 19) (v := ?_) (((fun _ _ h hb => ⟨⟨⟨h.1.1.1.below hb, h.1.1.2.below hb⟩, h.1.2.below hb⟩, ⟨h.2.1.1.below hb, h.2.1.2.below hb⟩, below_on h.2.2 hb⟩) : Stays (fun wx => ((Cs wx gm (Mu.sums t l).cells ∧ Cs wx gn (Mu.sums (adv t b) l).cells) ∧ Cs wx gp (pcells x)) ∧ (Cs wx ga [.int .i64 (hiW a), .int .u64 (loW a)] ∧ Cs wx gb [.int .i64 (hiW a), .int .u64 (loW a)]) ∧ Below w.heap.size w wx))) (fun _ h => h) rfl (by kernel_rfl) (by kernel_rfl) (by kernel_rfl) (by kernel_rfl) (fun _ _ _ h => h) (SteadyB.of_yields (Or.inl ⟨by rfl, ?_⟩)) ?_
          rotate_left
          · intro wq hSw
            go_simp
            (try with_reducible rfl)
          try simp only [List.getElem_toArray, List.getElem_cons_zero, List.getElem_cons_succ, Act.put, List.setIfInBounds_toArray, List.set_cons_zero, List.set_cons_succ]
          refine wpAnyE_done (by kernel_rfl) (fun wz hSz => ?_) _
          have HF := hid (And.intro hSz.1.1 hSz.2.2)
          clear hSz HG9
          go_wp2_with fail
          go_roundg (k - (j + 1))
          case measure => have := HS.out; omega
          case rel => exact ⟨j + 1, by go_num, by omega, rfl, HF.out⟩
        · obtain rfl : j = k := by omega
          have hji : ¬ (j : Int) < j := by omega
          go_wp2_with fail
          go_ret
          exact ⟨rfl, HG.out.2⟩

theorem Lbas.law (t : Int) (A : Option Addr) (n c : Nat) (l : List P3) (b : Int) (w : World) (w0 : (Lit.int .u64 t).wf = true) (h : RdP w A n l ∧ InP l ∧ n ≤ 9223372036854775807) (_w2 : (Lit.int .i64 b).wf = true) (htab : Tab10 w.heap.size w) :
    Calls Tryz.prog 10 #[.int .u64 t, .slice A n c, .int .i64 b] w fun e w' => e = .returned (.bool true) ∧ Below w.heap.size w w' := by
  by_cases hn : 32 < n
  · exact Lbas.away1 t b A n c w hn htab
  · by_cases h1 : b ≤ -1152921504606846976
    · exact Lbas.away3 t b A n c w (by omega) h1 htab
    · by_cases h2 : 1152921504606846976 ≤ b
      · exact Lbas.away4 t b A n c w (by omega) h1 h2 htab
      · exact Lbas.core t b (bounds_u64 w0) A n c l w h.1 (fun q hq => h.2.1 q hq) (by omega) (by omega) (by omega) htab
end

end Go.Proofs.YtoioeginfhkjjaaGreatDoor
