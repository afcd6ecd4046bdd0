/- Texts of LagReads's proof, together. -/
import Derived.Test.YthmilhhihcmdhaaGreatDoorLagReadsZ10
import Derived.Test.YthmilhhihcmdhaaGreatDoorLagReadsZ25
import Derived.Test.YthmilhhihcmdhaaGreatDoorRbB
import Derived.Test.YthmilhhihcmdhaaGreatDoorLagReadsZ27
import Derived.Test.YthmilhhihcmdhaaGreatDoorLagReadsZ16
import Derived.Test.YthmilhhihcmdhaaGreatDoorLagReadsZ32
import Derived.Test.YthmilhhihcmdhaaGreatDoorStr
import Derived.Test.YthmilhhihcmdhaaGreatDoorLagReadsZ13
import Derived.Deep.AppendLies
import Derived.Test.YthmilhhihcmdhaaGreatDoorLagReadsZ38
namespace Go.Proofs.YthmilhhihcmdhaaGreatDoor
/- The chapter's example of layer 8, as the laws ask it. -/
section
open Go.RowKit
theorem Law7.Awake (w : World) : Calls Tryz.prog 62 #[] w (Ans (.bool true) w) := by
  go_enter Tryz.func62, Tryz.ntmps62
  go_wp2_with (go_at_call 100; refine (Law7.awake _).mono ?_; rintro e w' ⟨rfl, hb⟩)
  go_ret
  exact ⟨rfl, hb⟩
theorem ex8 : Mu.of 5 [(5, 0, 1), (8, 0, 1)] = (true, ⟨5, 3, 2, 2⟩) := by
  rw [of_yes 5 (l := [(5, 0, 1), (8, 0, 1)]) (fun p hp => by
    simp at hp
    rcases hp with rfl | rfl
    · exact ⟨by decide, ⟨by decide, by decide⟩, ⟨by decide, by decide⟩, by decide, by decide⟩
    · exact ⟨by decide, ⟨by decide, by decide⟩, ⟨by decide, by decide⟩, by decide, by decide⟩) (by decide)]
  rfl
theorem ex8f : Mu.fl ⟨5, 3, 2, 2⟩ = (true, 6) := by first | rfl | decide +kernel
theorem ex8t : txtOf 3 = [51] := by first | decide +kernel | (unfold txtOf; rw [if_neg (by decide)]; simp [Lib.decDigits])
theorem Tab10.at2 {w0 w : World} (h : Tab10 w0.heap.size w0) (hb : Below w0.heap.size w0 w) : Tab10 w.heap.size w := Tab10.of (h.on hb).here
set_option maxRecDepth 100000 in
set_option maxHeartbeats 4000000 in
theorem Law8.awake (w : World) (htab : Tab10 w.heap.size w) : Calls Tryz.prog 16 #[] w (Ans (.bool true) w) := by
  have HT := hid htab
  have HB0 := hid ((Below.refl w.heap.size w).alloc (Nat.le_refl _) (.cells #[.int .u64 5, .int .u32 0, .int .u32 1, .int .u64 8, .int .u32 0, .int .u32 1] 29))
  have HR := hid (RdP.new2 w 29 5 0 1 8 0 1)
  clear htab
  go_enter Tryz.func16, Tryz.ntmps16
  go_wp2_with fail

  generalize (w.alloc (.cells #[.int .u64 5, .int .u32 0, .int .u32 1, .int .u64 8, .int .u32 0, .int .u32 1] 29)) = W0 at HB0 HR ⊢
  refine (Mean.of 5 ⟨by decide, by decide⟩ (some ⟨w.heap.size, 0, none⟩) 2 2 [(5, 0, 1), (8, 0, 1)] _ HR.out (fun p hp => by
    simp at hp
    rcases hp with rfl | rfl
    · exact ⟨⟨by decide, by decide⟩, ⟨by decide, by decide⟩, by decide, by decide⟩
    · exact ⟨⟨by decide, by decide⟩, ⟨by decide, by decide⟩, by decide, by decide⟩) (by decide)).mono ?_
  rw [ex8]
  rintro e w1 ⟨rfl, hb⟩
  have ha := (Below.refl w1.heap.size w1).alloc (Nat.le_refl _) (.cells #[.int .u64 5, .int .i64 (hiW 3), .int .u64 (loW 3), .int .u64 2, .int .i64 2] 36)
  have HB1 := hid (below_on (below_on HB0.out hb) ha)
  have HC1 : Hid (Cs (w1.alloc (.cells #[.int .u64 5, .int .i64 (hiW 3), .int .u64 (loW 3), .int .u64 2, .int .i64 2] 36)) w1.heap.size (Mu.mk 5 3 2 2).cells) := hid (Cs.alloc_new6 w1 _ (Mu.mk 5 3 2 2).cells)
  clear hb ha HB0 HR
  go_wp2_with fail
  generalize (w1.alloc (.cells #[.int .u64 5, .int .i64 (hiW 3), .int .u64 (loW 3), .int .u64 2, .int .i64 2] 36)) = W1 at HB1 HC1 ⊢
  generalize w1.heap.size = g at HC1 ⊢
  refine (Mean.floor ⟨5, 3, 2, 2⟩ (by unfold Mu.In WR; refine ⟨⟨?_, ?_⟩, ⟨?_, ?_⟩, ⟨?_, ?_⟩, ?_, ?_⟩ <;> decide) _).mono ?_
  rw [ex8f]
  rintro e w2 ⟨rfl, hb⟩
  have HB2 := hid (below_on HB1.out hb)
  have HC2 := hid (HC1.out.below hb)
  clear hb HB1 HC1
  go_wp2_with fail
  refine (Law7.Awake _).mono ?_
  rintro e w3 ⟨rfl, hb⟩
  have HB3 := hid (below_on HB2.out hb)
  have HC3 := hid (HC2.out.below hb)
  clear hb HB2 HC2
  obtain ⟨m0, m1, m2, m3, m4⟩ := Mu.at _ HC3.out
  go_wp2_with fail
  refine (Wide.string (hiW 3) (loW 3) 3 (isW_of (by unfold WR; omega)) _ (HT.out.at2 HB3.out)).mono ?_
  rw [ex8t]
  rintro e w4 ⟨rfl, hb⟩
  have HB4 := hid (below_on HB3.out hb)
  have HC4 := hid (HC3.out.below hb)
  clear hb HB3 HC3 m0 m1 m2 m3 m4
  obtain ⟨m0, m1, m2, m3, m4⟩ := Mu.at _ HC4.out
  go_wp2_with fail
  go_ret
  exact ⟨rfl, HB4.out⟩
theorem Law8.Awake (w : World) (htab : Tab10 w.heap.size w) : Calls Tryz.prog 68 #[] w (Ans (.bool true) w) := by
  go_enter Tryz.func68, Tryz.ntmps68
  go_wp2_with (go_at_call 16; refine (Law8.awake _ htab).mono ?_; rintro e w' ⟨rfl, hb⟩)
  go_ret
  exact ⟨rfl, hb⟩
end

/- The chapter's example of layer 9, as the laws ask it. -/
section
open Go.RowKit
theorem ex9in : (Mu.mk 5 3 2 2).In := by unfold Mu.In WR; refine ⟨⟨?_, ?_⟩, ⟨?_, ?_⟩, ⟨?_, ?_⟩, ?_, ?_⟩ <;> decide
theorem ex9p : PIn (5, 0, 1) := ⟨⟨by decide, by decide⟩, ⟨by decide, by decide⟩, by decide, by decide⟩
theorem ex9q : PIn (8, 0, 1) := ⟨⟨by decide, by decide⟩, ⟨by decide, by decide⟩, by decide, by decide⟩
theorem ex9a (w : World) : Calls Tryz.prog 25 #[(Mu.mk 5 3 2 2).val, pv (5, 0, 1)] w (Ans (.bool true) w) := by
  have h := Lag.eligible (Mu.mk 5 3 2 2) (5, 0, 1) ex9in ex9p w
  rwa [show (Mu.mk 5 3 2 2).elig (5, 0, 1) = true by first | rfl | decide +kernel] at h
theorem ex9b (w : World) : Calls Tryz.prog 25 #[(Mu.mk 5 3 2 2).val, pv (8, 0, 1)] w (Ans (.bool false) w) := by
  have h := Lag.eligible (Mu.mk 5 3 2 2) (8, 0, 1) ex9in ex9q w
  rwa [show (Mu.mk 5 3 2 2).elig (8, 0, 1) = false by first | rfl | decide +kernel] at h
theorem ex9c (w : World) : Calls Tryz.prog 27 #[(Mu.mk 5 3 2 2).val, pv (5, 0, 1)] w (Ans (.tuple #[wv 1, .bool true]) w) := by
  have h := Lag.read (Mu.mk 5 3 2 2) (5, 0, 1) ex9in ex9p w
  rwa [show (Mu.mk 5 3 2 2).lag (5, 0, 1) = (true, 1) by first | rfl | decide +kernel] at h
theorem ex9d (w : World) : Calls Tryz.prog 27 #[(Mu.mk 5 3 2 2).val, pv (8, 0, 1)] w (Ans (.tuple #[wv (-2), .bool true]) w) := by
  have h := Lag.read (Mu.mk 5 3 2 2) (8, 0, 1) ex9in ex9q w
  rwa [show (Mu.mk 5 3 2 2).lag (8, 0, 1) = (true, -2) by first | rfl | decide +kernel] at h
/-- The example's variables. -/
def A9 (w : World) (g3 g4 g5 : Nat) (W : World) : Prop := (Cs W w.heap.size (pcells (5, 0, 1)) ∧ Cs W (w.heap.size + 1) (pcells (8, 0, 1)) ∧ Cs W g3 (Mu.mk 5 3 2 2).cells) ∧ (Cs W g4 [.int .i64 (hiW 1), .int .u64 (loW 1)] ∧ Cs W g5 [.int .i64 (hiW (-2)), .int .u64 (loW (-2))]) ∧ Below w.heap.size w W
theorem A9.below {w w1 w2 : World} {g3 g4 g5 : Nat} (h : A9 w g3 g4 g5 w1) (hb : Below w1.heap.size w1 w2) : A9 w g3 g4 g5 w2 := ⟨⟨h.1.1.below hb, h.1.2.1.below hb, h.1.2.2.below hb⟩, ⟨h.2.1.1.below hb, h.2.1.2.below hb⟩, below_on h.2.2 hb⟩
theorem A9.stays (w : World) (g3 g4 g5 : Nat) : Stays (A9 w g3 g4 g5) := fun _ _ h hb => h.below hb
set_option maxRecDepth 100000 in
set_option maxHeartbeats 8000000 in
theorem Law9.awake (w : World) (htab : Tab10 w.heap.size w) : Calls Tryz.prog 24 #[] w (Ans (.bool true) w) := by
  have HT := hid htab
  have HA0 : Hid ((Cs (((w.alloc (.cells #[.int .u64 5, .int .u32 0, .int .u32 1] 29)).alloc (.cells #[.int .u64 8, .int .u32 0, .int .u32 1] 29)).alloc (.cells #[.int .u64 5, .int .u32 0, .int .u32 1, .int .u64 8, .int .u32 0, .int .u32 1] 29)) w.heap.size (pcells (5, 0, 1)) ∧ Cs (((w.alloc (.cells #[.int .u64 5, .int .u32 0, .int .u32 1] 29)).alloc (.cells #[.int .u64 8, .int .u32 0, .int .u32 1] 29)).alloc (.cells #[.int .u64 5, .int .u32 0, .int .u32 1, .int .u64 8, .int .u32 0, .int .u32 1] 29)) (w.heap.size + 1) (pcells (8, 0, 1))) ∧ RdP (((w.alloc (.cells #[.int .u64 5, .int .u32 0, .int .u32 1] 29)).alloc (.cells #[.int .u64 8, .int .u32 0, .int .u32 1] 29)).alloc (.cells #[.int .u64 5, .int .u32 0, .int .u32 1, .int .u64 8, .int .u32 0, .int .u32 1] 29)) (some ⟨w.heap.size + 2, 0, none⟩) 2 [(5, 0, 1), (8, 0, 1)] ∧ Below w.heap.size w (((w.alloc (.cells #[.int .u64 5, .int .u32 0, .int .u32 1] 29)).alloc (.cells #[.int .u64 8, .int .u32 0, .int .u32 1] 29)).alloc (.cells #[.int .u64 5, .int .u32 0, .int .u32 1, .int .u64 8, .int .u32 0, .int .u32 1] 29))) := hid (by
    have h1 := Cs.alloc_new6 w 29 (pcells (5, 0, 1))
    have h2 := Cs.alloc_new6 (w.alloc (.cells #[.int .u64 5, .int .u32 0, .int .u32 1] 29)) 29 (pcells (8, 0, 1))
    have h3 := RdP.new2 ((w.alloc (.cells #[.int .u64 5, .int .u32 0, .int .u32 1] 29)).alloc (.cells #[.int .u64 8, .int .u32 0, .int .u32 1] 29)) 29 5 0 1 8 0 1
    simp only [World.size_alloc] at h2 h3
    exact ⟨⟨(h1.alloc _).alloc _, h2.alloc _⟩, h3, (((Below.refl w.heap.size w).alloc (Nat.le_refl _) _).alloc (by simp) _).alloc (by simp; omega) _⟩)
  clear htab
  go_enter Tryz.func24, Tryz.ntmps24
  go_wp2_with fail
  generalize (((w.alloc (.cells #[.int .u64 5, .int .u32 0, .int .u32 1] 29)).alloc (.cells #[.int .u64 8, .int .u32 0, .int .u32 1] 29)).alloc (.cells #[.int .u64 5, .int .u32 0, .int .u32 1, .int .u64 8, .int .u32 0, .int .u32 1] 29)) = W3 at HA0 ⊢
  refine (Mean.of 5 ⟨by decide, by decide⟩ (some ⟨w.heap.size + 2, 0, none⟩) 2 2 [(5, 0, 1), (8, 0, 1)] _ HA0.out.2.1 (fun p hp => by
    simp at hp
    rcases hp with rfl | rfl
    · exact ex9p
    · exact ex9q) (by decide)).mono ?_
  rw [ex8]
  rintro e w1 ⟨rfl, hb⟩
  have ha := (Below.refl w1.heap.size w1).alloc (Nat.le_refl _) (.cells #[.int .u64 5, .int .i64 (hiW 3), .int .u64 (loW 3), .int .u64 2, .int .i64 2] 36)
  have HA1 : Hid (((Cs (w1.alloc (.cells #[.int .u64 5, .int .i64 (hiW 3), .int .u64 (loW 3), .int .u64 2, .int .i64 2] 36)) w.heap.size (pcells (5, 0, 1)) ∧ Cs (w1.alloc (.cells #[.int .u64 5, .int .i64 (hiW 3), .int .u64 (loW 3), .int .u64 2, .int .i64 2] 36)) (w.heap.size + 1) (pcells (8, 0, 1))) ∧ Cs (w1.alloc (.cells #[.int .u64 5, .int .i64 (hiW 3), .int .u64 (loW 3), .int .u64 2, .int .i64 2] 36)) w1.heap.size (Mu.mk 5 3 2 2).cells) ∧ Below w.heap.size w (w1.alloc (.cells #[.int .u64 5, .int .i64 (hiW 3), .int .u64 (loW 3), .int .u64 2, .int .i64 2] 36))) := hid ⟨⟨⟨(HA0.out.1.1.below hb).below ha, (HA0.out.1.2.below hb).below ha⟩, Cs.alloc_new6 w1 _ (Mu.mk 5 3 2 2).cells⟩, below_on (below_on HA0.out.2.2 hb) ha⟩
  clear hb ha HA0
  obtain ⟨m0, m1, m2, m3, m4⟩ := Mu.at (Mu.mk 5 3 2 2) HA1.out.1.2
  obtain ⟨q0, q1, q2⟩ := P3.at (5, 0, 1) HA1.out.1.1.1
  dsimp only at m0 m1 m2 m3 m4 q0 q1 q2
  go_wp2_with fail
  clear m0 m1 m2 m3 m4 q0 q1 q2
  generalize w1.alloc (.cells #[.int .u64 5, .int .i64 (hiW 3), .int .u64 (loW 3), .int .u64 2, .int .i64 2] 36) = W4 at HA1 ⊢
  generalize w1.heap.size = g3 at HA1 ⊢
  refine (ex9c _).mono ?_
  rintro e w2 ⟨rfl, hb⟩
  have ha := (Below.refl w2.heap.size w2).alloc (Nat.le_refl _) (.cells #[.int .i64 (hiW 1), .int .u64 (loW 1)] 34)
  have HA2 : Hid (((Cs (w2.alloc (.cells #[.int .i64 (hiW 1), .int .u64 (loW 1)] 34)) w.heap.size (pcells (5, 0, 1)) ∧ Cs (w2.alloc (.cells #[.int .i64 (hiW 1), .int .u64 (loW 1)] 34)) (w.heap.size + 1) (pcells (8, 0, 1))) ∧ Cs (w2.alloc (.cells #[.int .i64 (hiW 1), .int .u64 (loW 1)] 34)) g3 (Mu.mk 5 3 2 2).cells) ∧ Cs (w2.alloc (.cells #[.int .i64 (hiW 1), .int .u64 (loW 1)] 34)) w2.heap.size [.int .i64 (hiW 1), .int .u64 (loW 1)] ∧ Below w.heap.size w (w2.alloc (.cells #[.int .i64 (hiW 1), .int .u64 (loW 1)] 34))) := hid ⟨⟨⟨(HA1.out.1.1.1.below hb).below ha, (HA1.out.1.1.2.below hb).below ha⟩, (HA1.out.1.2.below hb).below ha⟩, Cs.new2 w2 _ _ _, below_on (below_on HA1.out.2 hb) ha⟩
  clear hb ha HA1
  obtain ⟨m0, m1, m2, m3, m4⟩ := Mu.at (Mu.mk 5 3 2 2) HA2.out.1.2
  obtain ⟨q0, q1, q2⟩ := P3.at (8, 0, 1) HA2.out.1.1.2
  dsimp only at m0 m1 m2 m3 m4 q0 q1 q2
  go_wp2_with fail
  clear m0 m1 m2 m3 m4 q0 q1 q2
  generalize w2.alloc (.cells #[.int .i64 (hiW 1), .int .u64 (loW 1)] 34) = W5 at HA2 ⊢
  generalize w2.heap.size = g4 at HA2 ⊢
  refine (ex9d _).mono ?_
  rintro e w3 ⟨rfl, hb⟩
  have ha := (Below.refl w3.heap.size w3).alloc (Nat.le_refl _) (.cells #[.int .i64 (hiW (-2)), .int .u64 (loW (-2))] 34)
  have HA5 : Hid (A9 w g3 g4 w3.heap.size (w3.alloc (.cells #[.int .i64 (hiW (-2)), .int .u64 (loW (-2))] 34))) := hid ⟨⟨(HA2.out.1.1.1.below hb).below ha, (HA2.out.1.1.2.below hb).below ha, (HA2.out.1.2.below hb).below ha⟩, ⟨(HA2.out.2.1.below hb).below ha, Cs.new2 w3 _ _ _⟩, below_on (below_on HA2.out.2.2 hb) ha⟩
  clear hb ha HA2
  go_wp2_with fail
  generalize w3.alloc (.cells #[.int .i64 (hiW (-2)), .int .u64 (loW (-2))] 34) = W6 at HA5 ⊢
  generalize w3.heap.size = g5 at HA5 ⊢
  refine wp_region_grow (S := A9 w g3 g4 g5) 32 (by kernel_rfl) (HA5.out.below (Below.refl _ _).drew) ?_
  refine wpAnyE_take (i := 0) (v := Value.bool true) (A9.stays w g3 g4 g5) (fun _ h => h) rfl (by kernel_rfl) (by kernel_rfl) (by kernel_rfl) (by kernel_rfl) (fun _ _ _ h => h) (Or.inl ⟨by rfl, fun wq hSw => ?_⟩) ?_
  · refine RunB.of_calls (Law8.Awake wq (HT.out.at2 hSw.2.2)) (by go_simp) ?_
    rintro e wr ⟨rfl, hb⟩
    exact ⟨rfl, hb⟩
  try simp only [List.getElem_toArray, List.getElem_cons_zero, List.getElem_cons_succ, Act.put, List.setIfInBounds_toArray, List.set_cons_zero, List.set_cons_succ]
  refine wpAnyE_take (i := 1) (v := ?_) (A9.stays w g3 g4 g5) (fun _ h => h) rfl (by kernel_rfl) (by kernel_rfl) (by kernel_rfl) (by kernel_rfl) (fun _ _ _ h => h) (SteadyB.of_yields (Or.inl ⟨by rfl, ?_⟩)) ?_
  rotate_left
  · intro wq hSw
    go_simp
    (try with_reducible rfl)
  try simp only [List.getElem_toArray, List.getElem_cons_zero, List.getElem_cons_succ, Act.put, List.setIfInBounds_toArray, List.set_cons_zero, List.set_cons_succ]
  refine wpAnyE_take (i := 2) (v := ?_) (A9.stays w g3 g4 g5) (fun _ h => h) rfl (by kernel_rfl) (by kernel_rfl) (by kernel_rfl) (by kernel_rfl) (fun _ _ _ h => h) (SteadyB.of_yields (Or.inl ⟨by rfl, ?_⟩)) ?_
  rotate_left
  · intro wq hSw
    go_simp
    (try with_reducible rfl)
  try simp only [List.getElem_toArray, List.getElem_cons_zero, List.getElem_cons_succ, Act.put, List.setIfInBounds_toArray, List.set_cons_zero, List.set_cons_succ]
  refine wpAnyE_take (i := 3) (v := ?_) (A9.stays w g3 g4 g5) (fun _ h => h) rfl (by kernel_rfl) (by kernel_rfl) (by kernel_rfl) (by kernel_rfl) (fun _ _ _ h => h) (SteadyB.of_yields (Or.inl ⟨by rfl, ?_⟩)) ?_
  rotate_left
  · intro wq hSw
    go_simp
    (try with_reducible rfl)
  try simp only [List.getElem_toArray, List.getElem_cons_zero, List.getElem_cons_succ, Act.put, List.setIfInBounds_toArray, List.set_cons_zero, List.set_cons_succ]
  refine wpAnyE_take (i := 4) (v := ?_) (A9.stays w g3 g4 g5) (fun _ h => h) rfl (by kernel_rfl) (by kernel_rfl) (by kernel_rfl) (by kernel_rfl) (fun _ _ _ h => h) (SteadyB.of_yields (Or.inl ⟨by rfl, ?_⟩)) ?_
  rotate_left
  · intro wq hSw
    go_simp
    (try with_reducible rfl)
  try simp only [List.getElem_toArray, List.getElem_cons_zero, List.getElem_cons_succ, Act.put, List.setIfInBounds_toArray, List.set_cons_zero, List.set_cons_succ]
  refine wpAnyE_take (i := 5) (v := ?_) (A9.stays w g3 g4 g5) (fun _ h => h) rfl (by kernel_rfl) (by kernel_rfl) (by kernel_rfl) (by kernel_rfl) (fun _ _ _ h => h) (SteadyB.of_yields (Or.inl ⟨by rfl, ?_⟩)) ?_
  rotate_left
  · intro wq hSw
    go_simp
    (try with_reducible rfl)
  try simp only [List.getElem_toArray, List.getElem_cons_zero, List.getElem_cons_succ, Act.put, List.setIfInBounds_toArray, List.set_cons_zero, List.set_cons_succ]
  refine wpAnyE_take (i := 6) (v := ?_) (A9.stays w g3 g4 g5) (fun _ h => h) rfl (by kernel_rfl) (by kernel_rfl) (by kernel_rfl) (by kernel_rfl) (fun _ _ _ h => h) (SteadyB.of_yields (Or.inl ⟨by rfl, ?_⟩)) ?_
  rotate_left
  · intro wq hSw
    go_simp
    (try with_reducible rfl)
  try simp only [List.getElem_toArray, List.getElem_cons_zero, List.getElem_cons_succ, Act.put, List.setIfInBounds_toArray, List.set_cons_zero, List.set_cons_succ]
  refine wpAnyE_take (i := 7) (v := ?_) (A9.stays w g3 g4 g5) (fun _ h => h) rfl (by kernel_rfl) (by kernel_rfl) (by kernel_rfl) (by kernel_rfl) (fun _ _ _ h => h) (SteadyB.of_yields (Or.inl ⟨by rfl, ?_⟩)) ?_
  rotate_left
  · intro wq hSw
    go_simp
    (try with_reducible rfl)
  try simp only [List.getElem_toArray, List.getElem_cons_zero, List.getElem_cons_succ, Act.put, List.setIfInBounds_toArray, List.set_cons_zero, List.set_cons_succ]
  refine wpAnyE_take (i := 8) (v := ?_) (A9.stays w g3 g4 g5) (fun _ h => h) rfl (by kernel_rfl) (by kernel_rfl) (by kernel_rfl) (by kernel_rfl) (fun _ _ _ h => h) (SteadyB.of_yields (Or.inl ⟨by rfl, ?_⟩)) ?_
  rotate_left
  · intro wq hSw
    go_simp
    (try with_reducible rfl)
  try simp only [List.getElem_toArray, List.getElem_cons_zero, List.getElem_cons_succ, Act.put, List.setIfInBounds_toArray, List.set_cons_zero, List.set_cons_succ]
  refine wpAnyE_take (i := 9) (v := ?_) (A9.stays w g3 g4 g5) (fun _ h => h) rfl (by kernel_rfl) (by kernel_rfl) (by kernel_rfl) (by kernel_rfl) (fun _ _ _ h => h) (SteadyB.of_yields (Or.inl ⟨by rfl, ?_⟩)) ?_
  rotate_left
  · intro wq hSw
    go_simp
    (try with_reducible rfl)
  try simp only [List.getElem_toArray, List.getElem_cons_zero, List.getElem_cons_succ, Act.put, List.setIfInBounds_toArray, List.set_cons_zero, List.set_cons_succ]
  refine wpAnyE_take (i := 10) (v := ?_) (A9.stays w g3 g4 g5) (fun _ h => h) rfl (by kernel_rfl) (by kernel_rfl) (by kernel_rfl) (by kernel_rfl) (fun _ _ _ h => h) (SteadyB.of_yields (Or.inl ⟨by rfl, ?_⟩)) ?_
  rotate_left
  · intro wq hSw
    go_simp
    (try with_reducible rfl)
  try simp only [List.getElem_toArray, List.getElem_cons_zero, List.getElem_cons_succ, Act.put, List.setIfInBounds_toArray, List.set_cons_zero, List.set_cons_succ]
  refine wpAnyE_take (i := 11) (v := ?_) (A9.stays w g3 g4 g5) (fun _ h => h) rfl (by kernel_rfl) (by kernel_rfl) (by kernel_rfl) (by kernel_rfl) (fun _ _ _ h => h) (SteadyB.of_yields (Or.inl ⟨by rfl, ?_⟩)) ?_
  rotate_left
  · intro wq hSw
    obtain ⟨m0, m1, m2, m3, m4⟩ := Mu.at (Mu.mk 5 3 2 2) hSw.1.2.2
    obtain ⟨q0, q1, q2⟩ := P3.at (5, 0, 1) hSw.1.1
    obtain ⟨r0, r1, r2⟩ := P3.at (8, 0, 1) hSw.1.2.1
    have a0 := hSw.2.1.1.at0
    have a1 := hSw.2.1.1.at1
    have b0 := hSw.2.1.2.at0
    have b1 := hSw.2.1.2.at1
    dsimp only at m0 m1 m2 m3 m4 q0 q1 q2 r0 r1 r2
    go_simp
    (try with_reducible rfl)
  try simp only [List.getElem_toArray, List.getElem_cons_zero, List.getElem_cons_succ, Act.put, List.setIfInBounds_toArray, List.set_cons_zero, List.set_cons_succ]
  refine wpAnyE_take (i := 12) (v := wv 1) (A9.stays w g3 g4 g5) (fun _ h => h) rfl (by kernel_rfl) (by kernel_rfl) (by kernel_rfl) (by kernel_rfl) (fun _ _ _ h => h) (Or.inl ⟨by rfl, fun wq hSw => ?_⟩) ?_
  · refine RunB.of_calls (Wide.ofF (x := 1) (by decide) (by decide) wq) (by go_simp) ?_
    rintro e wr ⟨rfl, hb⟩
    exact ⟨rfl, hb⟩
  try simp only [List.getElem_toArray, List.getElem_cons_zero, List.getElem_cons_succ, Act.put, List.setIfInBounds_toArray, List.set_cons_zero, List.set_cons_succ]
  refine wpAnyE_take (i := 13) (v := ?_) (A9.stays w g3 g4 g5) (fun _ h => h) rfl (by kernel_rfl) (by kernel_rfl) (by kernel_rfl) (by kernel_rfl) (fun _ _ _ h => h) (SteadyB.of_yields (Or.inl ⟨by rfl, ?_⟩)) ?_
  rotate_left
  · intro wq hSw
    go_simp
    (try with_reducible rfl)
  try simp only [List.getElem_toArray, List.getElem_cons_zero, List.getElem_cons_succ, Act.put, List.setIfInBounds_toArray, List.set_cons_zero, List.set_cons_succ]
  refine wpAnyE_take (i := 14) (v := ?_) (A9.stays w g3 g4 g5) (fun _ h => h) rfl (by kernel_rfl) (by kernel_rfl) (by kernel_rfl) (by kernel_rfl) (fun _ _ _ h => h) (SteadyB.of_yields (Or.inl ⟨by rfl, ?_⟩)) ?_
  rotate_left
  · intro wq hSw
    go_simp
    (try with_reducible rfl)
  try simp only [List.getElem_toArray, List.getElem_cons_zero, List.getElem_cons_succ, Act.put, List.setIfInBounds_toArray, List.set_cons_zero, List.set_cons_succ]
  refine wpAnyE_take (i := 15) (v := ?_) (A9.stays w g3 g4 g5) (fun _ h => h) rfl (by kernel_rfl) (by kernel_rfl) (by kernel_rfl) (by kernel_rfl) (fun _ _ _ h => h) (SteadyB.of_yields (Or.inl ⟨by rfl, ?_⟩)) ?_
  rotate_left
  · intro wq hSw
    go_simp
    (try with_reducible rfl)
  try simp only [List.getElem_toArray, List.getElem_cons_zero, List.getElem_cons_succ, Act.put, List.setIfInBounds_toArray, List.set_cons_zero, List.set_cons_succ]
  refine wpAnyE_take (i := 16) (v := ?_) (A9.stays w g3 g4 g5) (fun _ h => h) rfl (by kernel_rfl) (by kernel_rfl) (by kernel_rfl) (by kernel_rfl) (fun _ _ _ h => h) (SteadyB.of_yields (Or.inl ⟨by rfl, ?_⟩)) ?_
  rotate_left
  · intro wq hSw
    obtain ⟨m0, m1, m2, m3, m4⟩ := Mu.at (Mu.mk 5 3 2 2) hSw.1.2.2
    obtain ⟨q0, q1, q2⟩ := P3.at (5, 0, 1) hSw.1.1
    obtain ⟨r0, r1, r2⟩ := P3.at (8, 0, 1) hSw.1.2.1
    have a0 := hSw.2.1.1.at0
    have a1 := hSw.2.1.1.at1
    have b0 := hSw.2.1.2.at0
    have b1 := hSw.2.1.2.at1
    dsimp only at m0 m1 m2 m3 m4 q0 q1 q2 r0 r1 r2
    go_simp
    (try with_reducible rfl)
  try simp only [List.getElem_toArray, List.getElem_cons_zero, List.getElem_cons_succ, Act.put, List.setIfInBounds_toArray, List.set_cons_zero, List.set_cons_succ]
  refine wpAnyE_take (i := 17) (v := wv (-2)) (A9.stays w g3 g4 g5) (fun _ h => h) rfl (by kernel_rfl) (by kernel_rfl) (by kernel_rfl) (by kernel_rfl) (fun _ _ _ h => h) (Or.inl ⟨by rfl, fun wq hSw => ?_⟩) ?_
  · refine RunB.of_calls (Wide.ofF (x := -2) (by decide) (by decide) wq) (by go_simp) ?_
    rintro e wr ⟨rfl, hb⟩
    exact ⟨rfl, hb⟩
  try simp only [List.getElem_toArray, List.getElem_cons_zero, List.getElem_cons_succ, Act.put, List.setIfInBounds_toArray, List.set_cons_zero, List.set_cons_succ]
  refine wpAnyE_take (i := 18) (v := ?_) (A9.stays w g3 g4 g5) (fun _ h => h) rfl (by kernel_rfl) (by kernel_rfl) (by kernel_rfl) (by kernel_rfl) (fun _ _ _ h => h) (SteadyB.of_yields (Or.inl ⟨by rfl, ?_⟩)) ?_
  rotate_left
  · intro wq hSw
    go_simp
    (try with_reducible rfl)
  try simp only [List.getElem_toArray, List.getElem_cons_zero, List.getElem_cons_succ, Act.put, List.setIfInBounds_toArray, List.set_cons_zero, List.set_cons_succ]
  refine wpAnyE_take (i := 19) (v := ?_) (A9.stays w g3 g4 g5) (fun _ h => h) rfl (by kernel_rfl) (by kernel_rfl) (by kernel_rfl) (by kernel_rfl) (fun _ _ _ h => h) (SteadyB.of_yields (Or.inl ⟨by rfl, ?_⟩)) ?_
  rotate_left
  · intro wq hSw
    go_simp
    (try with_reducible rfl)
  try simp only [List.getElem_toArray, List.getElem_cons_zero, List.getElem_cons_succ, Act.put, List.setIfInBounds_toArray, List.set_cons_zero, List.set_cons_succ]
  refine wpAnyE_take (i := 20) (v := ?_) (A9.stays w g3 g4 g5) (fun _ h => h) rfl (by kernel_rfl) (by kernel_rfl) (by kernel_rfl) (by kernel_rfl) (fun _ _ _ h => h) (SteadyB.of_yields (Or.inl ⟨by rfl, ?_⟩)) ?_
  rotate_left
  · intro wq hSw
    go_simp
    (try with_reducible rfl)
  try simp only [List.getElem_toArray, List.getElem_cons_zero, List.getElem_cons_succ, Act.put, List.setIfInBounds_toArray, List.set_cons_zero, List.set_cons_succ]
  refine wpAnyE_take (i := 21) (v := ?_) (A9.stays w g3 g4 g5) (fun _ h => h) rfl (by kernel_rfl) (by kernel_rfl) (by kernel_rfl) (by kernel_rfl) (fun _ _ _ h => h) (SteadyB.of_yields (Or.inl ⟨by rfl, ?_⟩)) ?_
  rotate_left
  · intro wq hSw
    obtain ⟨m0, m1, m2, m3, m4⟩ := Mu.at (Mu.mk 5 3 2 2) hSw.1.2.2
    obtain ⟨q0, q1, q2⟩ := P3.at (5, 0, 1) hSw.1.1
    obtain ⟨r0, r1, r2⟩ := P3.at (8, 0, 1) hSw.1.2.1
    have a0 := hSw.2.1.1.at0
    have a1 := hSw.2.1.1.at1
    have b0 := hSw.2.1.2.at0
    have b1 := hSw.2.1.2.at1
    dsimp only at m0 m1 m2 m3 m4 q0 q1 q2 r0 r1 r2
    go_simp
    (try with_reducible rfl)
  try simp only [List.getElem_toArray, List.getElem_cons_zero, List.getElem_cons_succ, Act.put, List.setIfInBounds_toArray, List.set_cons_zero, List.set_cons_succ]
  refine wpAnyE_take (i := 22) (v := ?_) (A9.stays w g3 g4 g5) (fun _ h => h) rfl (by kernel_rfl) (by kernel_rfl) (by kernel_rfl) (by kernel_rfl) (fun _ _ _ h => h) (SteadyB.of_yields (Or.inl ⟨by rfl, ?_⟩)) ?_
  rotate_left
  · intro wq hSw
    obtain ⟨m0, m1, m2, m3, m4⟩ := Mu.at (Mu.mk 5 3 2 2) hSw.1.2.2
    obtain ⟨q0, q1, q2⟩ := P3.at (5, 0, 1) hSw.1.1
    obtain ⟨r0, r1, r2⟩ := P3.at (8, 0, 1) hSw.1.2.1
    have a0 := hSw.2.1.1.at0
    have a1 := hSw.2.1.1.at1
    have b0 := hSw.2.1.2.at0
    have b1 := hSw.2.1.2.at1
    dsimp only at m0 m1 m2 m3 m4 q0 q1 q2 r0 r1 r2
    go_simp
    (try with_reducible rfl)
  try simp only [List.getElem_toArray, List.getElem_cons_zero, List.getElem_cons_succ, Act.put, List.setIfInBounds_toArray, List.set_cons_zero, List.set_cons_succ]
  refine wpAnyE_take (i := 23) (v := Value.bool true) (A9.stays w g3 g4 g5) (fun _ h => h) rfl (by kernel_rfl) (by kernel_rfl) (by kernel_rfl) (by kernel_rfl) (fun _ _ _ h => h) (Or.inl ⟨by rfl, fun wq hSw => ?_⟩) ?_
  · refine RunB.of_calls (ex9a wq) (by go_simp) ?_
    rintro e wr ⟨rfl, hb⟩
    exact ⟨rfl, hb⟩
  try simp only [List.getElem_toArray, List.getElem_cons_zero, List.getElem_cons_succ, Act.put, List.setIfInBounds_toArray, List.set_cons_zero, List.set_cons_succ]
  refine wpAnyE_take (i := 24) (v := ?_) (A9.stays w g3 g4 g5) (fun _ h => h) rfl (by kernel_rfl) (by kernel_rfl) (by kernel_rfl) (by kernel_rfl) (fun _ _ _ h => h) (SteadyB.of_yields (Or.inl ⟨by rfl, ?_⟩)) ?_
  rotate_left
  · intro wq hSw
    go_simp
    (try with_reducible rfl)
  try simp only [List.getElem_toArray, List.getElem_cons_zero, List.getElem_cons_succ, Act.put, List.setIfInBounds_toArray, List.set_cons_zero, List.set_cons_succ]
  refine wpAnyE_take (i := 25) (v := ?_) (A9.stays w g3 g4 g5) (fun _ h => h) rfl (by kernel_rfl) (by kernel_rfl) (by kernel_rfl) (by kernel_rfl) (fun _ _ _ h => h) (SteadyB.of_yields (Or.inl ⟨by rfl, ?_⟩)) ?_
  rotate_left
  · intro wq hSw
    go_simp
    (try with_reducible rfl)
  try simp only [List.getElem_toArray, List.getElem_cons_zero, List.getElem_cons_succ, Act.put, List.setIfInBounds_toArray, List.set_cons_zero, List.set_cons_succ]
  refine wpAnyE_take (i := 26) (v := ?_) (A9.stays w g3 g4 g5) (fun _ h => h) rfl (by kernel_rfl) (by kernel_rfl) (by kernel_rfl) (by kernel_rfl) (fun _ _ _ h => h) (SteadyB.of_yields (Or.inl ⟨by rfl, ?_⟩)) ?_
  rotate_left
  · intro wq hSw
    obtain ⟨m0, m1, m2, m3, m4⟩ := Mu.at (Mu.mk 5 3 2 2) hSw.1.2.2
    obtain ⟨q0, q1, q2⟩ := P3.at (5, 0, 1) hSw.1.1
    obtain ⟨r0, r1, r2⟩ := P3.at (8, 0, 1) hSw.1.2.1
    have a0 := hSw.2.1.1.at0
    have a1 := hSw.2.1.1.at1
    have b0 := hSw.2.1.2.at0
    have b1 := hSw.2.1.2.at1
    dsimp only at m0 m1 m2 m3 m4 q0 q1 q2 r0 r1 r2
    go_simp
    (try with_reducible rfl)
  try simp only [List.getElem_toArray, List.getElem_cons_zero, List.getElem_cons_succ, Act.put, List.setIfInBounds_toArray, List.set_cons_zero, List.set_cons_succ]
  refine wpAnyE_take (i := 27) (v := ?_) (A9.stays w g3 g4 g5) (fun _ h => h) rfl (by kernel_rfl) (by kernel_rfl) (by kernel_rfl) (by kernel_rfl) (fun _ _ _ h => h) (SteadyB.of_yields (Or.inl ⟨by rfl, ?_⟩)) ?_
  rotate_left
  · intro wq hSw
    obtain ⟨m0, m1, m2, m3, m4⟩ := Mu.at (Mu.mk 5 3 2 2) hSw.1.2.2
    obtain ⟨q0, q1, q2⟩ := P3.at (5, 0, 1) hSw.1.1
    obtain ⟨r0, r1, r2⟩ := P3.at (8, 0, 1) hSw.1.2.1
    have a0 := hSw.2.1.1.at0
    have a1 := hSw.2.1.1.at1
    have b0 := hSw.2.1.2.at0
    have b1 := hSw.2.1.2.at1
    dsimp only at m0 m1 m2 m3 m4 q0 q1 q2 r0 r1 r2
    go_simp
    (try with_reducible rfl)
  try simp only [List.getElem_toArray, List.getElem_cons_zero, List.getElem_cons_succ, Act.put, List.setIfInBounds_toArray, List.set_cons_zero, List.set_cons_succ]
  refine wpAnyE_take (i := 28) (v := Value.bool false) (A9.stays w g3 g4 g5) (fun _ h => h) rfl (by kernel_rfl) (by kernel_rfl) (by kernel_rfl) (by kernel_rfl) (fun _ _ _ h => h) (Or.inl ⟨by rfl, fun wq hSw => ?_⟩) ?_
  · refine RunB.of_calls (ex9b wq) (by go_simp) ?_
    rintro e wr ⟨rfl, hb⟩
    exact ⟨rfl, hb⟩
  try simp only [List.getElem_toArray, List.getElem_cons_zero, List.getElem_cons_succ, Act.put, List.setIfInBounds_toArray, List.set_cons_zero, List.set_cons_succ]
  refine wpAnyE_take (i := 29) (v := ?_) (A9.stays w g3 g4 g5) (fun _ h => h) rfl (by kernel_rfl) (by kernel_rfl) (by kernel_rfl) (by kernel_rfl) (fun _ _ _ h => h) (SteadyB.of_yields (Or.inl ⟨by rfl, ?_⟩)) ?_
  rotate_left
  · intro wq hSw
    go_simp
    (try with_reducible rfl)
  try simp only [List.getElem_toArray, List.getElem_cons_zero, List.getElem_cons_succ, Act.put, List.setIfInBounds_toArray, List.set_cons_zero, List.set_cons_succ]
  refine wpAnyE_take (i := 30) (v := ?_) (A9.stays w g3 g4 g5) (fun _ h => h) rfl (by kernel_rfl) (by kernel_rfl) (by kernel_rfl) (by kernel_rfl) (fun _ _ _ h => h) (SteadyB.of_yields (Or.inl ⟨by rfl, ?_⟩)) ?_
  rotate_left
  · intro wq hSw
    go_simp
    (try with_reducible rfl)
  try simp only [List.getElem_toArray, List.getElem_cons_zero, List.getElem_cons_succ, Act.put, List.setIfInBounds_toArray, List.set_cons_zero, List.set_cons_succ]
  refine wpAnyE_take (i := 31) (v := ?_) (A9.stays w g3 g4 g5) (fun _ h => h) rfl (by kernel_rfl) (by kernel_rfl) (by kernel_rfl) (by kernel_rfl) (fun _ _ _ h => h) (SteadyB.of_yields (Or.inl ⟨by rfl, ?_⟩)) ?_
  rotate_left
  · intro wq hSw
    go_simp
    (try with_reducible rfl)
  try simp only [List.getElem_toArray, List.getElem_cons_zero, List.getElem_cons_succ, Act.put, List.setIfInBounds_toArray, List.set_cons_zero, List.set_cons_succ]
  refine wpAnyE_done (by kernel_rfl) (fun wz hSz => ?_) _
  have HF := hid hSz.2.2
  clear hSz HA5
  go_wp2_with fail
  go_ret
  exact ⟨rfl, HF.out⟩
theorem Law9.Awake (w : World) (htab : Tab10 w.heap.size w) : Calls Tryz.prog 85 #[] w (Ans (.bool true) w) := by
  go_enter Tryz.func85, Tryz.ntmps85
  go_wp2_with (go_at_call 24; refine (Law9.awake _ htab).mono ?_; rintro e w' ⟨rfl, hb⟩)
  go_ret
  exact ⟨rfl, hb⟩
end

/- LagReads: the walk. -/
section
open Go.RowKit
theorem lag_wr' (m : Mu) (p : P3) : WR (m.lag p).2 := by
  unfold Mu.lag
  split
  · rename_i h
    unfold Mu.ovOk at h
    simp only [Bool.and_eq_true, decide_eq_true_eq] at h
    have := right_w h.1.1.1.1 h.1.1.1.2
    exact div_wr (okW_iff.1 h.2) (by omega)
  · unfold WR; omega
theorem cmpI_ge0' {x : Int} : 0 ≤ cmpI x 0 ↔ 0 ≤ x := by unfold cmpI; split <;> (try split) <;> omega
set_option maxRecDepth 100000 in
set_option maxHeartbeats 4000000 in
theorem Lreads.away1 (m : Mu) (p : P3) (hm : m.In) (hp : PIn p) (hn : m.n < 0) (w : World) (htab : Tab10 w.heap.size w) : Calls Tryz.prog 4 #[m.val, pv p] w (Ans (.bool true) w) := by
  have HT := hid htab
  have HM := hid hm
  have HP := hid hp
  have HQ := hid (M2'.new w m p)
  have HE : Hid (m.elig p = false) := hid (by
    have hr : m.right = false := by unfold Mu.right; rw [if_neg (by omega)]; simp; omega
    unfold Mu.elig Mu.over Mu.ovOk; rw [hr]; rfl)
  clear htab hm hp
  unfold Mu.val pv
  go_enter Tryz.func4, Tryz.ntmps4
  go_wp2_with fail
  generalize ((w.alloc (.cells #[.int .u64 m.b, .int .i64 (hiW m.a), .int .u64 (loW m.a), .int .u64 m.w, .int .i64 m.n] 36)).alloc (.cells #[.int .u64 p.1, .int .u32 p.2.1, .int .u32 p.2.2] 29)) = W0 at HQ ⊢
  refine (Law9.awake _ (HT.out.at2 HQ.out.2.2)).mono ?_
  rintro e w1 ⟨rfl, hb⟩
  replace HQ := hid (HQ.out.below hb)
  clear hb HT
  obtain ⟨m0, m1, m2, m3, m4⟩ := Mu.at m HQ.out.1
  obtain ⟨q0, q1, q2⟩ := P3.at p HQ.out.2.1
  go_wp2_with fail
  clear m0 m1 m2 m3 m4 q0 q1 q2
  refine (Lag.eligible m p HM.out HP.out _).mono ?_
  rw [HE.out]
  rintro e w2 ⟨rfl, hb⟩
  replace HQ := hid (HQ.out.below hb)
  clear hb
  go_wp2_with fail
  go_ret
  exact ⟨rfl, HQ.out.2.2⟩
set_option maxRecDepth 100000 in
set_option maxHeartbeats 4000000 in
theorem Lreads.away2 (m : Mu) (p : P3) (hm : m.In) (hp : PIn p) (hn : ¬ m.n < 0) (hn2 : 1000 < m.n) (w : World) (htab : Tab10 w.heap.size w) : Calls Tryz.prog 4 #[m.val, pv p] w (Ans (.bool true) w) := by
  have HT := hid htab
  have HM := hid hm
  have HP := hid hp
  have HQ := hid (M2'.new w m p)
  have HE : Hid (m.elig p = false) := hid (by
    have hr : m.right = false := by unfold Mu.right; rw [if_neg (by omega)]; simp; omega
    unfold Mu.elig Mu.over Mu.ovOk; rw [hr]; rfl)
  clear htab hm hp
  unfold Mu.val pv
  go_enter Tryz.func4, Tryz.ntmps4
  go_wp2_with fail
  generalize ((w.alloc (.cells #[.int .u64 m.b, .int .i64 (hiW m.a), .int .u64 (loW m.a), .int .u64 m.w, .int .i64 m.n] 36)).alloc (.cells #[.int .u64 p.1, .int .u32 p.2.1, .int .u32 p.2.2] 29)) = W0 at HQ ⊢
  refine (Law9.awake _ (HT.out.at2 HQ.out.2.2)).mono ?_
  rintro e w1 ⟨rfl, hb⟩
  replace HQ := hid (HQ.out.below hb)
  clear hb HT
  obtain ⟨m0, m1, m2, m3, m4⟩ := Mu.at m HQ.out.1
  obtain ⟨q0, q1, q2⟩ := P3.at p HQ.out.2.1
  go_wp2_with fail
  clear m0 m1 m2 m3 m4 q0 q1 q2
  refine (Lag.eligible m p HM.out HP.out _).mono ?_
  rw [HE.out]
  rintro e w2 ⟨rfl, hb⟩
  replace HQ := hid (HQ.out.below hb)
  clear hb
  go_wp2_with fail
  go_ret
  exact ⟨rfl, HQ.out.2.2⟩
set_option maxRecDepth 100000 in
set_option maxHeartbeats 16000000 in
theorem Lreads.yes (m : Mu) (p : P3) (k : Bool) (o x : Int) (hov : m.over p = (k, o)) (hlg : m.lag p = (k, x)) (hm : m.In) (hp : PIn p) (hn : ¬ m.n < 0) (hn2 : ¬ 1000 < m.n) (hk : k = true) (c : 0 ≤ o) (w : World) (htab : Tab10 w.heap.size w) : Calls Tryz.prog 4 #[m.val, pv p] w (Ans (.bool true) w) := by
  have HT := hid htab
  have HM := hid hm
  have HP := hid hp
  have HQ := hid (M2'.new w m p)
  have HOV := hid hov
  have HLG := hid hlg
  have HSG : Hid (m.sign p = (k, cmpI o 0)) := hid (by unfold Mu.sign; rw [hov])
  have HXW : Hid (WR x) := hid (by have := lag_wr' m p; rwa [hlg] at this)
  subst hk
  have HEL : Hid (m.elig p = true) := hid (by unfold Mu.elig; rw [hov]; simp [cmpI_ge0'.2 c])
  have c1 : 0 ≤ cmpI o 0 := cmpI_ge0'.2 c
  clear c
  clear htab hm hp hov hlg
  unfold Mu.val pv
  go_enter Tryz.func4, Tryz.ntmps4
  go_wp2_with fail
  generalize ((w.alloc (.cells #[.int .u64 m.b, .int .i64 (hiW m.a), .int .u64 (loW m.a), .int .u64 m.w, .int .i64 m.n] 36)).alloc (.cells #[.int .u64 p.1, .int .u32 p.2.1, .int .u32 p.2.2] 29)) = W0 at HQ ⊢
  refine (Law9.awake _ (HT.out.at2 HQ.out.2.2)).mono ?_
  rintro e w1 ⟨rfl, hb⟩
  replace HQ := hid (HQ.out.below hb)
  clear hb HT
  obtain ⟨m0, m1, m2, m3, m4⟩ := Mu.at m HQ.out.1
  obtain ⟨q0, q1, q2⟩ := P3.at p HQ.out.2.1
  go_wp2_with fail
  clear m0 m1 m2 m3 m4 q0 q1 q2
  refine (Lag.sign m p HM.out HP.out _).mono ?_
  rw [HSG.out]
  rintro e w2 ⟨rfl, hb⟩
  replace HQ := hid (HQ.out.below hb)
  clear hb
  obtain ⟨m0, m1, m2, m3, m4⟩ := Mu.at m HQ.out.1
  obtain ⟨q0, q1, q2⟩ := P3.at p HQ.out.2.1
  go_wp2_with fail
  clear m0 m1 m2 m3 m4 q0 q1 q2
  refine (Lag.read m p HM.out HP.out _).mono ?_
  rw [HLG.out]
  rintro e w3 ⟨rfl, hb⟩
  have ha := (Below.refl w3.heap.size w3).alloc (Nat.le_refl _) (.cells #[.int .i64 (hiW x), .int .u64 (loW x)] 34)
  have HQ7 : Hid (((Cs (w3.alloc (.cells #[.int .i64 (hiW x), .int .u64 (loW x)] 34)) w.heap.size m.cells ∧ Cs (w3.alloc (.cells #[.int .i64 (hiW x), .int .u64 (loW x)] 34)) (w.heap.size + 1) (pcells p)) ∧ (Cs (w3.alloc (.cells #[.int .i64 (hiW x), .int .u64 (loW x)] 34)) w3.heap.size [.int .i64 (hiW x), .int .u64 (loW x)] ∧ w.heap.size + 1 < w3.heap.size)) ∧ Below w.heap.size w (w3.alloc (.cells #[.int .i64 (hiW x), .int .u64 (loW x)] 34))) := hid ⟨⟨⟨(HQ.out.1.below hb).below ha, (HQ.out.2.1.below hb).below ha⟩, Cs.new2 w3 _ _ _, (HQ.out.2.1.below hb).lt⟩, below_on (below_on HQ.out.2.2 hb) ha⟩
  clear hb ha HQ
  go_wp2_with fail
  generalize w3.alloc (.cells #[.int .i64 (hiW x), .int .u64 (loW x)] 34) = W3 at HQ7 ⊢
  generalize w3.heap.size = gx at HQ7 ⊢
  have hsT1 : Stays (fun wx => ((Cs wx w.heap.size m.cells ∧ Cs wx (w.heap.size + 1) (pcells p)) ∧ (Cs wx gx [.int .i64 (hiW x), .int .u64 (loW x)] ∧ w.heap.size + 1 < gx)) ∧ Below w.heap.size w wx) := fun _ _ h hb => ⟨⟨⟨h.1.1.1.below hb, h.1.1.2.below hb⟩, h.1.2.1.below hb, h.1.2.2⟩, below_on h.2 hb⟩
  refine wp_region_grow (S := fun wx => ((Cs wx w.heap.size m.cells ∧ Cs wx (w.heap.size + 1) (pcells p)) ∧ (Cs wx gx [.int .i64 (hiW x), .int .u64 (loW x)] ∧ w.heap.size + 1 < gx)) ∧ Below w.heap.size w wx) 11 (by kernel_rfl) (hsT1 _ _ (HQ7.out) (Below.refl _ _).drew) ?_
  refine wpAnyE_take (i := 0) (v := ?_) (hsT1) (fun _ h => h) rfl (by kernel_rfl) (by kernel_rfl) (by kernel_rfl) (by kernel_rfl) (fun _ _ _ h => h) (SteadyB.of_yields (Or.inl ⟨by rfl, ?_⟩)) ?_
  rotate_left
  · intro wq hSw
    obtain ⟨m0, m1, m2, m3, m4⟩ := Mu.at m hSw.1.1.1
    obtain ⟨q0, q1, q2⟩ := P3.at p hSw.1.1.2
    go_simp
    (try with_reducible rfl)
  try simp only [List.getElem_toArray, List.getElem_cons_zero, List.getElem_cons_succ, Act.put, List.setIfInBounds_toArray, List.set_cons_zero, List.set_cons_succ]
  refine wpAnyE_take (i := 2) (v := ?_) (hsT1) (fun _ h => h) rfl (by kernel_rfl) (by kernel_rfl) (by kernel_rfl) (by kernel_rfl) (fun _ _ _ h => h) (SteadyB.of_yields (Or.inl ⟨by rfl, ?_⟩)) ?_
  rotate_left
  · intro wq hSw
    obtain ⟨m0, m1, m2, m3, m4⟩ := Mu.at m hSw.1.1.1
    obtain ⟨q0, q1, q2⟩ := P3.at p hSw.1.1.2
    go_simp
    (try with_reducible rfl)
  try simp only [List.getElem_toArray, List.getElem_cons_zero, List.getElem_cons_succ, Act.put, List.setIfInBounds_toArray, List.set_cons_zero, List.set_cons_succ]
  refine wpF.fst (j := 8) (dst := some 9) (T := fun wx g => Var wx g false none 0 0 ∧ gx < g) ?_
  refine wpF_call (k := 1) _ (fun x => rmV m x) (bqR 18 m.a) rfl rfl rfl (Or.inl (by kernel_rfl)) (by kernel_rfl) (by decide) (by decide) (by decide) (by kernel_rfl) (by intro cs b h; cases h) (by rfl) (fun _ => rfl) (hsT1) (fun _ h => h) (fun g => fun _ _ h hb => ⟨h.1.below hb, h.2⟩) (fun yq => bqR.stays 18 m.a yq) (fun aq wq hSw => ?_) (fun wq hSw => ?_) (fun yq => ?_)
  · (first | exact ⟨_, by go_simp; (try with_reducible rfl), (Below.refl _ _).alloc (Nat.le_refl _) _, Var.new _ _ _ _ _ _, hSw.1.2.1.lt⟩ | exact ⟨_, by go_simp; (try with_reducible rfl), (Below.refl _ _).alloc (Nat.le_refl _) _, Var.new _ _ _ _ _ _, hSw.1.1.2.1.lt⟩ | exact ⟨_, by go_simp; (try with_reducible rfl), (Below.refl _ _).alloc (Nat.le_refl _) _, Var.new _ _ _ _ _ _, hSw.1.1.1.2.1.lt⟩)
  · exact RunI.of_calls (Law8.of m HM.out wq) (by go_simp) (fun e w' h => h)
  obtain ⟨s1, A1, n1, c1⟩ := yq
  dsimp only [bqV, bqR]
  try simp only [List.getElem_toArray, List.getElem_cons_zero, List.getElem_cons_succ, Act.put, List.setIfInBounds_toArray, List.set_cons_zero, List.set_cons_succ]
  refine wpF_take (k := 3) (v := pv p) _ rfl rfl rfl (by decide) (Stays.and_ (hsT1) (bqR.stays 18 m.a (s1, A1, n1, c1))) (fun _ h => h.1) (fun g => fun _ _ h hb => ⟨h.1.below hb, h.2⟩) (by kernel_rfl) (by kernel_rfl) (by kernel_rfl) (by kernel_rfl) (by kernel_rfl) (by kernel_rfl) (by kernel_rfl) (by kernel_rfl) (by intro cs b h; cases h) (fun _ _ _ h => h) (Or.inl ⟨by rfl, fun wq hSw => ?_⟩) ?_
  · refine RunB.of_calls (Law4.of p.1 p.2.1 p.2.2 wq) (by go_simp) ?_
    rintro e wr ⟨rfl, hb⟩
    exact ⟨rfl, hb⟩
  try simp only [List.getElem_toArray, List.getElem_cons_zero, List.getElem_cons_succ, Act.put, List.setIfInBounds_toArray, List.set_cons_zero, List.set_cons_succ]
  refine wpF_call (k := 4) _ (fun x => .tuple #[bqV x, .bool true]) (bqR 84 o) rfl rfl rfl (Or.inl (by kernel_rfl)) (by kernel_rfl) (by decide) (by decide) (by decide) (by kernel_rfl) (by intro cs b h; cases h) (by rfl) (fun _ => rfl) (Stays.and_ (hsT1) (bqR.stays 18 m.a (s1, A1, n1, c1))) (fun _ h => h.1) (fun g => fun _ _ h hb => ⟨h.1.below hb, h.2⟩) (fun yq => bqR.stays 84 o yq) (fun aq wq hSw => ?_) (fun wq hSw => ?_) (fun yq => ?_)
  · (first | exact ⟨_, by go_simp; (try with_reducible rfl), (Below.refl _ _).alloc (Nat.le_refl _) _, Var.new _ _ _ _ _ _, hSw.1.2.1.lt⟩ | exact ⟨_, by go_simp; (try with_reducible rfl), (Below.refl _ _).alloc (Nat.le_refl _) _, Var.new _ _ _ _ _ _, hSw.1.1.2.1.lt⟩ | exact ⟨_, by go_simp; (try with_reducible rfl), (Below.refl _ _).alloc (Nat.le_refl _) _, Var.new _ _ _ _ _ _, hSw.1.1.1.2.1.lt⟩)
  · exact RunI.of_calls (Ref9.over m (s1, A1, n1, c1) p HM.out HP.out wq hSw.2) (by go_simp) (fun e w' h => by rw [HOV.out] at h; exact h)
  obtain ⟨s2, A2, n2, c2⟩ := yq
  dsimp only [bqV, bqR]
  try simp only [List.getElem_toArray, List.getElem_cons_zero, List.getElem_cons_succ, Act.put, List.setIfInBounds_toArray, List.set_cons_zero, List.set_cons_succ]
  refine wpF_take (k := 5) (v := ?_) _ rfl rfl rfl (by decide) (Stays.and_ (Stays.and_ (hsT1) (bqR.stays 18 m.a (s1, A1, n1, c1))) (bqR.stays 84 o (s2, A2, n2, c2))) (fun _ h => h.1.1) (fun g => fun _ _ h hb => ⟨h.1.below hb, h.2⟩) (by kernel_rfl) (by kernel_rfl) (by kernel_rfl) (by kernel_rfl) (by kernel_rfl) (by kernel_rfl) (by kernel_rfl) (by kernel_rfl) (by intro cs b h; cases h) (fun _ _ _ h => h) (SteadyB.of_yields (Or.inl ⟨by rfl, ?_⟩)) ?_
  rotate_left
  · intro wq hSw
    go_simp
    (try with_reducible rfl)
  try simp only [List.getElem_toArray, List.getElem_cons_zero, List.getElem_cons_succ, Act.put, List.setIfInBounds_toArray, List.set_cons_zero, List.set_cons_succ]
  refine wpF_take (k := 6) (v := ?_) _ rfl rfl rfl (by decide) (Stays.and_ (Stays.and_ (hsT1) (bqR.stays 18 m.a (s1, A1, n1, c1))) (bqR.stays 84 o (s2, A2, n2, c2))) (fun _ h => h.1.1) (fun g => fun _ _ h hb => ⟨h.1.below hb, h.2⟩) (by kernel_rfl) (by kernel_rfl) (by kernel_rfl) (by kernel_rfl) (by kernel_rfl) (by kernel_rfl) (by kernel_rfl) (by kernel_rfl) (by intro cs b h; cases h) (fun _ _ _ h => h) (SteadyB.of_yields (Or.inl ⟨by rfl, ?_⟩)) ?_
  rotate_left
  · intro wq hSw
    go_simp
    (try with_reducible rfl)
  try simp only [List.getElem_toArray, List.getElem_cons_zero, List.getElem_cons_succ, Act.put, List.setIfInBounds_toArray, List.set_cons_zero, List.set_cons_succ]
  refine wpF_take (k := 7) (v := ?_) _ rfl rfl rfl (by decide) (Stays.and_ (Stays.and_ (hsT1) (bqR.stays 18 m.a (s1, A1, n1, c1))) (bqR.stays 84 o (s2, A2, n2, c2))) (fun _ h => h.1.1) (fun g => fun _ _ h hb => ⟨h.1.below hb, h.2⟩) (by kernel_rfl) (by kernel_rfl) (by kernel_rfl) (by kernel_rfl) (by kernel_rfl) (by kernel_rfl) (by kernel_rfl) (by kernel_rfl) (by intro cs b h; cases h) (fun _ _ _ h => h) (SteadyB.of_yields (Or.inl ⟨by rfl, ?_⟩)) ?_
  rotate_left
  · intro wq hSw
    go_simp
    (try with_reducible rfl)
  try simp only [List.getElem_toArray, List.getElem_cons_zero, List.getElem_cons_succ, Act.put, List.setIfInBounds_toArray, List.set_cons_zero, List.set_cons_succ]
  refine wpF_done _ rfl rfl (by kernel_rfl) (by decide) (by rfl) (Stays.and_ (Stays.and_ (hsT1) (bqR.stays 18 m.a (s1, A1, n1, c1))) (bqR.stays 84 o (s2, A2, n2, c2))) (fun _ h => h.1.1) (fun g => fun _ _ h hb => ⟨h.1.below hb, h.2⟩) (fun wq hSw => ?_) (fun gA => ?_)
  · (first | exact ⟨_, by go_simp; (try with_reducible rfl), (Below.refl _ _).alloc (Nat.le_refl _) _, Var.new _ _ _ _ _ _, hSw.1.2.1.lt⟩ | exact ⟨_, by go_simp; (try with_reducible rfl), (Below.refl _ _).alloc (Nat.le_refl _) _, Var.new _ _ _ _ _ _, hSw.1.1.2.1.lt⟩ | exact ⟨_, by go_simp; (try with_reducible rfl), (Below.refl _ _).alloc (Nat.le_refl _) _, Var.new _ _ _ _ _ _, hSw.1.1.1.2.1.lt⟩)
  try simp only [List.getElem_toArray, List.getElem_cons_zero, List.getElem_cons_succ, Act.put, List.setIfInBounds_toArray, List.set_cons_zero, List.set_cons_succ]
  refine wpAnyE_store (i := 9) (fun wx => (fun wx => ((Cs wx w.heap.size m.cells ∧ Cs wx (w.heap.size + 1) (pcells p)) ∧ (Cs wx gx [.int .i64 (hiW x), .int .u64 (loW x)] ∧ w.heap.size + 1 < gx)) ∧ Below w.heap.size w wx) wx ∧ ((Var wx gA s2 A2 n2 c2 ∧ IsB wx 84 s2 A2 n2 c2 o) ∧ gx < gA)) 41 [.bool s2, .slice A2 n2 c2] [.bool false, .slice none 0 0] gA infoBig (.tmp 9) (.tmp 45) rfl rfl (by kernel_rfl) (by decide) (by rfl) ?sv2a ?sv2b ?sv2c ?sv2d ?sv2e (fun _ h => h.2.1.cs) (fun _ h => ⟨⟨⟨⟨h.1.1.1.1.1.1.fars (by have := h.1.1.1.1.2.2; have := h.2.2; omega) _ _, h.1.1.1.1.1.2.fars (by have := h.1.1.1.1.2.2; have := h.2.2; omega) _ _⟩, h.1.1.1.1.2.1.fars (by have := h.2.2; omega) _ _, h.1.1.1.1.2.2⟩, below_sets (by have := h.1.1.1.1.2.2; have := h.2.2; omega) _ _ h.1.1.1.2⟩, ⟨h.2.1.sets s2 A2 n2 c2, h.1.2.sets h.2.1.2.2.2.2 0 _⟩, h.2.2⟩) (fun _ h => h.1) ((fun _ _ h hb => ⟨⟨⟨⟨h.1.1.1.1.below hb, h.1.1.1.2.below hb⟩, h.1.1.2.1.below hb, h.1.1.2.2⟩, below_on h.1.2 hb⟩, ⟨h.2.1.1.below hb, h.2.1.2.below hb⟩, h.2.2⟩)) ?sv2f
  case sv2a => rfl
  case sv2b => rfl
  case sv2c => rfl
  case sv2d => rfl
  case sv2e => rfl
  try simp only [List.getElem_toArray, List.getElem_cons_zero, List.getElem_cons_succ, Act.put, List.setIfInBounds_toArray, List.set_cons_zero, List.set_cons_succ]
  refine wpAnyE_take (i := 10) (v := ?_) ((fun _ _ h hb => ⟨⟨⟨⟨h.1.1.1.1.below hb, h.1.1.1.2.below hb⟩, h.1.1.2.1.below hb, h.1.1.2.2⟩, below_on h.1.2 hb⟩, ⟨h.2.1.1.below hb, h.2.1.2.below hb⟩, h.2.2⟩)) (fun _ h => h.1) rfl (by kernel_rfl) (by kernel_rfl) (by kernel_rfl) (by kernel_rfl) (fun _ _ _ h => h) (SteadyB.of_yields (Or.inl ⟨by rfl, ?_⟩)) ?_
  rotate_left
  · intro wq hSw
    go_simp
    (try with_reducible rfl)
  try simp only [List.getElem_toArray, List.getElem_cons_zero, List.getElem_cons_succ, Act.put, List.setIfInBounds_toArray, List.set_cons_zero, List.set_cons_succ]
  refine wpAnyE_done (by kernel_rfl) (fun wz hSz => ?_) _
  have HQ8 := hid hSz
  clear hSz HQ7
  generalize gA = go at HQ8 ⊢
  go_wp2_with fail
  have hsT3 : Stays (fun wx => ((fun wx => ((Cs wx w.heap.size m.cells ∧ Cs wx (w.heap.size + 1) (pcells p)) ∧ (Cs wx gx [.int .i64 (hiW x), .int .u64 (loW x)] ∧ w.heap.size + 1 < gx)) ∧ Below w.heap.size w wx) wx) ∧ ((Var wx go s2 A2 n2 c2 ∧ IsB wx 84 s2 A2 n2 c2 o) ∧ gx < go)) := fun _ _ h hb => ⟨⟨⟨⟨h.1.1.1.1.below hb, h.1.1.1.2.below hb⟩, h.1.1.2.1.below hb, h.1.1.2.2⟩, below_on h.1.2 hb⟩, ⟨h.2.1.1.below hb, h.2.1.2.below hb⟩, h.2.2⟩
  refine wp_region_grow (S := fun wx => ((fun wx => ((Cs wx w.heap.size m.cells ∧ Cs wx (w.heap.size + 1) (pcells p)) ∧ (Cs wx gx [.int .i64 (hiW x), .int .u64 (loW x)] ∧ w.heap.size + 1 < gx)) ∧ Below w.heap.size w wx) wx) ∧ ((Var wx go s2 A2 n2 c2 ∧ IsB wx 84 s2 A2 n2 c2 o) ∧ gx < go)) 11 (by kernel_rfl) (hsT3 _ _ (HQ8.out) (Below.refl _ _).drew) ?_
  refine wpAnyE_take (i := 0) (v := ?_) (hsT3) (fun _ h => h) rfl (by kernel_rfl) (by kernel_rfl) (by kernel_rfl) (by kernel_rfl) (fun _ _ _ h => h) (SteadyB.of_yields (Or.inl ⟨by rfl, ?_⟩)) ?_
  rotate_left
  · intro wq hSw
    obtain ⟨m0, m1, m2, m3, m4⟩ := Mu.at m hSw.1.1.1.1
    obtain ⟨q0, q1, q2⟩ := P3.at p hSw.1.1.1.2
    go_simp
    (try with_reducible rfl)
  try simp only [List.getElem_toArray, List.getElem_cons_zero, List.getElem_cons_succ, Act.put, List.setIfInBounds_toArray, List.set_cons_zero, List.set_cons_succ]
  refine wpAnyE_take (i := 2) (v := ?_) (hsT3) (fun _ h => h) rfl (by kernel_rfl) (by kernel_rfl) (by kernel_rfl) (by kernel_rfl) (fun _ _ _ h => h) (SteadyB.of_yields (Or.inl ⟨by rfl, ?_⟩)) ?_
  rotate_left
  · intro wq hSw
    obtain ⟨m0, m1, m2, m3, m4⟩ := Mu.at m hSw.1.1.1.1
    obtain ⟨q0, q1, q2⟩ := P3.at p hSw.1.1.1.2
    go_simp
    (try with_reducible rfl)
  try simp only [List.getElem_toArray, List.getElem_cons_zero, List.getElem_cons_succ, Act.put, List.setIfInBounds_toArray, List.set_cons_zero, List.set_cons_succ]
  refine wpF.fst (j := 8) (dst := some 11) (T := fun wx g => Var wx g false none 0 0 ∧ go < g) ?_
  refine wpF_call (k := 1) _ (fun x => rmV m x) (bqR 18 m.a) rfl rfl rfl (Or.inl (by kernel_rfl)) (by kernel_rfl) (by decide) (by decide) (by decide) (by kernel_rfl) (by intro cs b h; cases h) (by rfl) (fun _ => rfl) (hsT3) (fun _ h => h) (fun g => fun _ _ h hb => ⟨h.1.below hb, h.2⟩) (fun yq => bqR.stays 18 m.a yq) (fun aq wq hSw => ?_) (fun wq hSw => ?_) (fun yq => ?_)
  · (first | exact ⟨_, by go_simp; (try with_reducible rfl), (Below.refl _ _).alloc (Nat.le_refl _) _, Var.new _ _ _ _ _ _, hSw.2.1.1.lt⟩ | exact ⟨_, by go_simp; (try with_reducible rfl), (Below.refl _ _).alloc (Nat.le_refl _) _, Var.new _ _ _ _ _ _, hSw.1.2.1.1.lt⟩ | exact ⟨_, by go_simp; (try with_reducible rfl), (Below.refl _ _).alloc (Nat.le_refl _) _, Var.new _ _ _ _ _ _, hSw.1.1.2.1.1.lt⟩)
  · exact RunI.of_calls (Law8.of m HM.out wq) (by go_simp) (fun e w' h => h)
  obtain ⟨s3, A3, n3, c3⟩ := yq
  dsimp only [bqV, bqR]
  try simp only [List.getElem_toArray, List.getElem_cons_zero, List.getElem_cons_succ, Act.put, List.setIfInBounds_toArray, List.set_cons_zero, List.set_cons_succ]
  refine wpF_take (k := 3) (v := pv p) _ rfl rfl rfl (by decide) (Stays.and_ (hsT3) (bqR.stays 18 m.a (s3, A3, n3, c3))) (fun _ h => h.1) (fun g => fun _ _ h hb => ⟨h.1.below hb, h.2⟩) (by kernel_rfl) (by kernel_rfl) (by kernel_rfl) (by kernel_rfl) (by kernel_rfl) (by kernel_rfl) (by kernel_rfl) (by kernel_rfl) (by intro cs b h; cases h) (fun _ _ _ h => h) (Or.inl ⟨by rfl, fun wq hSw => ?_⟩) ?_
  · refine RunB.of_calls (Law4.of p.1 p.2.1 p.2.2 wq) (by go_simp) ?_
    rintro e wr ⟨rfl, hb⟩
    exact ⟨rfl, hb⟩
  try simp only [List.getElem_toArray, List.getElem_cons_zero, List.getElem_cons_succ, Act.put, List.setIfInBounds_toArray, List.set_cons_zero, List.set_cons_succ]
  refine wpF_call (k := 4) _ (fun x => .tuple #[bqV x, .bool true]) (bqR 90 x) rfl rfl rfl (Or.inl (by kernel_rfl)) (by kernel_rfl) (by decide) (by decide) (by decide) (by kernel_rfl) (by intro cs b h; cases h) (by rfl) (fun _ => rfl) (Stays.and_ (hsT3) (bqR.stays 18 m.a (s3, A3, n3, c3))) (fun _ h => h.1) (fun g => fun _ _ h hb => ⟨h.1.below hb, h.2⟩) (fun yq => bqR.stays 90 x yq) (fun aq wq hSw => ?_) (fun wq hSw => ?_) (fun yq => ?_)
  · (first | exact ⟨_, by go_simp; (try with_reducible rfl), (Below.refl _ _).alloc (Nat.le_refl _) _, Var.new _ _ _ _ _ _, hSw.2.1.1.lt⟩ | exact ⟨_, by go_simp; (try with_reducible rfl), (Below.refl _ _).alloc (Nat.le_refl _) _, Var.new _ _ _ _ _ _, hSw.1.2.1.1.lt⟩ | exact ⟨_, by go_simp; (try with_reducible rfl), (Below.refl _ _).alloc (Nat.le_refl _) _, Var.new _ _ _ _ _ _, hSw.1.1.2.1.1.lt⟩)
  · exact RunI.of_calls (Ref9.read m (s3, A3, n3, c3) p HM.out HP.out wq hSw.2) (by go_simp) (fun e w' h => by rw [HLG.out] at h; exact h)
  obtain ⟨s4, A4, n4, c4⟩ := yq
  dsimp only [bqV, bqR]
  try simp only [List.getElem_toArray, List.getElem_cons_zero, List.getElem_cons_succ, Act.put, List.setIfInBounds_toArray, List.set_cons_zero, List.set_cons_succ]
  refine wpF_take (k := 5) (v := ?_) _ rfl rfl rfl (by decide) (Stays.and_ (Stays.and_ (hsT3) (bqR.stays 18 m.a (s3, A3, n3, c3))) (bqR.stays 90 x (s4, A4, n4, c4))) (fun _ h => h.1.1) (fun g => fun _ _ h hb => ⟨h.1.below hb, h.2⟩) (by kernel_rfl) (by kernel_rfl) (by kernel_rfl) (by kernel_rfl) (by kernel_rfl) (by kernel_rfl) (by kernel_rfl) (by kernel_rfl) (by intro cs b h; cases h) (fun _ _ _ h => h) (SteadyB.of_yields (Or.inl ⟨by rfl, ?_⟩)) ?_
  rotate_left
  · intro wq hSw
    go_simp
    (try with_reducible rfl)
  try simp only [List.getElem_toArray, List.getElem_cons_zero, List.getElem_cons_succ, Act.put, List.setIfInBounds_toArray, List.set_cons_zero, List.set_cons_succ]
  refine wpF_take (k := 6) (v := ?_) _ rfl rfl rfl (by decide) (Stays.and_ (Stays.and_ (hsT3) (bqR.stays 18 m.a (s3, A3, n3, c3))) (bqR.stays 90 x (s4, A4, n4, c4))) (fun _ h => h.1.1) (fun g => fun _ _ h hb => ⟨h.1.below hb, h.2⟩) (by kernel_rfl) (by kernel_rfl) (by kernel_rfl) (by kernel_rfl) (by kernel_rfl) (by kernel_rfl) (by kernel_rfl) (by kernel_rfl) (by intro cs b h; cases h) (fun _ _ _ h => h) (SteadyB.of_yields (Or.inl ⟨by rfl, ?_⟩)) ?_
  rotate_left
  · intro wq hSw
    go_simp
    (try with_reducible rfl)
  try simp only [List.getElem_toArray, List.getElem_cons_zero, List.getElem_cons_succ, Act.put, List.setIfInBounds_toArray, List.set_cons_zero, List.set_cons_succ]
  refine wpF_take (k := 7) (v := ?_) _ rfl rfl rfl (by decide) (Stays.and_ (Stays.and_ (hsT3) (bqR.stays 18 m.a (s3, A3, n3, c3))) (bqR.stays 90 x (s4, A4, n4, c4))) (fun _ h => h.1.1) (fun g => fun _ _ h hb => ⟨h.1.below hb, h.2⟩) (by kernel_rfl) (by kernel_rfl) (by kernel_rfl) (by kernel_rfl) (by kernel_rfl) (by kernel_rfl) (by kernel_rfl) (by kernel_rfl) (by intro cs b h; cases h) (fun _ _ _ h => h) (SteadyB.of_yields (Or.inl ⟨by rfl, ?_⟩)) ?_
  rotate_left
  · intro wq hSw
    go_simp
    (try with_reducible rfl)
  try simp only [List.getElem_toArray, List.getElem_cons_zero, List.getElem_cons_succ, Act.put, List.setIfInBounds_toArray, List.set_cons_zero, List.set_cons_succ]
  refine wpF_done _ rfl rfl (by kernel_rfl) (by decide) (by rfl) (Stays.and_ (Stays.and_ (hsT3) (bqR.stays 18 m.a (s3, A3, n3, c3))) (bqR.stays 90 x (s4, A4, n4, c4))) (fun _ h => h.1.1) (fun g => fun _ _ h hb => ⟨h.1.below hb, h.2⟩) (fun wq hSw => ?_) (fun gA => ?_)
  · (first | exact ⟨_, by go_simp; (try with_reducible rfl), (Below.refl _ _).alloc (Nat.le_refl _) _, Var.new _ _ _ _ _ _, hSw.2.1.1.lt⟩ | exact ⟨_, by go_simp; (try with_reducible rfl), (Below.refl _ _).alloc (Nat.le_refl _) _, Var.new _ _ _ _ _ _, hSw.1.2.1.1.lt⟩ | exact ⟨_, by go_simp; (try with_reducible rfl), (Below.refl _ _).alloc (Nat.le_refl _) _, Var.new _ _ _ _ _ _, hSw.1.1.2.1.1.lt⟩)
  try simp only [List.getElem_toArray, List.getElem_cons_zero, List.getElem_cons_succ, Act.put, List.setIfInBounds_toArray, List.set_cons_zero, List.set_cons_succ]
  refine wpAnyE_store (i := 9) (fun wx => (fun wx => ((fun wx => ((Cs wx w.heap.size m.cells ∧ Cs wx (w.heap.size + 1) (pcells p)) ∧ (Cs wx gx [.int .i64 (hiW x), .int .u64 (loW x)] ∧ w.heap.size + 1 < gx)) ∧ Below w.heap.size w wx) wx) ∧ ((Var wx go s2 A2 n2 c2 ∧ IsB wx 84 s2 A2 n2 c2 o) ∧ gx < go)) wx ∧ ((Var wx gA s4 A4 n4 c4 ∧ IsB wx 90 s4 A4 n4 c4 x) ∧ go < gA)) 41 [.bool s4, .slice A4 n4 c4] [.bool false, .slice none 0 0] gA infoBig (.tmp 11) (.tmp 53) rfl rfl (by kernel_rfl) (by decide) (by rfl) ?sv4a ?sv4b ?sv4c ?sv4d ?sv4e (fun _ h => h.2.1.cs) (fun _ h => ⟨⟨⟨⟨⟨h.1.1.1.1.1.1.1.fars (by have := h.1.1.1.1.1.2.2; have := h.1.1.1.2.2; have := h.2.2; omega) _ _, h.1.1.1.1.1.1.2.fars (by have := h.1.1.1.1.1.2.2; have := h.1.1.1.2.2; have := h.2.2; omega) _ _⟩, h.1.1.1.1.1.2.1.fars (by have := h.1.1.1.2.2; have := h.2.2; omega) _ _, h.1.1.1.1.1.2.2⟩, below_sets (by have := h.1.1.1.1.1.2.2; have := h.1.1.1.2.2; have := h.2.2; omega) _ _ h.1.1.1.1.2⟩, ⟨Var.fars (by have := h.2.2; omega) _ _ h.1.1.1.2.1.1, h.1.1.1.2.1.2.sets h.2.1.2.2.2.2 0 _⟩, h.1.1.1.2.2⟩, ⟨h.2.1.sets s4 A4 n4 c4, h.1.2.sets h.2.1.2.2.2.2 0 _⟩, h.2.2⟩) (fun _ h => h.1) ((fun _ _ h hb => ⟨⟨⟨⟨⟨h.1.1.1.1.1.below hb, h.1.1.1.1.2.below hb⟩, h.1.1.1.2.1.below hb, h.1.1.1.2.2⟩, below_on h.1.1.2 hb⟩, ⟨h.1.2.1.1.below hb, h.1.2.1.2.below hb⟩, h.1.2.2⟩, ⟨h.2.1.1.below hb, h.2.1.2.below hb⟩, h.2.2⟩)) ?sv4f
  case sv4a => rfl
  case sv4b => rfl
  case sv4c => rfl
  case sv4d => rfl
  case sv4e => rfl
  try simp only [List.getElem_toArray, List.getElem_cons_zero, List.getElem_cons_succ, Act.put, List.setIfInBounds_toArray, List.set_cons_zero, List.set_cons_succ]
  refine wpAnyE_take (i := 10) (v := ?_) ((fun _ _ h hb => ⟨⟨⟨⟨⟨h.1.1.1.1.1.below hb, h.1.1.1.1.2.below hb⟩, h.1.1.1.2.1.below hb, h.1.1.1.2.2⟩, below_on h.1.1.2 hb⟩, ⟨h.1.2.1.1.below hb, h.1.2.1.2.below hb⟩, h.1.2.2⟩, ⟨h.2.1.1.below hb, h.2.1.2.below hb⟩, h.2.2⟩)) (fun _ h => h.1) rfl (by kernel_rfl) (by kernel_rfl) (by kernel_rfl) (by kernel_rfl) (fun _ _ _ h => h) (SteadyB.of_yields (Or.inl ⟨by rfl, ?_⟩)) ?_
  rotate_left
  · intro wq hSw
    go_simp
    (try with_reducible rfl)
  try simp only [List.getElem_toArray, List.getElem_cons_zero, List.getElem_cons_succ, Act.put, List.setIfInBounds_toArray, List.set_cons_zero, List.set_cons_succ]
  refine wpAnyE_done (by kernel_rfl) (fun wz hSz => ?_) _
  have HQ9 := hid hSz
  have hsZ : ∀ W W', (fun wx => (fun wx => ((fun wx => ((Cs wx w.heap.size m.cells ∧ Cs wx (w.heap.size + 1) (pcells p)) ∧ (Cs wx gx [.int .i64 (hiW x), .int .u64 (loW x)] ∧ w.heap.size + 1 < gx)) ∧ Below w.heap.size w wx) wx) ∧ ((Var wx go s2 A2 n2 c2 ∧ IsB wx 84 s2 A2 n2 c2 o) ∧ gx < go)) wx ∧ ((Var wx gA s4 A4 n4 c4 ∧ IsB wx 90 s4 A4 n4 c4 x) ∧ go < gA)) W → Below W.heap.size W W' → (fun wx => (fun wx => ((fun wx => ((Cs wx w.heap.size m.cells ∧ Cs wx (w.heap.size + 1) (pcells p)) ∧ (Cs wx gx [.int .i64 (hiW x), .int .u64 (loW x)] ∧ w.heap.size + 1 < gx)) ∧ Below w.heap.size w wx) wx) ∧ ((Var wx go s2 A2 n2 c2 ∧ IsB wx 84 s2 A2 n2 c2 o) ∧ gx < go)) wx ∧ ((Var wx gA s4 A4 n4 c4 ∧ IsB wx 90 s4 A4 n4 c4 x) ∧ go < gA)) W' := (fun _ _ h hb => ⟨⟨⟨⟨⟨h.1.1.1.1.1.below hb, h.1.1.1.1.2.below hb⟩, h.1.1.1.2.1.below hb, h.1.1.1.2.2⟩, below_on h.1.1.2 hb⟩, ⟨h.1.2.1.1.below hb, h.1.2.1.2.below hb⟩, h.1.2.2⟩, ⟨h.2.1.1.below hb, h.2.1.2.below hb⟩, h.2.2⟩)
  clear hSz HQ8
  obtain ⟨o0, o1, o2, o3, _⟩ := HQ9.out.1.2.1.1
  have ol := HQ9.out.1.2.1.1.lt
  go_wp2_with fail
  clear o0 o1 o2 o3 ol
  refine (Ref.sign 84 s2 A2 n2 c2 o _ HQ9.out.1.2.1.2).mono ?_
  rintro e w7 ⟨rfl, hb⟩
  replace HQ9 := hid (hsZ _ _ HQ9.out hb)
  clear hb
  obtain ⟨v0, v1, v2, v3, _⟩ := HQ9.out.2.1.1
  have vl := HQ9.out.2.1.1.lt
  obtain ⟨x0, x1⟩ := HQ9.out.1.1.1.2.1.two
  go_wp2_with fail
  clear v0 v1 v2 v3 vl x0 x1
  refine (Law.same 90 (by decide) _ _ x (isW_of HXW.out) s4 A4 n4 c4 x _ HQ9.out.2.1.2 true ⟨fun _ => rfl, fun _ => rfl⟩).mono ?_
  rintro e w8 ⟨rfl, hb⟩
  replace HQ9 := hid (hsZ _ _ HQ9.out hb)
  clear hb
  obtain ⟨m0, m1, m2, m3, m4⟩ := Mu.at m HQ9.out.1.1.1.1.1
  obtain ⟨q0, q1, q2⟩ := P3.at p HQ9.out.1.1.1.1.2
  go_wp2_with fail
  clear m0 m1 m2 m3 m4 q0 q1 q2
  refine (Lag.eligible m p HM.out HP.out _).mono ?_
  rw [HEL.out]
  rintro e w9 ⟨rfl, hb⟩
  replace HQ9 := hid (hsZ _ _ HQ9.out hb)
  clear hb
  obtain ⟨o0, o1, o2, o3, _⟩ := HQ9.out.1.2.1.1
  have ol := HQ9.out.1.2.1.1.lt
  go_wp2_with fail
  clear o0 o1 o2 o3 ol
  refine (Ref.sign 84 s2 A2 n2 c2 o _ HQ9.out.1.2.1.2).mono ?_
  rintro e w10 ⟨rfl, hb⟩
  replace HQ9 := hid (hsZ _ _ HQ9.out hb)
  clear hb
  go_wp2_with fail
  go_ret
  exact ⟨by first | rfl | simp [*], HQ9.out.1.1.2⟩
set_option maxRecDepth 100000 in
set_option maxHeartbeats 16000000 in
theorem Lreads.no (m : Mu) (p : P3) (k : Bool) (o x : Int) (hov : m.over p = (k, o)) (hlg : m.lag p = (k, x)) (hm : m.In) (hp : PIn p) (hn : ¬ m.n < 0) (hn2 : ¬ 1000 < m.n) (hk : k = true) (c : ¬ 0 ≤ o) (w : World) (htab : Tab10 w.heap.size w) : Calls Tryz.prog 4 #[m.val, pv p] w (Ans (.bool true) w) := by
  have HT := hid htab
  have HM := hid hm
  have HP := hid hp
  have HQ := hid (M2'.new w m p)
  have HOV := hid hov
  have HLG := hid hlg
  have HSG : Hid (m.sign p = (k, cmpI o 0)) := hid (by unfold Mu.sign; rw [hov])
  have HXW : Hid (WR x) := hid (by have := lag_wr' m p; rwa [hlg] at this)
  subst hk
  have c1 : ¬ 0 ≤ cmpI o 0 := fun h => c (cmpI_ge0'.1 h)
  have HEL : Hid (m.elig p = false) := hid (by unfold Mu.elig; rw [hov]; simpa using c1)
  clear c
  clear htab hm hp hov hlg
  unfold Mu.val pv
  go_enter Tryz.func4, Tryz.ntmps4
  go_wp2_with fail
  generalize ((w.alloc (.cells #[.int .u64 m.b, .int .i64 (hiW m.a), .int .u64 (loW m.a), .int .u64 m.w, .int .i64 m.n] 36)).alloc (.cells #[.int .u64 p.1, .int .u32 p.2.1, .int .u32 p.2.2] 29)) = W0 at HQ ⊢
  refine (Law9.awake _ (HT.out.at2 HQ.out.2.2)).mono ?_
  rintro e w1 ⟨rfl, hb⟩
  replace HQ := hid (HQ.out.below hb)
  clear hb HT
  obtain ⟨m0, m1, m2, m3, m4⟩ := Mu.at m HQ.out.1
  obtain ⟨q0, q1, q2⟩ := P3.at p HQ.out.2.1
  go_wp2_with fail
  clear m0 m1 m2 m3 m4 q0 q1 q2
  refine (Lag.sign m p HM.out HP.out _).mono ?_
  rw [HSG.out]
  rintro e w2 ⟨rfl, hb⟩
  replace HQ := hid (HQ.out.below hb)
  clear hb
  obtain ⟨m0, m1, m2, m3, m4⟩ := Mu.at m HQ.out.1
  obtain ⟨q0, q1, q2⟩ := P3.at p HQ.out.2.1
  go_wp2_with fail
  clear m0 m1 m2 m3 m4 q0 q1 q2
  refine (Lag.read m p HM.out HP.out _).mono ?_
  rw [HLG.out]
  rintro e w3 ⟨rfl, hb⟩
  have ha := (Below.refl w3.heap.size w3).alloc (Nat.le_refl _) (.cells #[.int .i64 (hiW x), .int .u64 (loW x)] 34)
  have HQ7 : Hid (((Cs (w3.alloc (.cells #[.int .i64 (hiW x), .int .u64 (loW x)] 34)) w.heap.size m.cells ∧ Cs (w3.alloc (.cells #[.int .i64 (hiW x), .int .u64 (loW x)] 34)) (w.heap.size + 1) (pcells p)) ∧ (Cs (w3.alloc (.cells #[.int .i64 (hiW x), .int .u64 (loW x)] 34)) w3.heap.size [.int .i64 (hiW x), .int .u64 (loW x)] ∧ w.heap.size + 1 < w3.heap.size)) ∧ Below w.heap.size w (w3.alloc (.cells #[.int .i64 (hiW x), .int .u64 (loW x)] 34))) := hid ⟨⟨⟨(HQ.out.1.below hb).below ha, (HQ.out.2.1.below hb).below ha⟩, Cs.new2 w3 _ _ _, (HQ.out.2.1.below hb).lt⟩, below_on (below_on HQ.out.2.2 hb) ha⟩
  clear hb ha HQ
  go_wp2_with fail
  generalize w3.alloc (.cells #[.int .i64 (hiW x), .int .u64 (loW x)] 34) = W3 at HQ7 ⊢
  generalize w3.heap.size = gx at HQ7 ⊢
  have hsT1 : Stays (fun wx => ((Cs wx w.heap.size m.cells ∧ Cs wx (w.heap.size + 1) (pcells p)) ∧ (Cs wx gx [.int .i64 (hiW x), .int .u64 (loW x)] ∧ w.heap.size + 1 < gx)) ∧ Below w.heap.size w wx) := fun _ _ h hb => ⟨⟨⟨h.1.1.1.below hb, h.1.1.2.below hb⟩, h.1.2.1.below hb, h.1.2.2⟩, below_on h.2 hb⟩
  refine wp_region_grow (S := fun wx => ((Cs wx w.heap.size m.cells ∧ Cs wx (w.heap.size + 1) (pcells p)) ∧ (Cs wx gx [.int .i64 (hiW x), .int .u64 (loW x)] ∧ w.heap.size + 1 < gx)) ∧ Below w.heap.size w wx) 11 (by kernel_rfl) (hsT1 _ _ (HQ7.out) (Below.refl _ _).drew) ?_
  refine wpAnyE_take (i := 0) (v := ?_) (hsT1) (fun _ h => h) rfl (by kernel_rfl) (by kernel_rfl) (by kernel_rfl) (by kernel_rfl) (fun _ _ _ h => h) (SteadyB.of_yields (Or.inl ⟨by rfl, ?_⟩)) ?_
  rotate_left
  · intro wq hSw
    obtain ⟨m0, m1, m2, m3, m4⟩ := Mu.at m hSw.1.1.1
    obtain ⟨q0, q1, q2⟩ := P3.at p hSw.1.1.2
    go_simp
    (try with_reducible rfl)
  try simp only [List.getElem_toArray, List.getElem_cons_zero, List.getElem_cons_succ, Act.put, List.setIfInBounds_toArray, List.set_cons_zero, List.set_cons_succ]
  refine wpAnyE_take (i := 2) (v := ?_) (hsT1) (fun _ h => h) rfl (by kernel_rfl) (by kernel_rfl) (by kernel_rfl) (by kernel_rfl) (fun _ _ _ h => h) (SteadyB.of_yields (Or.inl ⟨by rfl, ?_⟩)) ?_
  rotate_left
  · intro wq hSw
    obtain ⟨m0, m1, m2, m3, m4⟩ := Mu.at m hSw.1.1.1
    obtain ⟨q0, q1, q2⟩ := P3.at p hSw.1.1.2
    go_simp
    (try with_reducible rfl)
  try simp only [List.getElem_toArray, List.getElem_cons_zero, List.getElem_cons_succ, Act.put, List.setIfInBounds_toArray, List.set_cons_zero, List.set_cons_succ]
  refine wpF.fst (j := 8) (dst := some 9) (T := fun wx g => Var wx g false none 0 0 ∧ gx < g) ?_
  refine wpF_call (k := 1) _ (fun x => rmV m x) (bqR 18 m.a) rfl rfl rfl (Or.inl (by kernel_rfl)) (by kernel_rfl) (by decide) (by decide) (by decide) (by kernel_rfl) (by intro cs b h; cases h) (by rfl) (fun _ => rfl) (hsT1) (fun _ h => h) (fun g => fun _ _ h hb => ⟨h.1.below hb, h.2⟩) (fun yq => bqR.stays 18 m.a yq) (fun aq wq hSw => ?_) (fun wq hSw => ?_) (fun yq => ?_)
  · (first | exact ⟨_, by go_simp; (try with_reducible rfl), (Below.refl _ _).alloc (Nat.le_refl _) _, Var.new _ _ _ _ _ _, hSw.1.2.1.lt⟩ | exact ⟨_, by go_simp; (try with_reducible rfl), (Below.refl _ _).alloc (Nat.le_refl _) _, Var.new _ _ _ _ _ _, hSw.1.1.2.1.lt⟩ | exact ⟨_, by go_simp; (try with_reducible rfl), (Below.refl _ _).alloc (Nat.le_refl _) _, Var.new _ _ _ _ _ _, hSw.1.1.1.2.1.lt⟩)
  · exact RunI.of_calls (Law8.of m HM.out wq) (by go_simp) (fun e w' h => h)
  obtain ⟨s1, A1, n1, c1⟩ := yq
  dsimp only [bqV, bqR]
  try simp only [List.getElem_toArray, List.getElem_cons_zero, List.getElem_cons_succ, Act.put, List.setIfInBounds_toArray, List.set_cons_zero, List.set_cons_succ]
  refine wpF_take (k := 3) (v := pv p) _ rfl rfl rfl (by decide) (Stays.and_ (hsT1) (bqR.stays 18 m.a (s1, A1, n1, c1))) (fun _ h => h.1) (fun g => fun _ _ h hb => ⟨h.1.below hb, h.2⟩) (by kernel_rfl) (by kernel_rfl) (by kernel_rfl) (by kernel_rfl) (by kernel_rfl) (by kernel_rfl) (by kernel_rfl) (by kernel_rfl) (by intro cs b h; cases h) (fun _ _ _ h => h) (Or.inl ⟨by rfl, fun wq hSw => ?_⟩) ?_
  · refine RunB.of_calls (Law4.of p.1 p.2.1 p.2.2 wq) (by go_simp) ?_
    rintro e wr ⟨rfl, hb⟩
    exact ⟨rfl, hb⟩
  try simp only [List.getElem_toArray, List.getElem_cons_zero, List.getElem_cons_succ, Act.put, List.setIfInBounds_toArray, List.set_cons_zero, List.set_cons_succ]
  refine wpF_call (k := 4) _ (fun x => .tuple #[bqV x, .bool true]) (bqR 84 o) rfl rfl rfl (Or.inl (by kernel_rfl)) (by kernel_rfl) (by decide) (by decide) (by decide) (by kernel_rfl) (by intro cs b h; cases h) (by rfl) (fun _ => rfl) (Stays.and_ (hsT1) (bqR.stays 18 m.a (s1, A1, n1, c1))) (fun _ h => h.1) (fun g => fun _ _ h hb => ⟨h.1.below hb, h.2⟩) (fun yq => bqR.stays 84 o yq) (fun aq wq hSw => ?_) (fun wq hSw => ?_) (fun yq => ?_)
  · (first | exact ⟨_, by go_simp; (try with_reducible rfl), (Below.refl _ _).alloc (Nat.le_refl _) _, Var.new _ _ _ _ _ _, hSw.1.2.1.lt⟩ | exact ⟨_, by go_simp; (try with_reducible rfl), (Below.refl _ _).alloc (Nat.le_refl _) _, Var.new _ _ _ _ _ _, hSw.1.1.2.1.lt⟩ | exact ⟨_, by go_simp; (try with_reducible rfl), (Below.refl _ _).alloc (Nat.le_refl _) _, Var.new _ _ _ _ _ _, hSw.1.1.1.2.1.lt⟩)
  · exact RunI.of_calls (Ref9.over m (s1, A1, n1, c1) p HM.out HP.out wq hSw.2) (by go_simp) (fun e w' h => by rw [HOV.out] at h; exact h)
  obtain ⟨s2, A2, n2, c2⟩ := yq
  dsimp only [bqV, bqR]
  try simp only [List.getElem_toArray, List.getElem_cons_zero, List.getElem_cons_succ, Act.put, List.setIfInBounds_toArray, List.set_cons_zero, List.set_cons_succ]
  refine wpF_take (k := 5) (v := ?_) _ rfl rfl rfl (by decide) (Stays.and_ (Stays.and_ (hsT1) (bqR.stays 18 m.a (s1, A1, n1, c1))) (bqR.stays 84 o (s2, A2, n2, c2))) (fun _ h => h.1.1) (fun g => fun _ _ h hb => ⟨h.1.below hb, h.2⟩) (by kernel_rfl) (by kernel_rfl) (by kernel_rfl) (by kernel_rfl) (by kernel_rfl) (by kernel_rfl) (by kernel_rfl) (by kernel_rfl) (by intro cs b h; cases h) (fun _ _ _ h => h) (SteadyB.of_yields (Or.inl ⟨by rfl, ?_⟩)) ?_
  rotate_left
  · intro wq hSw
    go_simp
    (try with_reducible rfl)
  try simp only [List.getElem_toArray, List.getElem_cons_zero, List.getElem_cons_succ, Act.put, List.setIfInBounds_toArray, List.set_cons_zero, List.set_cons_succ]
  refine wpF_take (k := 6) (v := ?_) _ rfl rfl rfl (by decide) (Stays.and_ (Stays.and_ (hsT1) (bqR.stays 18 m.a (s1, A1, n1, c1))) (bqR.stays 84 o (s2, A2, n2, c2))) (fun _ h => h.1.1) (fun g => fun _ _ h hb => ⟨h.1.below hb, h.2⟩) (by kernel_rfl) (by kernel_rfl) (by kernel_rfl) (by kernel_rfl) (by kernel_rfl) (by kernel_rfl) (by kernel_rfl) (by kernel_rfl) (by intro cs b h; cases h) (fun _ _ _ h => h) (SteadyB.of_yields (Or.inl ⟨by rfl, ?_⟩)) ?_
  rotate_left
  · intro wq hSw
    go_simp
    (try with_reducible rfl)
  try simp only [List.getElem_toArray, List.getElem_cons_zero, List.getElem_cons_succ, Act.put, List.setIfInBounds_toArray, List.set_cons_zero, List.set_cons_succ]
  refine wpF_take (k := 7) (v := ?_) _ rfl rfl rfl (by decide) (Stays.and_ (Stays.and_ (hsT1) (bqR.stays 18 m.a (s1, A1, n1, c1))) (bqR.stays 84 o (s2, A2, n2, c2))) (fun _ h => h.1.1) (fun g => fun _ _ h hb => ⟨h.1.below hb, h.2⟩) (by kernel_rfl) (by kernel_rfl) (by kernel_rfl) (by kernel_rfl) (by kernel_rfl) (by kernel_rfl) (by kernel_rfl) (by kernel_rfl) (by intro cs b h; cases h) (fun _ _ _ h => h) (SteadyB.of_yields (Or.inl ⟨by rfl, ?_⟩)) ?_
  rotate_left
  · intro wq hSw
    go_simp
    (try with_reducible rfl)
  try simp only [List.getElem_toArray, List.getElem_cons_zero, List.getElem_cons_succ, Act.put, List.setIfInBounds_toArray, List.set_cons_zero, List.set_cons_succ]
  refine wpF_done _ rfl rfl (by kernel_rfl) (by decide) (by rfl) (Stays.and_ (Stays.and_ (hsT1) (bqR.stays 18 m.a (s1, A1, n1, c1))) (bqR.stays 84 o (s2, A2, n2, c2))) (fun _ h => h.1.1) (fun g => fun _ _ h hb => ⟨h.1.below hb, h.2⟩) (fun wq hSw => ?_) (fun gA => ?_)
  · (first | exact ⟨_, by go_simp; (try with_reducible rfl), (Below.refl _ _).alloc (Nat.le_refl _) _, Var.new _ _ _ _ _ _, hSw.1.2.1.lt⟩ | exact ⟨_, by go_simp; (try with_reducible rfl), (Below.refl _ _).alloc (Nat.le_refl _) _, Var.new _ _ _ _ _ _, hSw.1.1.2.1.lt⟩ | exact ⟨_, by go_simp; (try with_reducible rfl), (Below.refl _ _).alloc (Nat.le_refl _) _, Var.new _ _ _ _ _ _, hSw.1.1.1.2.1.lt⟩)
  try simp only [List.getElem_toArray, List.getElem_cons_zero, List.getElem_cons_succ, Act.put, List.setIfInBounds_toArray, List.set_cons_zero, List.set_cons_succ]
  refine wpAnyE_store (i := 9) (fun wx => (fun wx => ((Cs wx w.heap.size m.cells ∧ Cs wx (w.heap.size + 1) (pcells p)) ∧ (Cs wx gx [.int .i64 (hiW x), .int .u64 (loW x)] ∧ w.heap.size + 1 < gx)) ∧ Below w.heap.size w wx) wx ∧ ((Var wx gA s2 A2 n2 c2 ∧ IsB wx 84 s2 A2 n2 c2 o) ∧ gx < gA)) 41 [.bool s2, .slice A2 n2 c2] [.bool false, .slice none 0 0] gA infoBig (.tmp 9) (.tmp 45) rfl rfl (by kernel_rfl) (by decide) (by rfl) ?sv2a ?sv2b ?sv2c ?sv2d ?sv2e (fun _ h => h.2.1.cs) (fun _ h => ⟨⟨⟨⟨h.1.1.1.1.1.1.fars (by have := h.1.1.1.1.2.2; have := h.2.2; omega) _ _, h.1.1.1.1.1.2.fars (by have := h.1.1.1.1.2.2; have := h.2.2; omega) _ _⟩, h.1.1.1.1.2.1.fars (by have := h.2.2; omega) _ _, h.1.1.1.1.2.2⟩, below_sets (by have := h.1.1.1.1.2.2; have := h.2.2; omega) _ _ h.1.1.1.2⟩, ⟨h.2.1.sets s2 A2 n2 c2, h.1.2.sets h.2.1.2.2.2.2 0 _⟩, h.2.2⟩) (fun _ h => h.1) ((fun _ _ h hb => ⟨⟨⟨⟨h.1.1.1.1.below hb, h.1.1.1.2.below hb⟩, h.1.1.2.1.below hb, h.1.1.2.2⟩, below_on h.1.2 hb⟩, ⟨h.2.1.1.below hb, h.2.1.2.below hb⟩, h.2.2⟩)) ?sv2f
  case sv2a => rfl
  case sv2b => rfl
  case sv2c => rfl
  case sv2d => rfl
  case sv2e => rfl
  try simp only [List.getElem_toArray, List.getElem_cons_zero, List.getElem_cons_succ, Act.put, List.setIfInBounds_toArray, List.set_cons_zero, List.set_cons_succ]
  refine wpAnyE_take (i := 10) (v := ?_) ((fun _ _ h hb => ⟨⟨⟨⟨h.1.1.1.1.below hb, h.1.1.1.2.below hb⟩, h.1.1.2.1.below hb, h.1.1.2.2⟩, below_on h.1.2 hb⟩, ⟨h.2.1.1.below hb, h.2.1.2.below hb⟩, h.2.2⟩)) (fun _ h => h.1) rfl (by kernel_rfl) (by kernel_rfl) (by kernel_rfl) (by kernel_rfl) (fun _ _ _ h => h) (SteadyB.of_yields (Or.inl ⟨by rfl, ?_⟩)) ?_
  rotate_left
  · intro wq hSw
    go_simp
    (try with_reducible rfl)
  try simp only [List.getElem_toArray, List.getElem_cons_zero, List.getElem_cons_succ, Act.put, List.setIfInBounds_toArray, List.set_cons_zero, List.set_cons_succ]
  refine wpAnyE_done (by kernel_rfl) (fun wz hSz => ?_) _
  have HQ8 := hid hSz
  clear hSz HQ7
  generalize gA = go at HQ8 ⊢
  go_wp2_with fail
  have hsT3 : Stays (fun wx => ((fun wx => ((Cs wx w.heap.size m.cells ∧ Cs wx (w.heap.size + 1) (pcells p)) ∧ (Cs wx gx [.int .i64 (hiW x), .int .u64 (loW x)] ∧ w.heap.size + 1 < gx)) ∧ Below w.heap.size w wx) wx) ∧ ((Var wx go s2 A2 n2 c2 ∧ IsB wx 84 s2 A2 n2 c2 o) ∧ gx < go)) := fun _ _ h hb => ⟨⟨⟨⟨h.1.1.1.1.below hb, h.1.1.1.2.below hb⟩, h.1.1.2.1.below hb, h.1.1.2.2⟩, below_on h.1.2 hb⟩, ⟨h.2.1.1.below hb, h.2.1.2.below hb⟩, h.2.2⟩
  refine wp_region_grow (S := fun wx => ((fun wx => ((Cs wx w.heap.size m.cells ∧ Cs wx (w.heap.size + 1) (pcells p)) ∧ (Cs wx gx [.int .i64 (hiW x), .int .u64 (loW x)] ∧ w.heap.size + 1 < gx)) ∧ Below w.heap.size w wx) wx) ∧ ((Var wx go s2 A2 n2 c2 ∧ IsB wx 84 s2 A2 n2 c2 o) ∧ gx < go)) 11 (by kernel_rfl) (hsT3 _ _ (HQ8.out) (Below.refl _ _).drew) ?_
  refine wpAnyE_take (i := 0) (v := ?_) (hsT3) (fun _ h => h) rfl (by kernel_rfl) (by kernel_rfl) (by kernel_rfl) (by kernel_rfl) (fun _ _ _ h => h) (SteadyB.of_yields (Or.inl ⟨by rfl, ?_⟩)) ?_
  rotate_left
  · intro wq hSw
    obtain ⟨m0, m1, m2, m3, m4⟩ := Mu.at m hSw.1.1.1.1
    obtain ⟨q0, q1, q2⟩ := P3.at p hSw.1.1.1.2
    go_simp
    (try with_reducible rfl)
  try simp only [List.getElem_toArray, List.getElem_cons_zero, List.getElem_cons_succ, Act.put, List.setIfInBounds_toArray, List.set_cons_zero, List.set_cons_succ]
  refine wpAnyE_take (i := 2) (v := ?_) (hsT3) (fun _ h => h) rfl (by kernel_rfl) (by kernel_rfl) (by kernel_rfl) (by kernel_rfl) (fun _ _ _ h => h) (SteadyB.of_yields (Or.inl ⟨by rfl, ?_⟩)) ?_
  rotate_left
  · intro wq hSw
    obtain ⟨m0, m1, m2, m3, m4⟩ := Mu.at m hSw.1.1.1.1
    obtain ⟨q0, q1, q2⟩ := P3.at p hSw.1.1.1.2
    go_simp
    (try with_reducible rfl)
  try simp only [List.getElem_toArray, List.getElem_cons_zero, List.getElem_cons_succ, Act.put, List.setIfInBounds_toArray, List.set_cons_zero, List.set_cons_succ]
  refine wpF.fst (j := 8) (dst := some 11) (T := fun wx g => Var wx g false none 0 0 ∧ go < g) ?_
  refine wpF_call (k := 1) _ (fun x => rmV m x) (bqR 18 m.a) rfl rfl rfl (Or.inl (by kernel_rfl)) (by kernel_rfl) (by decide) (by decide) (by decide) (by kernel_rfl) (by intro cs b h; cases h) (by rfl) (fun _ => rfl) (hsT3) (fun _ h => h) (fun g => fun _ _ h hb => ⟨h.1.below hb, h.2⟩) (fun yq => bqR.stays 18 m.a yq) (fun aq wq hSw => ?_) (fun wq hSw => ?_) (fun yq => ?_)
  · (first | exact ⟨_, by go_simp; (try with_reducible rfl), (Below.refl _ _).alloc (Nat.le_refl _) _, Var.new _ _ _ _ _ _, hSw.2.1.1.lt⟩ | exact ⟨_, by go_simp; (try with_reducible rfl), (Below.refl _ _).alloc (Nat.le_refl _) _, Var.new _ _ _ _ _ _, hSw.1.2.1.1.lt⟩ | exact ⟨_, by go_simp; (try with_reducible rfl), (Below.refl _ _).alloc (Nat.le_refl _) _, Var.new _ _ _ _ _ _, hSw.1.1.2.1.1.lt⟩)
  · exact RunI.of_calls (Law8.of m HM.out wq) (by go_simp) (fun e w' h => h)
  obtain ⟨s3, A3, n3, c3⟩ := yq
  dsimp only [bqV, bqR]
  try simp only [List.getElem_toArray, List.getElem_cons_zero, List.getElem_cons_succ, Act.put, List.setIfInBounds_toArray, List.set_cons_zero, List.set_cons_succ]
  refine wpF_take (k := 3) (v := pv p) _ rfl rfl rfl (by decide) (Stays.and_ (hsT3) (bqR.stays 18 m.a (s3, A3, n3, c3))) (fun _ h => h.1) (fun g => fun _ _ h hb => ⟨h.1.below hb, h.2⟩) (by kernel_rfl) (by kernel_rfl) (by kernel_rfl) (by kernel_rfl) (by kernel_rfl) (by kernel_rfl) (by kernel_rfl) (by kernel_rfl) (by intro cs b h; cases h) (fun _ _ _ h => h) (Or.inl ⟨by rfl, fun wq hSw => ?_⟩) ?_
  · refine RunB.of_calls (Law4.of p.1 p.2.1 p.2.2 wq) (by go_simp) ?_
    rintro e wr ⟨rfl, hb⟩
    exact ⟨rfl, hb⟩
  try simp only [List.getElem_toArray, List.getElem_cons_zero, List.getElem_cons_succ, Act.put, List.setIfInBounds_toArray, List.set_cons_zero, List.set_cons_succ]
  refine wpF_call (k := 4) _ (fun x => .tuple #[bqV x, .bool true]) (bqR 90 x) rfl rfl rfl (Or.inl (by kernel_rfl)) (by kernel_rfl) (by decide) (by decide) (by decide) (by kernel_rfl) (by intro cs b h; cases h) (by rfl) (fun _ => rfl) (Stays.and_ (hsT3) (bqR.stays 18 m.a (s3, A3, n3, c3))) (fun _ h => h.1) (fun g => fun _ _ h hb => ⟨h.1.below hb, h.2⟩) (fun yq => bqR.stays 90 x yq) (fun aq wq hSw => ?_) (fun wq hSw => ?_) (fun yq => ?_)
  · (first | exact ⟨_, by go_simp; (try with_reducible rfl), (Below.refl _ _).alloc (Nat.le_refl _) _, Var.new _ _ _ _ _ _, hSw.2.1.1.lt⟩ | exact ⟨_, by go_simp; (try with_reducible rfl), (Below.refl _ _).alloc (Nat.le_refl _) _, Var.new _ _ _ _ _ _, hSw.1.2.1.1.lt⟩ | exact ⟨_, by go_simp; (try with_reducible rfl), (Below.refl _ _).alloc (Nat.le_refl _) _, Var.new _ _ _ _ _ _, hSw.1.1.2.1.1.lt⟩)
  · exact RunI.of_calls (Ref9.read m (s3, A3, n3, c3) p HM.out HP.out wq hSw.2) (by go_simp) (fun e w' h => by rw [HLG.out] at h; exact h)
  obtain ⟨s4, A4, n4, c4⟩ := yq
  dsimp only [bqV, bqR]
  try simp only [List.getElem_toArray, List.getElem_cons_zero, List.getElem_cons_succ, Act.put, List.setIfInBounds_toArray, List.set_cons_zero, List.set_cons_succ]
  refine wpF_take (k := 5) (v := ?_) _ rfl rfl rfl (by decide) (Stays.and_ (Stays.and_ (hsT3) (bqR.stays 18 m.a (s3, A3, n3, c3))) (bqR.stays 90 x (s4, A4, n4, c4))) (fun _ h => h.1.1) (fun g => fun _ _ h hb => ⟨h.1.below hb, h.2⟩) (by kernel_rfl) (by kernel_rfl) (by kernel_rfl) (by kernel_rfl) (by kernel_rfl) (by kernel_rfl) (by kernel_rfl) (by kernel_rfl) (by intro cs b h; cases h) (fun _ _ _ h => h) (SteadyB.of_yields (Or.inl ⟨by rfl, ?_⟩)) ?_
  rotate_left
  · intro wq hSw
    go_simp
    (try with_reducible rfl)
  try simp only [List.getElem_toArray, List.getElem_cons_zero, List.getElem_cons_succ, Act.put, List.setIfInBounds_toArray, List.set_cons_zero, List.set_cons_succ]
  refine wpF_take (k := 6) (v := ?_) _ rfl rfl rfl (by decide) (Stays.and_ (Stays.and_ (hsT3) (bqR.stays 18 m.a (s3, A3, n3, c3))) (bqR.stays 90 x (s4, A4, n4, c4))) (fun _ h => h.1.1) (fun g => fun _ _ h hb => ⟨h.1.below hb, h.2⟩) (by kernel_rfl) (by kernel_rfl) (by kernel_rfl) (by kernel_rfl) (by kernel_rfl) (by kernel_rfl) (by kernel_rfl) (by kernel_rfl) (by intro cs b h; cases h) (fun _ _ _ h => h) (SteadyB.of_yields (Or.inl ⟨by rfl, ?_⟩)) ?_
  rotate_left
  · intro wq hSw
    go_simp
    (try with_reducible rfl)
  try simp only [List.getElem_toArray, List.getElem_cons_zero, List.getElem_cons_succ, Act.put, List.setIfInBounds_toArray, List.set_cons_zero, List.set_cons_succ]
  refine wpF_take (k := 7) (v := ?_) _ rfl rfl rfl (by decide) (Stays.and_ (Stays.and_ (hsT3) (bqR.stays 18 m.a (s3, A3, n3, c3))) (bqR.stays 90 x (s4, A4, n4, c4))) (fun _ h => h.1.1) (fun g => fun _ _ h hb => ⟨h.1.below hb, h.2⟩) (by kernel_rfl) (by kernel_rfl) (by kernel_rfl) (by kernel_rfl) (by kernel_rfl) (by kernel_rfl) (by kernel_rfl) (by kernel_rfl) (by intro cs b h; cases h) (fun _ _ _ h => h) (SteadyB.of_yields (Or.inl ⟨by rfl, ?_⟩)) ?_
  rotate_left
  · intro wq hSw
    go_simp
    (try with_reducible rfl)
  try simp only [List.getElem_toArray, List.getElem_cons_zero, List.getElem_cons_succ, Act.put, List.setIfInBounds_toArray, List.set_cons_zero, List.set_cons_succ]
  refine wpF_done _ rfl rfl (by kernel_rfl) (by decide) (by rfl) (Stays.and_ (Stays.and_ (hsT3) (bqR.stays 18 m.a (s3, A3, n3, c3))) (bqR.stays 90 x (s4, A4, n4, c4))) (fun _ h => h.1.1) (fun g => fun _ _ h hb => ⟨h.1.below hb, h.2⟩) (fun wq hSw => ?_) (fun gA => ?_)
  · (first | exact ⟨_, by go_simp; (try with_reducible rfl), (Below.refl _ _).alloc (Nat.le_refl _) _, Var.new _ _ _ _ _ _, hSw.2.1.1.lt⟩ | exact ⟨_, by go_simp; (try with_reducible rfl), (Below.refl _ _).alloc (Nat.le_refl _) _, Var.new _ _ _ _ _ _, hSw.1.2.1.1.lt⟩ | exact ⟨_, by go_simp; (try with_reducible rfl), (Below.refl _ _).alloc (Nat.le_refl _) _, Var.new _ _ _ _ _ _, hSw.1.1.2.1.1.lt⟩)
  try simp only [List.getElem_toArray, List.getElem_cons_zero, List.getElem_cons_succ, Act.put, List.setIfInBounds_toArray, List.set_cons_zero, List.set_cons_succ]
  refine wpAnyE_store (i := 9) (fun wx => (fun wx => ((fun wx => ((Cs wx w.heap.size m.cells ∧ Cs wx (w.heap.size + 1) (pcells p)) ∧ (Cs wx gx [.int .i64 (hiW x), .int .u64 (loW x)] ∧ w.heap.size + 1 < gx)) ∧ Below w.heap.size w wx) wx) ∧ ((Var wx go s2 A2 n2 c2 ∧ IsB wx 84 s2 A2 n2 c2 o) ∧ gx < go)) wx ∧ ((Var wx gA s4 A4 n4 c4 ∧ IsB wx 90 s4 A4 n4 c4 x) ∧ go < gA)) 41 [.bool s4, .slice A4 n4 c4] [.bool false, .slice none 0 0] gA infoBig (.tmp 11) (.tmp 53) rfl rfl (by kernel_rfl) (by decide) (by rfl) ?sv4a ?sv4b ?sv4c ?sv4d ?sv4e (fun _ h => h.2.1.cs) (fun _ h => ⟨⟨⟨⟨⟨h.1.1.1.1.1.1.1.fars (by have := h.1.1.1.1.1.2.2; have := h.1.1.1.2.2; have := h.2.2; omega) _ _, h.1.1.1.1.1.1.2.fars (by have := h.1.1.1.1.1.2.2; have := h.1.1.1.2.2; have := h.2.2; omega) _ _⟩, h.1.1.1.1.1.2.1.fars (by have := h.1.1.1.2.2; have := h.2.2; omega) _ _, h.1.1.1.1.1.2.2⟩, below_sets (by have := h.1.1.1.1.1.2.2; have := h.1.1.1.2.2; have := h.2.2; omega) _ _ h.1.1.1.1.2⟩, ⟨Var.fars (by have := h.2.2; omega) _ _ h.1.1.1.2.1.1, h.1.1.1.2.1.2.sets h.2.1.2.2.2.2 0 _⟩, h.1.1.1.2.2⟩, ⟨h.2.1.sets s4 A4 n4 c4, h.1.2.sets h.2.1.2.2.2.2 0 _⟩, h.2.2⟩) (fun _ h => h.1) ((fun _ _ h hb => ⟨⟨⟨⟨⟨h.1.1.1.1.1.below hb, h.1.1.1.1.2.below hb⟩, h.1.1.1.2.1.below hb, h.1.1.1.2.2⟩, below_on h.1.1.2 hb⟩, ⟨h.1.2.1.1.below hb, h.1.2.1.2.below hb⟩, h.1.2.2⟩, ⟨h.2.1.1.below hb, h.2.1.2.below hb⟩, h.2.2⟩)) ?sv4f
  case sv4a => rfl
  case sv4b => rfl
  case sv4c => rfl
  case sv4d => rfl
  case sv4e => rfl
  try simp only [List.getElem_toArray, List.getElem_cons_zero, List.getElem_cons_succ, Act.put, List.setIfInBounds_toArray, List.set_cons_zero, List.set_cons_succ]
  refine wpAnyE_take (i := 10) (v := ?_) ((fun _ _ h hb => ⟨⟨⟨⟨⟨h.1.1.1.1.1.below hb, h.1.1.1.1.2.below hb⟩, h.1.1.1.2.1.below hb, h.1.1.1.2.2⟩, below_on h.1.1.2 hb⟩, ⟨h.1.2.1.1.below hb, h.1.2.1.2.below hb⟩, h.1.2.2⟩, ⟨h.2.1.1.below hb, h.2.1.2.below hb⟩, h.2.2⟩)) (fun _ h => h.1) rfl (by kernel_rfl) (by kernel_rfl) (by kernel_rfl) (by kernel_rfl) (fun _ _ _ h => h) (SteadyB.of_yields (Or.inl ⟨by rfl, ?_⟩)) ?_
  rotate_left
  · intro wq hSw
    go_simp
    (try with_reducible rfl)
  try simp only [List.getElem_toArray, List.getElem_cons_zero, List.getElem_cons_succ, Act.put, List.setIfInBounds_toArray, List.set_cons_zero, List.set_cons_succ]
  refine wpAnyE_done (by kernel_rfl) (fun wz hSz => ?_) _
  have HQ9 := hid hSz
  have hsZ : ∀ W W', (fun wx => (fun wx => ((fun wx => ((Cs wx w.heap.size m.cells ∧ Cs wx (w.heap.size + 1) (pcells p)) ∧ (Cs wx gx [.int .i64 (hiW x), .int .u64 (loW x)] ∧ w.heap.size + 1 < gx)) ∧ Below w.heap.size w wx) wx) ∧ ((Var wx go s2 A2 n2 c2 ∧ IsB wx 84 s2 A2 n2 c2 o) ∧ gx < go)) wx ∧ ((Var wx gA s4 A4 n4 c4 ∧ IsB wx 90 s4 A4 n4 c4 x) ∧ go < gA)) W → Below W.heap.size W W' → (fun wx => (fun wx => ((fun wx => ((Cs wx w.heap.size m.cells ∧ Cs wx (w.heap.size + 1) (pcells p)) ∧ (Cs wx gx [.int .i64 (hiW x), .int .u64 (loW x)] ∧ w.heap.size + 1 < gx)) ∧ Below w.heap.size w wx) wx) ∧ ((Var wx go s2 A2 n2 c2 ∧ IsB wx 84 s2 A2 n2 c2 o) ∧ gx < go)) wx ∧ ((Var wx gA s4 A4 n4 c4 ∧ IsB wx 90 s4 A4 n4 c4 x) ∧ go < gA)) W' := (fun _ _ h hb => ⟨⟨⟨⟨⟨h.1.1.1.1.1.below hb, h.1.1.1.1.2.below hb⟩, h.1.1.1.2.1.below hb, h.1.1.1.2.2⟩, below_on h.1.1.2 hb⟩, ⟨h.1.2.1.1.below hb, h.1.2.1.2.below hb⟩, h.1.2.2⟩, ⟨h.2.1.1.below hb, h.2.1.2.below hb⟩, h.2.2⟩)
  clear hSz HQ8
  obtain ⟨o0, o1, o2, o3, _⟩ := HQ9.out.1.2.1.1
  have ol := HQ9.out.1.2.1.1.lt
  go_wp2_with fail
  clear o0 o1 o2 o3 ol
  refine (Ref.sign 84 s2 A2 n2 c2 o _ HQ9.out.1.2.1.2).mono ?_
  rintro e w7 ⟨rfl, hb⟩
  replace HQ9 := hid (hsZ _ _ HQ9.out hb)
  clear hb
  obtain ⟨v0, v1, v2, v3, _⟩ := HQ9.out.2.1.1
  have vl := HQ9.out.2.1.1.lt
  obtain ⟨x0, x1⟩ := HQ9.out.1.1.1.2.1.two
  go_wp2_with fail
  clear v0 v1 v2 v3 vl x0 x1
  refine (Law.same 90 (by decide) _ _ x (isW_of HXW.out) s4 A4 n4 c4 x _ HQ9.out.2.1.2 true ⟨fun _ => rfl, fun _ => rfl⟩).mono ?_
  rintro e w8 ⟨rfl, hb⟩
  replace HQ9 := hid (hsZ _ _ HQ9.out hb)
  clear hb
  obtain ⟨m0, m1, m2, m3, m4⟩ := Mu.at m HQ9.out.1.1.1.1.1
  obtain ⟨q0, q1, q2⟩ := P3.at p HQ9.out.1.1.1.1.2
  go_wp2_with fail
  clear m0 m1 m2 m3 m4 q0 q1 q2
  refine (Lag.eligible m p HM.out HP.out _).mono ?_
  rw [HEL.out]
  rintro e w9 ⟨rfl, hb⟩
  replace HQ9 := hid (hsZ _ _ HQ9.out hb)
  clear hb
  obtain ⟨o0, o1, o2, o3, _⟩ := HQ9.out.1.2.1.1
  have ol := HQ9.out.1.2.1.1.lt
  go_wp2_with fail
  clear o0 o1 o2 o3 ol
  refine (Ref.sign 84 s2 A2 n2 c2 o _ HQ9.out.1.2.1.2).mono ?_
  rintro e w10 ⟨rfl, hb⟩
  replace HQ9 := hid (hsZ _ _ HQ9.out hb)
  clear hb
  go_wp2_with fail
  go_ret
  exact ⟨by first | rfl | simp [*], HQ9.out.1.1.2⟩
set_option maxRecDepth 100000 in
set_option maxHeartbeats 16000000 in
theorem Lreads.nok (m : Mu) (p : P3) (k : Bool) (o x : Int) (hov : m.over p = (k, o)) (hlg : m.lag p = (k, x)) (hm : m.In) (hp : PIn p) (hn : ¬ m.n < 0) (hn2 : ¬ 1000 < m.n) (hk : k = false) (w : World) (htab : Tab10 w.heap.size w) : Calls Tryz.prog 4 #[m.val, pv p] w (Ans (.bool true) w) := by
  have HT := hid htab
  have HM := hid hm
  have HP := hid hp
  have HQ := hid (M2'.new w m p)
  have HOV := hid hov
  have HLG := hid hlg
  have HSG : Hid (m.sign p = (k, cmpI o 0)) := hid (by unfold Mu.sign; rw [hov])
  have HXW : Hid (WR x) := hid (by have := lag_wr' m p; rwa [hlg] at this)
  subst hk
  have HEL : Hid (m.elig p = false) := hid (by unfold Mu.elig; rw [hov]; rfl)
  clear htab hm hp hov hlg
  unfold Mu.val pv
  go_enter Tryz.func4, Tryz.ntmps4
  go_wp2_with fail
  generalize ((w.alloc (.cells #[.int .u64 m.b, .int .i64 (hiW m.a), .int .u64 (loW m.a), .int .u64 m.w, .int .i64 m.n] 36)).alloc (.cells #[.int .u64 p.1, .int .u32 p.2.1, .int .u32 p.2.2] 29)) = W0 at HQ ⊢
  refine (Law9.awake _ (HT.out.at2 HQ.out.2.2)).mono ?_
  rintro e w1 ⟨rfl, hb⟩
  replace HQ := hid (HQ.out.below hb)
  clear hb HT
  obtain ⟨m0, m1, m2, m3, m4⟩ := Mu.at m HQ.out.1
  obtain ⟨q0, q1, q2⟩ := P3.at p HQ.out.2.1
  go_wp2_with fail
  clear m0 m1 m2 m3 m4 q0 q1 q2
  refine (Lag.sign m p HM.out HP.out _).mono ?_
  rw [HSG.out]
  rintro e w2 ⟨rfl, hb⟩
  replace HQ := hid (HQ.out.below hb)
  clear hb
  obtain ⟨m0, m1, m2, m3, m4⟩ := Mu.at m HQ.out.1
  obtain ⟨q0, q1, q2⟩ := P3.at p HQ.out.2.1
  go_wp2_with fail
  clear m0 m1 m2 m3 m4 q0 q1 q2
  refine (Lag.read m p HM.out HP.out _).mono ?_
  rw [HLG.out]
  rintro e w3 ⟨rfl, hb⟩
  have ha := (Below.refl w3.heap.size w3).alloc (Nat.le_refl _) (.cells #[.int .i64 (hiW x), .int .u64 (loW x)] 34)
  have HQ7 : Hid (((Cs (w3.alloc (.cells #[.int .i64 (hiW x), .int .u64 (loW x)] 34)) w.heap.size m.cells ∧ Cs (w3.alloc (.cells #[.int .i64 (hiW x), .int .u64 (loW x)] 34)) (w.heap.size + 1) (pcells p)) ∧ (Cs (w3.alloc (.cells #[.int .i64 (hiW x), .int .u64 (loW x)] 34)) w3.heap.size [.int .i64 (hiW x), .int .u64 (loW x)] ∧ w.heap.size + 1 < w3.heap.size)) ∧ Below w.heap.size w (w3.alloc (.cells #[.int .i64 (hiW x), .int .u64 (loW x)] 34))) := hid ⟨⟨⟨(HQ.out.1.below hb).below ha, (HQ.out.2.1.below hb).below ha⟩, Cs.new2 w3 _ _ _, (HQ.out.2.1.below hb).lt⟩, below_on (below_on HQ.out.2.2 hb) ha⟩
  clear hb ha HQ
  go_wp2_with fail
  generalize w3.alloc (.cells #[.int .i64 (hiW x), .int .u64 (loW x)] 34) = W3 at HQ7 ⊢
  generalize w3.heap.size = gx at HQ7 ⊢
  have hsT1 : Stays (fun wx => ((Cs wx w.heap.size m.cells ∧ Cs wx (w.heap.size + 1) (pcells p)) ∧ (Cs wx gx [.int .i64 (hiW x), .int .u64 (loW x)] ∧ w.heap.size + 1 < gx)) ∧ Below w.heap.size w wx) := fun _ _ h hb => ⟨⟨⟨h.1.1.1.below hb, h.1.1.2.below hb⟩, h.1.2.1.below hb, h.1.2.2⟩, below_on h.2 hb⟩
  refine wp_region_grow (S := fun wx => ((Cs wx w.heap.size m.cells ∧ Cs wx (w.heap.size + 1) (pcells p)) ∧ (Cs wx gx [.int .i64 (hiW x), .int .u64 (loW x)] ∧ w.heap.size + 1 < gx)) ∧ Below w.heap.size w wx) 11 (by kernel_rfl) (hsT1 _ _ (HQ7.out) (Below.refl _ _).drew) ?_
  refine wpAnyE_take (i := 0) (v := ?_) (hsT1) (fun _ h => h) rfl (by kernel_rfl) (by kernel_rfl) (by kernel_rfl) (by kernel_rfl) (fun _ _ _ h => h) (SteadyB.of_yields (Or.inl ⟨by rfl, ?_⟩)) ?_
  rotate_left
  · intro wq hSw
    obtain ⟨m0, m1, m2, m3, m4⟩ := Mu.at m hSw.1.1.1
    obtain ⟨q0, q1, q2⟩ := P3.at p hSw.1.1.2
    go_simp
    (try with_reducible rfl)
  try simp only [List.getElem_toArray, List.getElem_cons_zero, List.getElem_cons_succ, Act.put, List.setIfInBounds_toArray, List.set_cons_zero, List.set_cons_succ]
  refine wpAnyE_take (i := 2) (v := ?_) (hsT1) (fun _ h => h) rfl (by kernel_rfl) (by kernel_rfl) (by kernel_rfl) (by kernel_rfl) (fun _ _ _ h => h) (SteadyB.of_yields (Or.inl ⟨by rfl, ?_⟩)) ?_
  rotate_left
  · intro wq hSw
    obtain ⟨m0, m1, m2, m3, m4⟩ := Mu.at m hSw.1.1.1
    obtain ⟨q0, q1, q2⟩ := P3.at p hSw.1.1.2
    go_simp
    (try with_reducible rfl)
  try simp only [List.getElem_toArray, List.getElem_cons_zero, List.getElem_cons_succ, Act.put, List.setIfInBounds_toArray, List.set_cons_zero, List.set_cons_succ]
  refine wpF.fst (j := 8) (dst := some 9) (T := fun wx g => Var wx g false none 0 0 ∧ gx < g) ?_
  refine wpF_call (k := 1) _ (fun x => rmV m x) (bqR 18 m.a) rfl rfl rfl (Or.inl (by kernel_rfl)) (by kernel_rfl) (by decide) (by decide) (by decide) (by kernel_rfl) (by intro cs b h; cases h) (by rfl) (fun _ => rfl) (hsT1) (fun _ h => h) (fun g => fun _ _ h hb => ⟨h.1.below hb, h.2⟩) (fun yq => bqR.stays 18 m.a yq) (fun aq wq hSw => ?_) (fun wq hSw => ?_) (fun yq => ?_)
  · (first | exact ⟨_, by go_simp; (try with_reducible rfl), (Below.refl _ _).alloc (Nat.le_refl _) _, Var.new _ _ _ _ _ _, hSw.1.2.1.lt⟩ | exact ⟨_, by go_simp; (try with_reducible rfl), (Below.refl _ _).alloc (Nat.le_refl _) _, Var.new _ _ _ _ _ _, hSw.1.1.2.1.lt⟩ | exact ⟨_, by go_simp; (try with_reducible rfl), (Below.refl _ _).alloc (Nat.le_refl _) _, Var.new _ _ _ _ _ _, hSw.1.1.1.2.1.lt⟩)
  · exact RunI.of_calls (Law8.of m HM.out wq) (by go_simp) (fun e w' h => h)
  obtain ⟨s1, A1, n1, c1⟩ := yq
  dsimp only [bqV, bqR]
  try simp only [List.getElem_toArray, List.getElem_cons_zero, List.getElem_cons_succ, Act.put, List.setIfInBounds_toArray, List.set_cons_zero, List.set_cons_succ]
  refine wpF_take (k := 3) (v := pv p) _ rfl rfl rfl (by decide) (Stays.and_ (hsT1) (bqR.stays 18 m.a (s1, A1, n1, c1))) (fun _ h => h.1) (fun g => fun _ _ h hb => ⟨h.1.below hb, h.2⟩) (by kernel_rfl) (by kernel_rfl) (by kernel_rfl) (by kernel_rfl) (by kernel_rfl) (by kernel_rfl) (by kernel_rfl) (by kernel_rfl) (by intro cs b h; cases h) (fun _ _ _ h => h) (Or.inl ⟨by rfl, fun wq hSw => ?_⟩) ?_
  · refine RunB.of_calls (Law4.of p.1 p.2.1 p.2.2 wq) (by go_simp) ?_
    rintro e wr ⟨rfl, hb⟩
    exact ⟨rfl, hb⟩
  try simp only [List.getElem_toArray, List.getElem_cons_zero, List.getElem_cons_succ, Act.put, List.setIfInBounds_toArray, List.set_cons_zero, List.set_cons_succ]
  refine wpF_call (k := 4) _ (fun x => .tuple #[bqV x, .bool false]) (bqR 84 o) rfl rfl rfl (Or.inl (by kernel_rfl)) (by kernel_rfl) (by decide) (by decide) (by decide) (by kernel_rfl) (by intro cs b h; cases h) (by rfl) (fun _ => rfl) (Stays.and_ (hsT1) (bqR.stays 18 m.a (s1, A1, n1, c1))) (fun _ h => h.1) (fun g => fun _ _ h hb => ⟨h.1.below hb, h.2⟩) (fun yq => bqR.stays 84 o yq) (fun aq wq hSw => ?_) (fun wq hSw => ?_) (fun yq => ?_)
  · (first | exact ⟨_, by go_simp; (try with_reducible rfl), (Below.refl _ _).alloc (Nat.le_refl _) _, Var.new _ _ _ _ _ _, hSw.1.2.1.lt⟩ | exact ⟨_, by go_simp; (try with_reducible rfl), (Below.refl _ _).alloc (Nat.le_refl _) _, Var.new _ _ _ _ _ _, hSw.1.1.2.1.lt⟩ | exact ⟨_, by go_simp; (try with_reducible rfl), (Below.refl _ _).alloc (Nat.le_refl _) _, Var.new _ _ _ _ _ _, hSw.1.1.1.2.1.lt⟩)
  · exact RunI.of_calls (Ref9.over m (s1, A1, n1, c1) p HM.out HP.out wq hSw.2) (by go_simp) (fun e w' h => by rw [HOV.out] at h; exact h)
  obtain ⟨s2, A2, n2, c2⟩ := yq
  dsimp only [bqV, bqR]
  try simp only [List.getElem_toArray, List.getElem_cons_zero, List.getElem_cons_succ, Act.put, List.setIfInBounds_toArray, List.set_cons_zero, List.set_cons_succ]
  refine wpF_take (k := 5) (v := ?_) _ rfl rfl rfl (by decide) (Stays.and_ (Stays.and_ (hsT1) (bqR.stays 18 m.a (s1, A1, n1, c1))) (bqR.stays 84 o (s2, A2, n2, c2))) (fun _ h => h.1.1) (fun g => fun _ _ h hb => ⟨h.1.below hb, h.2⟩) (by kernel_rfl) (by kernel_rfl) (by kernel_rfl) (by kernel_rfl) (by kernel_rfl) (by kernel_rfl) (by kernel_rfl) (by kernel_rfl) (by intro cs b h; cases h) (fun _ _ _ h => h) (SteadyB.of_yields (Or.inl ⟨by rfl, ?_⟩)) ?_
  rotate_left
  · intro wq hSw
    go_simp
    (try with_reducible rfl)
  try simp only [List.getElem_toArray, List.getElem_cons_zero, List.getElem_cons_succ, Act.put, List.setIfInBounds_toArray, List.set_cons_zero, List.set_cons_succ]
  refine wpF_take (k := 6) (v := ?_) _ rfl rfl rfl (by decide) (Stays.and_ (Stays.and_ (hsT1) (bqR.stays 18 m.a (s1, A1, n1, c1))) (bqR.stays 84 o (s2, A2, n2, c2))) (fun _ h => h.1.1) (fun g => fun _ _ h hb => ⟨h.1.below hb, h.2⟩) (by kernel_rfl) (by kernel_rfl) (by kernel_rfl) (by kernel_rfl) (by kernel_rfl) (by kernel_rfl) (by kernel_rfl) (by kernel_rfl) (by intro cs b h; cases h) (fun _ _ _ h => h) (SteadyB.of_yields (Or.inl ⟨by rfl, ?_⟩)) ?_
  rotate_left
  · intro wq hSw
    go_simp
    (try with_reducible rfl)
  try simp only [List.getElem_toArray, List.getElem_cons_zero, List.getElem_cons_succ, Act.put, List.setIfInBounds_toArray, List.set_cons_zero, List.set_cons_succ]
  refine wpF_take (k := 7) (v := ?_) _ rfl rfl rfl (by decide) (Stays.and_ (Stays.and_ (hsT1) (bqR.stays 18 m.a (s1, A1, n1, c1))) (bqR.stays 84 o (s2, A2, n2, c2))) (fun _ h => h.1.1) (fun g => fun _ _ h hb => ⟨h.1.below hb, h.2⟩) (by kernel_rfl) (by kernel_rfl) (by kernel_rfl) (by kernel_rfl) (by kernel_rfl) (by kernel_rfl) (by kernel_rfl) (by kernel_rfl) (by intro cs b h; cases h) (fun _ _ _ h => h) (SteadyB.of_yields (Or.inl ⟨by rfl, ?_⟩)) ?_
  rotate_left
  · intro wq hSw
    go_simp
    (try with_reducible rfl)
  try simp only [List.getElem_toArray, List.getElem_cons_zero, List.getElem_cons_succ, Act.put, List.setIfInBounds_toArray, List.set_cons_zero, List.set_cons_succ]
  refine wpF_done _ rfl rfl (by kernel_rfl) (by decide) (by rfl) (Stays.and_ (Stays.and_ (hsT1) (bqR.stays 18 m.a (s1, A1, n1, c1))) (bqR.stays 84 o (s2, A2, n2, c2))) (fun _ h => h.1.1) (fun g => fun _ _ h hb => ⟨h.1.below hb, h.2⟩) (fun wq hSw => ?_) (fun gA => ?_)
  · (first | exact ⟨_, by go_simp; (try with_reducible rfl), (Below.refl _ _).alloc (Nat.le_refl _) _, Var.new _ _ _ _ _ _, hSw.1.2.1.lt⟩ | exact ⟨_, by go_simp; (try with_reducible rfl), (Below.refl _ _).alloc (Nat.le_refl _) _, Var.new _ _ _ _ _ _, hSw.1.1.2.1.lt⟩ | exact ⟨_, by go_simp; (try with_reducible rfl), (Below.refl _ _).alloc (Nat.le_refl _) _, Var.new _ _ _ _ _ _, hSw.1.1.1.2.1.lt⟩)
  try simp only [List.getElem_toArray, List.getElem_cons_zero, List.getElem_cons_succ, Act.put, List.setIfInBounds_toArray, List.set_cons_zero, List.set_cons_succ]
  refine wpAnyE_store (i := 9) (fun wx => (fun wx => ((Cs wx w.heap.size m.cells ∧ Cs wx (w.heap.size + 1) (pcells p)) ∧ (Cs wx gx [.int .i64 (hiW x), .int .u64 (loW x)] ∧ w.heap.size + 1 < gx)) ∧ Below w.heap.size w wx) wx ∧ ((Var wx gA s2 A2 n2 c2 ∧ IsB wx 84 s2 A2 n2 c2 o) ∧ gx < gA)) 41 [.bool s2, .slice A2 n2 c2] [.bool false, .slice none 0 0] gA infoBig (.tmp 9) (.tmp 45) rfl rfl (by kernel_rfl) (by decide) (by rfl) ?sv2a ?sv2b ?sv2c ?sv2d ?sv2e (fun _ h => h.2.1.cs) (fun _ h => ⟨⟨⟨⟨h.1.1.1.1.1.1.fars (by have := h.1.1.1.1.2.2; have := h.2.2; omega) _ _, h.1.1.1.1.1.2.fars (by have := h.1.1.1.1.2.2; have := h.2.2; omega) _ _⟩, h.1.1.1.1.2.1.fars (by have := h.2.2; omega) _ _, h.1.1.1.1.2.2⟩, below_sets (by have := h.1.1.1.1.2.2; have := h.2.2; omega) _ _ h.1.1.1.2⟩, ⟨h.2.1.sets s2 A2 n2 c2, h.1.2.sets h.2.1.2.2.2.2 0 _⟩, h.2.2⟩) (fun _ h => h.1) ((fun _ _ h hb => ⟨⟨⟨⟨h.1.1.1.1.below hb, h.1.1.1.2.below hb⟩, h.1.1.2.1.below hb, h.1.1.2.2⟩, below_on h.1.2 hb⟩, ⟨h.2.1.1.below hb, h.2.1.2.below hb⟩, h.2.2⟩)) ?sv2f
  case sv2a => rfl
  case sv2b => rfl
  case sv2c => rfl
  case sv2d => rfl
  case sv2e => rfl
  try simp only [List.getElem_toArray, List.getElem_cons_zero, List.getElem_cons_succ, Act.put, List.setIfInBounds_toArray, List.set_cons_zero, List.set_cons_succ]
  refine wpAnyE_take (i := 10) (v := ?_) ((fun _ _ h hb => ⟨⟨⟨⟨h.1.1.1.1.below hb, h.1.1.1.2.below hb⟩, h.1.1.2.1.below hb, h.1.1.2.2⟩, below_on h.1.2 hb⟩, ⟨h.2.1.1.below hb, h.2.1.2.below hb⟩, h.2.2⟩)) (fun _ h => h.1) rfl (by kernel_rfl) (by kernel_rfl) (by kernel_rfl) (by kernel_rfl) (fun _ _ _ h => h) (SteadyB.of_yields (Or.inl ⟨by rfl, ?_⟩)) ?_
  rotate_left
  · intro wq hSw
    go_simp
    (try with_reducible rfl)
  try simp only [List.getElem_toArray, List.getElem_cons_zero, List.getElem_cons_succ, Act.put, List.setIfInBounds_toArray, List.set_cons_zero, List.set_cons_succ]
  refine wpAnyE_done (by kernel_rfl) (fun wz hSz => ?_) _
  have HQ8 := hid hSz
  clear hSz HQ7
  generalize gA = go at HQ8 ⊢
  go_wp2_with fail
  have hsT3 : Stays (fun wx => ((fun wx => ((Cs wx w.heap.size m.cells ∧ Cs wx (w.heap.size + 1) (pcells p)) ∧ (Cs wx gx [.int .i64 (hiW x), .int .u64 (loW x)] ∧ w.heap.size + 1 < gx)) ∧ Below w.heap.size w wx) wx) ∧ ((Var wx go s2 A2 n2 c2 ∧ IsB wx 84 s2 A2 n2 c2 o) ∧ gx < go)) := fun _ _ h hb => ⟨⟨⟨⟨h.1.1.1.1.below hb, h.1.1.1.2.below hb⟩, h.1.1.2.1.below hb, h.1.1.2.2⟩, below_on h.1.2 hb⟩, ⟨h.2.1.1.below hb, h.2.1.2.below hb⟩, h.2.2⟩
  refine wp_region_grow (S := fun wx => ((fun wx => ((Cs wx w.heap.size m.cells ∧ Cs wx (w.heap.size + 1) (pcells p)) ∧ (Cs wx gx [.int .i64 (hiW x), .int .u64 (loW x)] ∧ w.heap.size + 1 < gx)) ∧ Below w.heap.size w wx) wx) ∧ ((Var wx go s2 A2 n2 c2 ∧ IsB wx 84 s2 A2 n2 c2 o) ∧ gx < go)) 11 (by kernel_rfl) (hsT3 _ _ (HQ8.out) (Below.refl _ _).drew) ?_
  refine wpAnyE_take (i := 0) (v := ?_) (hsT3) (fun _ h => h) rfl (by kernel_rfl) (by kernel_rfl) (by kernel_rfl) (by kernel_rfl) (fun _ _ _ h => h) (SteadyB.of_yields (Or.inl ⟨by rfl, ?_⟩)) ?_
  rotate_left
  · intro wq hSw
    obtain ⟨m0, m1, m2, m3, m4⟩ := Mu.at m hSw.1.1.1.1
    obtain ⟨q0, q1, q2⟩ := P3.at p hSw.1.1.1.2
    go_simp
    (try with_reducible rfl)
  try simp only [List.getElem_toArray, List.getElem_cons_zero, List.getElem_cons_succ, Act.put, List.setIfInBounds_toArray, List.set_cons_zero, List.set_cons_succ]
  refine wpAnyE_take (i := 2) (v := ?_) (hsT3) (fun _ h => h) rfl (by kernel_rfl) (by kernel_rfl) (by kernel_rfl) (by kernel_rfl) (fun _ _ _ h => h) (SteadyB.of_yields (Or.inl ⟨by rfl, ?_⟩)) ?_
  rotate_left
  · intro wq hSw
    obtain ⟨m0, m1, m2, m3, m4⟩ := Mu.at m hSw.1.1.1.1
    obtain ⟨q0, q1, q2⟩ := P3.at p hSw.1.1.1.2
    go_simp
    (try with_reducible rfl)
  try simp only [List.getElem_toArray, List.getElem_cons_zero, List.getElem_cons_succ, Act.put, List.setIfInBounds_toArray, List.set_cons_zero, List.set_cons_succ]
  refine wpF.fst (j := 8) (dst := some 11) (T := fun wx g => Var wx g false none 0 0 ∧ go < g) ?_
  refine wpF_call (k := 1) _ (fun x => rmV m x) (bqR 18 m.a) rfl rfl rfl (Or.inl (by kernel_rfl)) (by kernel_rfl) (by decide) (by decide) (by decide) (by kernel_rfl) (by intro cs b h; cases h) (by rfl) (fun _ => rfl) (hsT3) (fun _ h => h) (fun g => fun _ _ h hb => ⟨h.1.below hb, h.2⟩) (fun yq => bqR.stays 18 m.a yq) (fun aq wq hSw => ?_) (fun wq hSw => ?_) (fun yq => ?_)
  · (first | exact ⟨_, by go_simp; (try with_reducible rfl), (Below.refl _ _).alloc (Nat.le_refl _) _, Var.new _ _ _ _ _ _, hSw.2.1.1.lt⟩ | exact ⟨_, by go_simp; (try with_reducible rfl), (Below.refl _ _).alloc (Nat.le_refl _) _, Var.new _ _ _ _ _ _, hSw.1.2.1.1.lt⟩ | exact ⟨_, by go_simp; (try with_reducible rfl), (Below.refl _ _).alloc (Nat.le_refl _) _, Var.new _ _ _ _ _ _, hSw.1.1.2.1.1.lt⟩)
  · exact RunI.of_calls (Law8.of m HM.out wq) (by go_simp) (fun e w' h => h)
  obtain ⟨s3, A3, n3, c3⟩ := yq
  dsimp only [bqV, bqR]
  try simp only [List.getElem_toArray, List.getElem_cons_zero, List.getElem_cons_succ, Act.put, List.setIfInBounds_toArray, List.set_cons_zero, List.set_cons_succ]
  refine wpF_take (k := 3) (v := pv p) _ rfl rfl rfl (by decide) (Stays.and_ (hsT3) (bqR.stays 18 m.a (s3, A3, n3, c3))) (fun _ h => h.1) (fun g => fun _ _ h hb => ⟨h.1.below hb, h.2⟩) (by kernel_rfl) (by kernel_rfl) (by kernel_rfl) (by kernel_rfl) (by kernel_rfl) (by kernel_rfl) (by kernel_rfl) (by kernel_rfl) (by intro cs b h; cases h) (fun _ _ _ h => h) (Or.inl ⟨by rfl, fun wq hSw => ?_⟩) ?_
  · refine RunB.of_calls (Law4.of p.1 p.2.1 p.2.2 wq) (by go_simp) ?_
    rintro e wr ⟨rfl, hb⟩
    exact ⟨rfl, hb⟩
  try simp only [List.getElem_toArray, List.getElem_cons_zero, List.getElem_cons_succ, Act.put, List.setIfInBounds_toArray, List.set_cons_zero, List.set_cons_succ]
  refine wpF_call (k := 4) _ (fun x => .tuple #[bqV x, .bool false]) (bqR 90 x) rfl rfl rfl (Or.inl (by kernel_rfl)) (by kernel_rfl) (by decide) (by decide) (by decide) (by kernel_rfl) (by intro cs b h; cases h) (by rfl) (fun _ => rfl) (Stays.and_ (hsT3) (bqR.stays 18 m.a (s3, A3, n3, c3))) (fun _ h => h.1) (fun g => fun _ _ h hb => ⟨h.1.below hb, h.2⟩) (fun yq => bqR.stays 90 x yq) (fun aq wq hSw => ?_) (fun wq hSw => ?_) (fun yq => ?_)
  · (first | exact ⟨_, by go_simp; (try with_reducible rfl), (Below.refl _ _).alloc (Nat.le_refl _) _, Var.new _ _ _ _ _ _, hSw.2.1.1.lt⟩ | exact ⟨_, by go_simp; (try with_reducible rfl), (Below.refl _ _).alloc (Nat.le_refl _) _, Var.new _ _ _ _ _ _, hSw.1.2.1.1.lt⟩ | exact ⟨_, by go_simp; (try with_reducible rfl), (Below.refl _ _).alloc (Nat.le_refl _) _, Var.new _ _ _ _ _ _, hSw.1.1.2.1.1.lt⟩)
  · exact RunI.of_calls (Ref9.read m (s3, A3, n3, c3) p HM.out HP.out wq hSw.2) (by go_simp) (fun e w' h => by rw [HLG.out] at h; exact h)
  obtain ⟨s4, A4, n4, c4⟩ := yq
  dsimp only [bqV, bqR]
  try simp only [List.getElem_toArray, List.getElem_cons_zero, List.getElem_cons_succ, Act.put, List.setIfInBounds_toArray, List.set_cons_zero, List.set_cons_succ]
  refine wpF_take (k := 5) (v := ?_) _ rfl rfl rfl (by decide) (Stays.and_ (Stays.and_ (hsT3) (bqR.stays 18 m.a (s3, A3, n3, c3))) (bqR.stays 90 x (s4, A4, n4, c4))) (fun _ h => h.1.1) (fun g => fun _ _ h hb => ⟨h.1.below hb, h.2⟩) (by kernel_rfl) (by kernel_rfl) (by kernel_rfl) (by kernel_rfl) (by kernel_rfl) (by kernel_rfl) (by kernel_rfl) (by kernel_rfl) (by intro cs b h; cases h) (fun _ _ _ h => h) (SteadyB.of_yields (Or.inl ⟨by rfl, ?_⟩)) ?_
  rotate_left
  · intro wq hSw
    go_simp
    (try with_reducible rfl)
  try simp only [List.getElem_toArray, List.getElem_cons_zero, List.getElem_cons_succ, Act.put, List.setIfInBounds_toArray, List.set_cons_zero, List.set_cons_succ]
  refine wpF_take (k := 6) (v := ?_) _ rfl rfl rfl (by decide) (Stays.and_ (Stays.and_ (hsT3) (bqR.stays 18 m.a (s3, A3, n3, c3))) (bqR.stays 90 x (s4, A4, n4, c4))) (fun _ h => h.1.1) (fun g => fun _ _ h hb => ⟨h.1.below hb, h.2⟩) (by kernel_rfl) (by kernel_rfl) (by kernel_rfl) (by kernel_rfl) (by kernel_rfl) (by kernel_rfl) (by kernel_rfl) (by kernel_rfl) (by intro cs b h; cases h) (fun _ _ _ h => h) (SteadyB.of_yields (Or.inl ⟨by rfl, ?_⟩)) ?_
  rotate_left
  · intro wq hSw
    go_simp
    (try with_reducible rfl)
  try simp only [List.getElem_toArray, List.getElem_cons_zero, List.getElem_cons_succ, Act.put, List.setIfInBounds_toArray, List.set_cons_zero, List.set_cons_succ]
  refine wpF_take (k := 7) (v := ?_) _ rfl rfl rfl (by decide) (Stays.and_ (Stays.and_ (hsT3) (bqR.stays 18 m.a (s3, A3, n3, c3))) (bqR.stays 90 x (s4, A4, n4, c4))) (fun _ h => h.1.1) (fun g => fun _ _ h hb => ⟨h.1.below hb, h.2⟩) (by kernel_rfl) (by kernel_rfl) (by kernel_rfl) (by kernel_rfl) (by kernel_rfl) (by kernel_rfl) (by kernel_rfl) (by kernel_rfl) (by intro cs b h; cases h) (fun _ _ _ h => h) (SteadyB.of_yields (Or.inl ⟨by rfl, ?_⟩)) ?_
  rotate_left
  · intro wq hSw
    go_simp
    (try with_reducible rfl)
  try simp only [List.getElem_toArray, List.getElem_cons_zero, List.getElem_cons_succ, Act.put, List.setIfInBounds_toArray, List.set_cons_zero, List.set_cons_succ]
  refine wpF_done _ rfl rfl (by kernel_rfl) (by decide) (by rfl) (Stays.and_ (Stays.and_ (hsT3) (bqR.stays 18 m.a (s3, A3, n3, c3))) (bqR.stays 90 x (s4, A4, n4, c4))) (fun _ h => h.1.1) (fun g => fun _ _ h hb => ⟨h.1.below hb, h.2⟩) (fun wq hSw => ?_) (fun gA => ?_)
  · (first | exact ⟨_, by go_simp; (try with_reducible rfl), (Below.refl _ _).alloc (Nat.le_refl _) _, Var.new _ _ _ _ _ _, hSw.2.1.1.lt⟩ | exact ⟨_, by go_simp; (try with_reducible rfl), (Below.refl _ _).alloc (Nat.le_refl _) _, Var.new _ _ _ _ _ _, hSw.1.2.1.1.lt⟩ | exact ⟨_, by go_simp; (try with_reducible rfl), (Below.refl _ _).alloc (Nat.le_refl _) _, Var.new _ _ _ _ _ _, hSw.1.1.2.1.1.lt⟩)
  try simp only [List.getElem_toArray, List.getElem_cons_zero, List.getElem_cons_succ, Act.put, List.setIfInBounds_toArray, List.set_cons_zero, List.set_cons_succ]
  refine wpAnyE_store (i := 9) (fun wx => (fun wx => ((fun wx => ((Cs wx w.heap.size m.cells ∧ Cs wx (w.heap.size + 1) (pcells p)) ∧ (Cs wx gx [.int .i64 (hiW x), .int .u64 (loW x)] ∧ w.heap.size + 1 < gx)) ∧ Below w.heap.size w wx) wx) ∧ ((Var wx go s2 A2 n2 c2 ∧ IsB wx 84 s2 A2 n2 c2 o) ∧ gx < go)) wx ∧ ((Var wx gA s4 A4 n4 c4 ∧ IsB wx 90 s4 A4 n4 c4 x) ∧ go < gA)) 41 [.bool s4, .slice A4 n4 c4] [.bool false, .slice none 0 0] gA infoBig (.tmp 11) (.tmp 53) rfl rfl (by kernel_rfl) (by decide) (by rfl) ?sv4a ?sv4b ?sv4c ?sv4d ?sv4e (fun _ h => h.2.1.cs) (fun _ h => ⟨⟨⟨⟨⟨h.1.1.1.1.1.1.1.fars (by have := h.1.1.1.1.1.2.2; have := h.1.1.1.2.2; have := h.2.2; omega) _ _, h.1.1.1.1.1.1.2.fars (by have := h.1.1.1.1.1.2.2; have := h.1.1.1.2.2; have := h.2.2; omega) _ _⟩, h.1.1.1.1.1.2.1.fars (by have := h.1.1.1.2.2; have := h.2.2; omega) _ _, h.1.1.1.1.1.2.2⟩, below_sets (by have := h.1.1.1.1.1.2.2; have := h.1.1.1.2.2; have := h.2.2; omega) _ _ h.1.1.1.1.2⟩, ⟨Var.fars (by have := h.2.2; omega) _ _ h.1.1.1.2.1.1, h.1.1.1.2.1.2.sets h.2.1.2.2.2.2 0 _⟩, h.1.1.1.2.2⟩, ⟨h.2.1.sets s4 A4 n4 c4, h.1.2.sets h.2.1.2.2.2.2 0 _⟩, h.2.2⟩) (fun _ h => h.1) ((fun _ _ h hb => ⟨⟨⟨⟨⟨h.1.1.1.1.1.below hb, h.1.1.1.1.2.below hb⟩, h.1.1.1.2.1.below hb, h.1.1.1.2.2⟩, below_on h.1.1.2 hb⟩, ⟨h.1.2.1.1.below hb, h.1.2.1.2.below hb⟩, h.1.2.2⟩, ⟨h.2.1.1.below hb, h.2.1.2.below hb⟩, h.2.2⟩)) ?sv4f
  case sv4a => rfl
  case sv4b => rfl
  case sv4c => rfl
  case sv4d => rfl
  case sv4e => rfl
  try simp only [List.getElem_toArray, List.getElem_cons_zero, List.getElem_cons_succ, Act.put, List.setIfInBounds_toArray, List.set_cons_zero, List.set_cons_succ]
  refine wpAnyE_take (i := 10) (v := ?_) ((fun _ _ h hb => ⟨⟨⟨⟨⟨h.1.1.1.1.1.below hb, h.1.1.1.1.2.below hb⟩, h.1.1.1.2.1.below hb, h.1.1.1.2.2⟩, below_on h.1.1.2 hb⟩, ⟨h.1.2.1.1.below hb, h.1.2.1.2.below hb⟩, h.1.2.2⟩, ⟨h.2.1.1.below hb, h.2.1.2.below hb⟩, h.2.2⟩)) (fun _ h => h.1) rfl (by kernel_rfl) (by kernel_rfl) (by kernel_rfl) (by kernel_rfl) (fun _ _ _ h => h) (SteadyB.of_yields (Or.inl ⟨by rfl, ?_⟩)) ?_
  rotate_left
  · intro wq hSw
    go_simp
    (try with_reducible rfl)
  try simp only [List.getElem_toArray, List.getElem_cons_zero, List.getElem_cons_succ, Act.put, List.setIfInBounds_toArray, List.set_cons_zero, List.set_cons_succ]
  refine wpAnyE_done (by kernel_rfl) (fun wz hSz => ?_) _
  have HQ9 := hid hSz
  have hsZ : ∀ W W', (fun wx => (fun wx => ((fun wx => ((Cs wx w.heap.size m.cells ∧ Cs wx (w.heap.size + 1) (pcells p)) ∧ (Cs wx gx [.int .i64 (hiW x), .int .u64 (loW x)] ∧ w.heap.size + 1 < gx)) ∧ Below w.heap.size w wx) wx) ∧ ((Var wx go s2 A2 n2 c2 ∧ IsB wx 84 s2 A2 n2 c2 o) ∧ gx < go)) wx ∧ ((Var wx gA s4 A4 n4 c4 ∧ IsB wx 90 s4 A4 n4 c4 x) ∧ go < gA)) W → Below W.heap.size W W' → (fun wx => (fun wx => ((fun wx => ((Cs wx w.heap.size m.cells ∧ Cs wx (w.heap.size + 1) (pcells p)) ∧ (Cs wx gx [.int .i64 (hiW x), .int .u64 (loW x)] ∧ w.heap.size + 1 < gx)) ∧ Below w.heap.size w wx) wx) ∧ ((Var wx go s2 A2 n2 c2 ∧ IsB wx 84 s2 A2 n2 c2 o) ∧ gx < go)) wx ∧ ((Var wx gA s4 A4 n4 c4 ∧ IsB wx 90 s4 A4 n4 c4 x) ∧ go < gA)) W' := (fun _ _ h hb => ⟨⟨⟨⟨⟨h.1.1.1.1.1.below hb, h.1.1.1.1.2.below hb⟩, h.1.1.1.2.1.below hb, h.1.1.1.2.2⟩, below_on h.1.1.2 hb⟩, ⟨h.1.2.1.1.below hb, h.1.2.1.2.below hb⟩, h.1.2.2⟩, ⟨h.2.1.1.below hb, h.2.1.2.below hb⟩, h.2.2⟩)
  clear hSz HQ8
  obtain ⟨o0, o1, o2, o3, _⟩ := HQ9.out.1.2.1.1
  have ol := HQ9.out.1.2.1.1.lt
  go_wp2_with fail
  clear o0 o1 o2 o3 ol
  refine (Ref.sign 84 s2 A2 n2 c2 o _ HQ9.out.1.2.1.2).mono ?_
  rintro e w7 ⟨rfl, hb⟩
  replace HQ9 := hid (hsZ _ _ HQ9.out hb)
  clear hb
  obtain ⟨v0, v1, v2, v3, _⟩ := HQ9.out.2.1.1
  have vl := HQ9.out.2.1.1.lt
  obtain ⟨x0, x1⟩ := HQ9.out.1.1.1.2.1.two
  go_wp2_with fail
  clear v0 v1 v2 v3 vl x0 x1
  refine (Law.same 90 (by decide) _ _ x (isW_of HXW.out) s4 A4 n4 c4 x _ HQ9.out.2.1.2 true ⟨fun _ => rfl, fun _ => rfl⟩).mono ?_
  rintro e w8 ⟨rfl, hb⟩
  replace HQ9 := hid (hsZ _ _ HQ9.out hb)
  clear hb
  obtain ⟨m0, m1, m2, m3, m4⟩ := Mu.at m HQ9.out.1.1.1.1.1
  obtain ⟨q0, q1, q2⟩ := P3.at p HQ9.out.1.1.1.1.2
  go_wp2_with fail
  clear m0 m1 m2 m3 m4 q0 q1 q2
  refine (Lag.eligible m p HM.out HP.out _).mono ?_
  rw [HEL.out]
  rintro e w9 ⟨rfl, hb⟩
  replace HQ9 := hid (hsZ _ _ HQ9.out hb)
  clear hb
  go_wp2_with fail
  go_ret
  exact ⟨by first | rfl | simp [*], HQ9.out.1.1.2⟩
theorem Lreads.law (m : Mu) (t r y : Int) (w : World) (hm : m.In) (h1 : (0 ≤ t ∧ t ≤ 18446744073709551615) ∧ (0 ≤ r ∧ r ≤ 4294967295) ∧ (0 ≤ y ∧ y ≤ 4294967295)) (htab : Tab10 w.heap.size w) :
    Calls Tryz.prog 4 #[m.val, .agg #[.int .u64 t, .int .u32 r, .int .u32 y]] w fun e w' => e = .returned (.bool true) ∧ Below w.heap.size w w' := by
  by_cases hn : m.n < 0
  · exact Lreads.away1 m (t, r, y) hm h1 hn w htab
  · by_cases hn2 : 1000 < m.n
    · exact Lreads.away2 m (t, r, y) hm h1 hn hn2 w htab
    · have e : (m.lag (t, r, y)).1 = (m.over (t, r, y)).1 := by unfold Mu.lag Mu.over; split <;> rfl
      obtain ⟨k, o, ho⟩ : ∃ k o, m.over (t, r, y) = (k, o) := ⟨_, _, rfl⟩
      obtain ⟨k', x, hx⟩ : ∃ k' x, m.lag (t, r, y) = (k', x) := ⟨_, _, rfl⟩
      rw [ho, hx] at e
      obtain rfl : k' = k := e
      cases hk : k' with
      | false => rw [hk] at ho hx; exact Lreads.nok m (t, r, y) false o x ho hx hm h1 hn hn2 rfl w htab
      | true =>
        rw [hk] at ho hx
        by_cases c : 0 ≤ o
        · exact Lreads.yes m (t, r, y) true o x ho hx hm h1 hn hn2 rfl c w htab
        · exact Lreads.no m (t, r, y) true o x ho hx hm h1 hn hn2 rfl c w htab
end

end Go.Proofs.YthmilhhihcmdhaaGreatDoor
