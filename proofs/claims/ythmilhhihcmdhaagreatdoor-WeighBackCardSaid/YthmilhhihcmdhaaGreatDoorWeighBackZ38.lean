/- Texts of WeighBack's proof, together. -/
import Derived.Test.YthmilhhihcmdhaaGreatDoorWeighBackZ10
import Derived.Test.YthmilhhihcmdhaaGreatDoorWeighBackZ27
import Derived.Test.YthmilhhihcmdhaaGreatDoorRbB
import Derived.Test.YthmilhhihcmdhaaGreatDoorRefB
import Derived.Test.YthmilhhihcmdhaaGreatDoorWeighBackZ0
import Derived.Test.YthmilhhihcmdhaaGreatDoorWeighBackZ28
import Derived.Test.YthmilhhihcmdhaaGreatDoorWeighBackZ7
import Derived.Test.YthmilhhihcmdhaaGreatDoorWeighBackZ18
import Derived.Test.YthmilhhihcmdhaaGreatDoorWeighBackZ33
import Derived.Test.YthmilhhihcmdhaaGreatDoorStr
import Derived.Test.YthmilhhihcmdhaaGreatDoorWeighBackZ13
import Derived.Deep.AppendLies
import Derived.Deep.CutBlock
import Derived.Deep.DeepCutAuto
import Derived.Deep.RegionWith
import Derived.Deep.LoopGhost
namespace Go.Proofs.YthmilhhihcmdhaaGreatDoor
/- The chapter's example of layer 8, as the laws ask it. -/
section
open Go.RowKit
theorem Law7.Awake (w : World) : Calls Tryz.prog 62 #[] w (Ans (.bool true) w) := by
  go_enter Tryz.func62, Tryz.ntmps62
  go_wp2_with (go_at_call 100; refine (Law7.awake _).mono ?_; rintro e w' ⟨rfl, hb⟩)
  go_ret
  exact ⟨rfl, hb⟩
theorem ex8 : Mu.of 5 [(5, 0, 1), (8, 0, 1)] = (true, ⟨5, 3, 2, 2⟩) := by
  rw [of_yes 5 (l := [(5, 0, 1), (8, 0, 1)]) (fun p hp => by
    simp at hp
    rcases hp with rfl | rfl
    · exact ⟨by decide, ⟨by decide, by decide⟩, ⟨by decide, by decide⟩, by decide, by decide⟩
    · exact ⟨by decide, ⟨by decide, by decide⟩, ⟨by decide, by decide⟩, by decide, by decide⟩) (by decide)]
  rfl
theorem ex8f : Mu.fl ⟨5, 3, 2, 2⟩ = (true, 6) := by first | rfl | decide +kernel
theorem ex8t : txtOf 3 = [51] := by first | decide +kernel | (unfold txtOf; rw [if_neg (by decide)]; simp [Lib.decDigits])
theorem Tab10.at2 {w0 w : World} (h : Tab10 w0.heap.size w0) (hb : Below w0.heap.size w0 w) : Tab10 w.heap.size w := Tab10.of (h.on hb).here
set_option maxRecDepth 100000 in
set_option maxHeartbeats 4000000 in
theorem Law8.awake (w : World) (htab : Tab10 w.heap.size w) : Calls Tryz.prog 16 #[] w (Ans (.bool true) w) := by
  have HT := hid htab
  have HB0 := hid ((Below.refl w.heap.size w).alloc (Nat.le_refl _) (.cells #[.int .u64 5, .int .u32 0, .int .u32 1, .int .u64 8, .int .u32 0, .int .u32 1] 29))
  have HR := hid (RdP.new2 w 29 5 0 1 8 0 1)
  clear htab
  go_enter Tryz.func16, Tryz.ntmps16
  go_wp2_with fail

  generalize (w.alloc (.cells #[.int .u64 5, .int .u32 0, .int .u32 1, .int .u64 8, .int .u32 0, .int .u32 1] 29)) = W0 at HB0 HR ⊢
  refine (Mean.of 5 ⟨by decide, by decide⟩ (some ⟨w.heap.size, 0, none⟩) 2 2 [(5, 0, 1), (8, 0, 1)] _ HR.out (fun p hp => by
    simp at hp
    rcases hp with rfl | rfl
    · exact ⟨⟨by decide, by decide⟩, ⟨by decide, by decide⟩, by decide, by decide⟩
    · exact ⟨⟨by decide, by decide⟩, ⟨by decide, by decide⟩, by decide, by decide⟩) (by decide)).mono ?_
  rw [ex8]
  rintro e w1 ⟨rfl, hb⟩
  have ha := (Below.refl w1.heap.size w1).alloc (Nat.le_refl _) (.cells #[.int .u64 5, .int .i64 (hiW 3), .int .u64 (loW 3), .int .u64 2, .int .i64 2] 36)
  have HB1 := hid (below_on (below_on HB0.out hb) ha)
  have HC1 : Hid (Cs (w1.alloc (.cells #[.int .u64 5, .int .i64 (hiW 3), .int .u64 (loW 3), .int .u64 2, .int .i64 2] 36)) w1.heap.size (Mu.mk 5 3 2 2).cells) := hid (Cs.alloc_new6 w1 _ (Mu.mk 5 3 2 2).cells)
  clear hb ha HB0 HR
  go_wp2_with fail
  generalize (w1.alloc (.cells #[.int .u64 5, .int .i64 (hiW 3), .int .u64 (loW 3), .int .u64 2, .int .i64 2] 36)) = W1 at HB1 HC1 ⊢
  generalize w1.heap.size = g at HC1 ⊢
  refine (Mean.floor ⟨5, 3, 2, 2⟩ (by unfold Mu.In WR; refine ⟨⟨?_, ?_⟩, ⟨?_, ?_⟩, ⟨?_, ?_⟩, ?_, ?_⟩ <;> decide) _).mono ?_
  rw [ex8f]
  rintro e w2 ⟨rfl, hb⟩
  have HB2 := hid (below_on HB1.out hb)
  have HC2 := hid (HC1.out.below hb)
  clear hb HB1 HC1
  go_wp2_with fail
  refine (Law7.Awake _).mono ?_
  rintro e w3 ⟨rfl, hb⟩
  have HB3 := hid (below_on HB2.out hb)
  have HC3 := hid (HC2.out.below hb)
  clear hb HB2 HC2
  obtain ⟨m0, m1, m2, m3, m4⟩ := Mu.at _ HC3.out
  go_wp2_with fail
  refine (Wide.string (hiW 3) (loW 3) 3 (isW_of (by unfold WR; omega)) _ (HT.out.at2 HB3.out)).mono ?_
  rw [ex8t]
  rintro e w4 ⟨rfl, hb⟩
  have HB4 := hid (below_on HB3.out hb)
  have HC4 := hid (HC3.out.below hb)
  clear hb HB3 HC3 m0 m1 m2 m3 m4
  obtain ⟨m0, m1, m2, m3, m4⟩ := Mu.at _ HC4.out
  go_wp2_with fail
  go_ret
  exact ⟨rfl, HB4.out⟩
theorem Law8.Awake (w : World) (htab : Tab10 w.heap.size w) : Calls Tryz.prog 68 #[] w (Ans (.bool true) w) := by
  go_enter Tryz.func68, Tryz.ntmps68
  go_wp2_with (go_at_call 16; refine (Law8.awake _ htab).mono ?_; rintro e w' ⟨rfl, hb⟩)
  go_ret
  exact ⟨rfl, hb⟩
end

/- The chapter's example of layer 9, as the laws ask it. -/
section
open Go.RowKit
theorem ex9in : (Mu.mk 5 3 2 2).In := by unfold Mu.In WR; refine ⟨⟨?_, ?_⟩, ⟨?_, ?_⟩, ⟨?_, ?_⟩, ?_, ?_⟩ <;> decide
theorem ex9p : PIn (5, 0, 1) := ⟨⟨by decide, by decide⟩, ⟨by decide, by decide⟩, by decide, by decide⟩
theorem ex9q : PIn (8, 0, 1) := ⟨⟨by decide, by decide⟩, ⟨by decide, by decide⟩, by decide, by decide⟩
theorem ex9a (w : World) : Calls Tryz.prog 25 #[(Mu.mk 5 3 2 2).val, pv (5, 0, 1)] w (Ans (.bool true) w) := by
  have h := Lag.eligible (Mu.mk 5 3 2 2) (5, 0, 1) ex9in ex9p w
  rwa [show (Mu.mk 5 3 2 2).elig (5, 0, 1) = true by first | rfl | decide +kernel] at h
theorem ex9b (w : World) : Calls Tryz.prog 25 #[(Mu.mk 5 3 2 2).val, pv (8, 0, 1)] w (Ans (.bool false) w) := by
  have h := Lag.eligible (Mu.mk 5 3 2 2) (8, 0, 1) ex9in ex9q w
  rwa [show (Mu.mk 5 3 2 2).elig (8, 0, 1) = false by first | rfl | decide +kernel] at h
theorem ex9c (w : World) : Calls Tryz.prog 27 #[(Mu.mk 5 3 2 2).val, pv (5, 0, 1)] w (Ans (.tuple #[wv 1, .bool true]) w) := by
  have h := Lag.read (Mu.mk 5 3 2 2) (5, 0, 1) ex9in ex9p w
  rwa [show (Mu.mk 5 3 2 2).lag (5, 0, 1) = (true, 1) by first | rfl | decide +kernel] at h
theorem ex9d (w : World) : Calls Tryz.prog 27 #[(Mu.mk 5 3 2 2).val, pv (8, 0, 1)] w (Ans (.tuple #[wv (-2), .bool true]) w) := by
  have h := Lag.read (Mu.mk 5 3 2 2) (8, 0, 1) ex9in ex9q w
  rwa [show (Mu.mk 5 3 2 2).lag (8, 0, 1) = (true, -2) by first | rfl | decide +kernel] at h
/-- The example's variables. -/
def A9 (w : World) (g3 g4 g5 : Nat) (W : World) : Prop := (Cs W w.heap.size (pcells (5, 0, 1)) ∧ Cs W (w.heap.size + 1) (pcells (8, 0, 1)) ∧ Cs W g3 (Mu.mk 5 3 2 2).cells) ∧ (Cs W g4 [.int .i64 (hiW 1), .int .u64 (loW 1)] ∧ Cs W g5 [.int .i64 (hiW (-2)), .int .u64 (loW (-2))]) ∧ Below w.heap.size w W
theorem A9.below {w w1 w2 : World} {g3 g4 g5 : Nat} (h : A9 w g3 g4 g5 w1) (hb : Below w1.heap.size w1 w2) : A9 w g3 g4 g5 w2 := ⟨⟨h.1.1.below hb, h.1.2.1.below hb, h.1.2.2.below hb⟩, ⟨h.2.1.1.below hb, h.2.1.2.below hb⟩, below_on h.2.2 hb⟩
theorem A9.stays (w : World) (g3 g4 g5 : Nat) : Stays (A9 w g3 g4 g5) := fun _ _ h hb => h.below hb
set_option maxRecDepth 100000 in
set_option maxHeartbeats 8000000 in
theorem Law9.awake (w : World) (htab : Tab10 w.heap.size w) : Calls Tryz.prog 24 #[] w (Ans (.bool true) w) := by
  have HT := hid htab
  have HA0 : Hid ((Cs (((w.alloc (.cells #[.int .u64 5, .int .u32 0, .int .u32 1] 29)).alloc (.cells #[.int .u64 8, .int .u32 0, .int .u32 1] 29)).alloc (.cells #[.int .u64 5, .int .u32 0, .int .u32 1, .int .u64 8, .int .u32 0, .int .u32 1] 29)) w.heap.size (pcells (5, 0, 1)) ∧ Cs (((w.alloc (.cells #[.int .u64 5, .int .u32 0, .int .u32 1] 29)).alloc (.cells #[.int .u64 8, .int .u32 0, .int .u32 1] 29)).alloc (.cells #[.int .u64 5, .int .u32 0, .int .u32 1, .int .u64 8, .int .u32 0, .int .u32 1] 29)) (w.heap.size + 1) (pcells (8, 0, 1))) ∧ RdP (((w.alloc (.cells #[.int .u64 5, .int .u32 0, .int .u32 1] 29)).alloc (.cells #[.int .u64 8, .int .u32 0, .int .u32 1] 29)).alloc (.cells #[.int .u64 5, .int .u32 0, .int .u32 1, .int .u64 8, .int .u32 0, .int .u32 1] 29)) (some ⟨w.heap.size + 2, 0, none⟩) 2 [(5, 0, 1), (8, 0, 1)] ∧ Below w.heap.size w (((w.alloc (.cells #[.int .u64 5, .int .u32 0, .int .u32 1] 29)).alloc (.cells #[.int .u64 8, .int .u32 0, .int .u32 1] 29)).alloc (.cells #[.int .u64 5, .int .u32 0, .int .u32 1, .int .u64 8, .int .u32 0, .int .u32 1] 29))) := hid (by
    have h1 := Cs.alloc_new6 w 29 (pcells (5, 0, 1))
    have h2 := Cs.alloc_new6 (w.alloc (.cells #[.int .u64 5, .int .u32 0, .int .u32 1] 29)) 29 (pcells (8, 0, 1))
    have h3 := RdP.new2 ((w.alloc (.cells #[.int .u64 5, .int .u32 0, .int .u32 1] 29)).alloc (.cells #[.int .u64 8, .int .u32 0, .int .u32 1] 29)) 29 5 0 1 8 0 1
    simp only [World.size_alloc] at h2 h3
    exact ⟨⟨(h1.alloc _).alloc _, h2.alloc _⟩, h3, (((Below.refl w.heap.size w).alloc (Nat.le_refl _) _).alloc (by simp) _).alloc (by simp; omega) _⟩)
  clear htab
  go_enter Tryz.func24, Tryz.ntmps24
  go_wp2_with fail
  generalize (((w.alloc (.cells #[.int .u64 5, .int .u32 0, .int .u32 1] 29)).alloc (.cells #[.int .u64 8, .int .u32 0, .int .u32 1] 29)).alloc (.cells #[.int .u64 5, .int .u32 0, .int .u32 1, .int .u64 8, .int .u32 0, .int .u32 1] 29)) = W3 at HA0 ⊢
  refine (Mean.of 5 ⟨by decide, by decide⟩ (some ⟨w.heap.size + 2, 0, none⟩) 2 2 [(5, 0, 1), (8, 0, 1)] _ HA0.out.2.1 (fun p hp => by
    simp at hp
    rcases hp with rfl | rfl
    · exact ex9p
    · exact ex9q) (by decide)).mono ?_
  rw [ex8]
  rintro e w1 ⟨rfl, hb⟩
  have ha := (Below.refl w1.heap.size w1).alloc (Nat.le_refl _) (.cells #[.int .u64 5, .int .i64 (hiW 3), .int .u64 (loW 3), .int .u64 2, .int .i64 2] 36)
  have HA1 : Hid (((Cs (w1.alloc (.cells #[.int .u64 5, .int .i64 (hiW 3), .int .u64 (loW 3), .int .u64 2, .int .i64 2] 36)) w.heap.size (pcells (5, 0, 1)) ∧ Cs (w1.alloc (.cells #[.int .u64 5, .int .i64 (hiW 3), .int .u64 (loW 3), .int .u64 2, .int .i64 2] 36)) (w.heap.size + 1) (pcells (8, 0, 1))) ∧ Cs (w1.alloc (.cells #[.int .u64 5, .int .i64 (hiW 3), .int .u64 (loW 3), .int .u64 2, .int .i64 2] 36)) w1.heap.size (Mu.mk 5 3 2 2).cells) ∧ Below w.heap.size w (w1.alloc (.cells #[.int .u64 5, .int .i64 (hiW 3), .int .u64 (loW 3), .int .u64 2, .int .i64 2] 36))) := hid ⟨⟨⟨(HA0.out.1.1.below hb).below ha, (HA0.out.1.2.below hb).below ha⟩, Cs.alloc_new6 w1 _ (Mu.mk 5 3 2 2).cells⟩, below_on (below_on HA0.out.2.2 hb) ha⟩
  clear hb ha HA0
  obtain ⟨m0, m1, m2, m3, m4⟩ := Mu.at (Mu.mk 5 3 2 2) HA1.out.1.2
  obtain ⟨q0, q1, q2⟩ := P3.at (5, 0, 1) HA1.out.1.1.1
  dsimp only at m0 m1 m2 m3 m4 q0 q1 q2
  go_wp2_with fail
  clear m0 m1 m2 m3 m4 q0 q1 q2
  generalize w1.alloc (.cells #[.int .u64 5, .int .i64 (hiW 3), .int .u64 (loW 3), .int .u64 2, .int .i64 2] 36) = W4 at HA1 ⊢
  generalize w1.heap.size = g3 at HA1 ⊢
  refine (ex9c _).mono ?_
  rintro e w2 ⟨rfl, hb⟩
  have ha := (Below.refl w2.heap.size w2).alloc (Nat.le_refl _) (.cells #[.int .i64 (hiW 1), .int .u64 (loW 1)] 34)
  have HA2 : Hid (((Cs (w2.alloc (.cells #[.int .i64 (hiW 1), .int .u64 (loW 1)] 34)) w.heap.size (pcells (5, 0, 1)) ∧ Cs (w2.alloc (.cells #[.int .i64 (hiW 1), .int .u64 (loW 1)] 34)) (w.heap.size + 1) (pcells (8, 0, 1))) ∧ Cs (w2.alloc (.cells #[.int .i64 (hiW 1), .int .u64 (loW 1)] 34)) g3 (Mu.mk 5 3 2 2).cells) ∧ Cs (w2.alloc (.cells #[.int .i64 (hiW 1), .int .u64 (loW 1)] 34)) w2.heap.size [.int .i64 (hiW 1), .int .u64 (loW 1)] ∧ Below w.heap.size w (w2.alloc (.cells #[.int .i64 (hiW 1), .int .u64 (loW 1)] 34))) := hid ⟨⟨⟨(HA1.out.1.1.1.below hb).below ha, (HA1.out.1.1.2.below hb).below ha⟩, (HA1.out.1.2.below hb).below ha⟩, Cs.new2 w2 _ _ _, below_on (below_on HA1.out.2 hb) ha⟩
  clear hb ha HA1
  obtain ⟨m0, m1, m2, m3, m4⟩ := Mu.at (Mu.mk 5 3 2 2) HA2.out.1.2
  obtain ⟨q0, q1, q2⟩ := P3.at (8, 0, 1) HA2.out.1.1.2
  dsimp only at m0 m1 m2 m3 m4 q0 q1 q2
  go_wp2_with fail
  clear m0 m1 m2 m3 m4 q0 q1 q2
  generalize w2.alloc (.cells #[.int .i64 (hiW 1), .int .u64 (loW 1)] 34) = W5 at HA2 ⊢
  generalize w2.heap.size = g4 at HA2 ⊢
  refine (ex9d _).mono ?_
  rintro e w3 ⟨rfl, hb⟩
  have ha := (Below.refl w3.heap.size w3).alloc (Nat.le_refl _) (.cells #[.int .i64 (hiW (-2)), .int .u64 (loW (-2))] 34)
  have HA5 : Hid (A9 w g3 g4 w3.heap.size (w3.alloc (.cells #[.int .i64 (hiW (-2)), .int .u64 (loW (-2))] 34))) := hid ⟨⟨(HA2.out.1.1.1.below hb).below ha, (HA2.out.1.1.2.below hb).below ha, (HA2.out.1.2.below hb).below ha⟩, ⟨(HA2.out.2.1.below hb).below ha, Cs.new2 w3 _ _ _⟩, below_on (below_on HA2.out.2.2 hb) ha⟩
  clear hb ha HA2
  go_wp2_with fail
  generalize w3.alloc (.cells #[.int .i64 (hiW (-2)), .int .u64 (loW (-2))] 34) = W6 at HA5 ⊢
  generalize w3.heap.size = g5 at HA5 ⊢
  refine wp_region_grow (S := A9 w g3 g4 g5) 32 (by kernel_rfl) (HA5.out.below (Below.refl _ _).drew) ?_
  refine wpAnyE_take (i := 0) (v := Value.bool true) (A9.stays w g3 g4 g5) (fun _ h => h) rfl (by kernel_rfl) (by kernel_rfl) (by kernel_rfl) (by kernel_rfl) (fun _ _ _ h => h) (Or.inl ⟨by rfl, fun wq hSw => ?_⟩) ?_
  · refine RunB.of_calls (Law8.Awake wq (HT.out.at2 hSw.2.2)) (by go_simp) ?_
    rintro e wr ⟨rfl, hb⟩
    exact ⟨rfl, hb⟩
  try simp only [List.getElem_toArray, List.getElem_cons_zero, List.getElem_cons_succ, Act.put, List.setIfInBounds_toArray, List.set_cons_zero, List.set_cons_succ]
  refine wpAnyE_take (i := 1) (v := ?_) (A9.stays w g3 g4 g5) (fun _ h => h) rfl (by kernel_rfl) (by kernel_rfl) (by kernel_rfl) (by kernel_rfl) (fun _ _ _ h => h) (SteadyB.of_yields (Or.inl ⟨by rfl, ?_⟩)) ?_
  rotate_left
  · intro wq hSw
    go_simp
    (try with_reducible rfl)
  try simp only [List.getElem_toArray, List.getElem_cons_zero, List.getElem_cons_succ, Act.put, List.setIfInBounds_toArray, List.set_cons_zero, List.set_cons_succ]
  refine wpAnyE_take (i := 2) (v := ?_) (A9.stays w g3 g4 g5) (fun _ h => h) rfl (by kernel_rfl) (by kernel_rfl) (by kernel_rfl) (by kernel_rfl) (fun _ _ _ h => h) (SteadyB.of_yields (Or.inl ⟨by rfl, ?_⟩)) ?_
  rotate_left
  · intro wq hSw
    go_simp
    (try with_reducible rfl)
  try simp only [List.getElem_toArray, List.getElem_cons_zero, List.getElem_cons_succ, Act.put, List.setIfInBounds_toArray, List.set_cons_zero, List.set_cons_succ]
  refine wpAnyE_take (i := 3) (v := ?_) (A9.stays w g3 g4 g5) (fun _ h => h) rfl (by kernel_rfl) (by kernel_rfl) (by kernel_rfl) (by kernel_rfl) (fun _ _ _ h => h) (SteadyB.of_yields (Or.inl ⟨by rfl, ?_⟩)) ?_
  rotate_left
  · intro wq hSw
    go_simp
    (try with_reducible rfl)
  try simp only [List.getElem_toArray, List.getElem_cons_zero, List.getElem_cons_succ, Act.put, List.setIfInBounds_toArray, List.set_cons_zero, List.set_cons_succ]
  refine wpAnyE_take (i := 4) (v := ?_) (A9.stays w g3 g4 g5) (fun _ h => h) rfl (by kernel_rfl) (by kernel_rfl) (by kernel_rfl) (by kernel_rfl) (fun _ _ _ h => h) (SteadyB.of_yields (Or.inl ⟨by rfl, ?_⟩)) ?_
  rotate_left
  · intro wq hSw
    go_simp
    (try with_reducible rfl)
  try simp only [List.getElem_toArray, List.getElem_cons_zero, List.getElem_cons_succ, Act.put, List.setIfInBounds_toArray, List.set_cons_zero, List.set_cons_succ]
  refine wpAnyE_take (i := 5) (v := ?_) (A9.stays w g3 g4 g5) (fun _ h => h) rfl (by kernel_rfl) (by kernel_rfl) (by kernel_rfl) (by kernel_rfl) (fun _ _ _ h => h) (SteadyB.of_yields (Or.inl ⟨by rfl, ?_⟩)) ?_
  rotate_left
  · intro wq hSw
    go_simp
    (try with_reducible rfl)
  try simp only [List.getElem_toArray, List.getElem_cons_zero, List.getElem_cons_succ, Act.put, List.setIfInBounds_toArray, List.set_cons_zero, List.set_cons_succ]
  refine wpAnyE_take (i := 6) (v := ?_) (A9.stays w g3 g4 g5) (fun _ h => h) rfl (by kernel_rfl) (by kernel_rfl) (by kernel_rfl) (by kernel_rfl) (fun _ _ _ h => h) (SteadyB.of_yields (Or.inl ⟨by rfl, ?_⟩)) ?_
  rotate_left
  · intro wq hSw
    go_simp
    (try with_reducible rfl)
  try simp only [List.getElem_toArray, List.getElem_cons_zero, List.getElem_cons_succ, Act.put, List.setIfInBounds_toArray, List.set_cons_zero, List.set_cons_succ]
  refine wpAnyE_take (i := 7) (v := ?_) (A9.stays w g3 g4 g5) (fun _ h => h) rfl (by kernel_rfl) (by kernel_rfl) (by kernel_rfl) (by kernel_rfl) (fun _ _ _ h => h) (SteadyB.of_yields (Or.inl ⟨by rfl, ?_⟩)) ?_
  rotate_left
  · intro wq hSw
    go_simp
    (try with_reducible rfl)
  try simp only [List.getElem_toArray, List.getElem_cons_zero, List.getElem_cons_succ, Act.put, List.setIfInBounds_toArray, List.set_cons_zero, List.set_cons_succ]
  refine wpAnyE_take (i := 8) (v := ?_) (A9.stays w g3 g4 g5) (fun _ h => h) rfl (by kernel_rfl) (by kernel_rfl) (by kernel_rfl) (by kernel_rfl) (fun _ _ _ h => h) (SteadyB.of_yields (Or.inl ⟨by rfl, ?_⟩)) ?_
  rotate_left
  · intro wq hSw
    go_simp
    (try with_reducible rfl)
  try simp only [List.getElem_toArray, List.getElem_cons_zero, List.getElem_cons_succ, Act.put, List.setIfInBounds_toArray, List.set_cons_zero, List.set_cons_succ]
  refine wpAnyE_take (i := 9) (v := ?_) (A9.stays w g3 g4 g5) (fun _ h => h) rfl (by kernel_rfl) (by kernel_rfl) (by kernel_rfl) (by kernel_rfl) (fun _ _ _ h => h) (SteadyB.of_yields (Or.inl ⟨by rfl, ?_⟩)) ?_
  rotate_left
  · intro wq hSw
    go_simp
    (try with_reducible rfl)
  try simp only [List.getElem_toArray, List.getElem_cons_zero, List.getElem_cons_succ, Act.put, List.setIfInBounds_toArray, List.set_cons_zero, List.set_cons_succ]
  refine wpAnyE_take (i := 10) (v := ?_) (A9.stays w g3 g4 g5) (fun _ h => h) rfl (by kernel_rfl) (by kernel_rfl) (by kernel_rfl) (by kernel_rfl) (fun _ _ _ h => h) (SteadyB.of_yields (Or.inl ⟨by rfl, ?_⟩)) ?_
  rotate_left
  · intro wq hSw
    go_simp
    (try with_reducible rfl)
  try simp only [List.getElem_toArray, List.getElem_cons_zero, List.getElem_cons_succ, Act.put, List.setIfInBounds_toArray, List.set_cons_zero, List.set_cons_succ]
  refine wpAnyE_take (i := 11) (v := ?_) (A9.stays w g3 g4 g5) (fun _ h => h) rfl (by kernel_rfl) (by kernel_rfl) (by kernel_rfl) (by kernel_rfl) (fun _ _ _ h => h) (SteadyB.of_yields (Or.inl ⟨by rfl, ?_⟩)) ?_
  rotate_left
  · intro wq hSw
    obtain ⟨m0, m1, m2, m3, m4⟩ := Mu.at (Mu.mk 5 3 2 2) hSw.1.2.2
    obtain ⟨q0, q1, q2⟩ := P3.at (5, 0, 1) hSw.1.1
    obtain ⟨r0, r1, r2⟩ := P3.at (8, 0, 1) hSw.1.2.1
    have a0 := hSw.2.1.1.at0
    have a1 := hSw.2.1.1.at1
    have b0 := hSw.2.1.2.at0
    have b1 := hSw.2.1.2.at1
    dsimp only at m0 m1 m2 m3 m4 q0 q1 q2 r0 r1 r2
    go_simp
    (try with_reducible rfl)
  try simp only [List.getElem_toArray, List.getElem_cons_zero, List.getElem_cons_succ, Act.put, List.setIfInBounds_toArray, List.set_cons_zero, List.set_cons_succ]
  refine wpAnyE_take (i := 12) (v := wv 1) (A9.stays w g3 g4 g5) (fun _ h => h) rfl (by kernel_rfl) (by kernel_rfl) (by kernel_rfl) (by kernel_rfl) (fun _ _ _ h => h) (Or.inl ⟨by rfl, fun wq hSw => ?_⟩) ?_
  · refine RunB.of_calls (Wide.ofF (x := 1) (by decide) (by decide) wq) (by go_simp) ?_
    rintro e wr ⟨rfl, hb⟩
    exact ⟨rfl, hb⟩
  try simp only [List.getElem_toArray, List.getElem_cons_zero, List.getElem_cons_succ, Act.put, List.setIfInBounds_toArray, List.set_cons_zero, List.set_cons_succ]
  refine wpAnyE_take (i := 13) (v := ?_) (A9.stays w g3 g4 g5) (fun _ h => h) rfl (by kernel_rfl) (by kernel_rfl) (by kernel_rfl) (by kernel_rfl) (fun _ _ _ h => h) (SteadyB.of_yields (Or.inl ⟨by rfl, ?_⟩)) ?_
  rotate_left
  · intro wq hSw
    go_simp
    (try with_reducible rfl)
  try simp only [List.getElem_toArray, List.getElem_cons_zero, List.getElem_cons_succ, Act.put, List.setIfInBounds_toArray, List.set_cons_zero, List.set_cons_succ]
  refine wpAnyE_take (i := 14) (v := ?_) (A9.stays w g3 g4 g5) (fun _ h => h) rfl (by kernel_rfl) (by kernel_rfl) (by kernel_rfl) (by kernel_rfl) (fun _ _ _ h => h) (SteadyB.of_yields (Or.inl ⟨by rfl, ?_⟩)) ?_
  rotate_left
  · intro wq hSw
    go_simp
    (try with_reducible rfl)
  try simp only [List.getElem_toArray, List.getElem_cons_zero, List.getElem_cons_succ, Act.put, List.setIfInBounds_toArray, List.set_cons_zero, List.set_cons_succ]
  refine wpAnyE_take (i := 15) (v := ?_) (A9.stays w g3 g4 g5) (fun _ h => h) rfl (by kernel_rfl) (by kernel_rfl) (by kernel_rfl) (by kernel_rfl) (fun _ _ _ h => h) (SteadyB.of_yields (Or.inl ⟨by rfl, ?_⟩)) ?_
  rotate_left
  · intro wq hSw
    go_simp
    (try with_reducible rfl)
  try simp only [List.getElem_toArray, List.getElem_cons_zero, List.getElem_cons_succ, Act.put, List.setIfInBounds_toArray, List.set_cons_zero, List.set_cons_succ]
  refine wpAnyE_take (i := 16) (v := ?_) (A9.stays w g3 g4 g5) (fun _ h => h) rfl (by kernel_rfl) (by kernel_rfl) (by kernel_rfl) (by kernel_rfl) (fun _ _ _ h => h) (SteadyB.of_yields (Or.inl ⟨by rfl, ?_⟩)) ?_
  rotate_left
  · intro wq hSw
    obtain ⟨m0, m1, m2, m3, m4⟩ := Mu.at (Mu.mk 5 3 2 2) hSw.1.2.2
    obtain ⟨q0, q1, q2⟩ := P3.at (5, 0, 1) hSw.1.1
    obtain ⟨r0, r1, r2⟩ := P3.at (8, 0, 1) hSw.1.2.1
    have a0 := hSw.2.1.1.at0
    have a1 := hSw.2.1.1.at1
    have b0 := hSw.2.1.2.at0
    have b1 := hSw.2.1.2.at1
    dsimp only at m0 m1 m2 m3 m4 q0 q1 q2 r0 r1 r2
    go_simp
    (try with_reducible rfl)
  try simp only [List.getElem_toArray, List.getElem_cons_zero, List.getElem_cons_succ, Act.put, List.setIfInBounds_toArray, List.set_cons_zero, List.set_cons_succ]
  refine wpAnyE_take (i := 17) (v := wv (-2)) (A9.stays w g3 g4 g5) (fun _ h => h) rfl (by kernel_rfl) (by kernel_rfl) (by kernel_rfl) (by kernel_rfl) (fun _ _ _ h => h) (Or.inl ⟨by rfl, fun wq hSw => ?_⟩) ?_
  · refine RunB.of_calls (Wide.ofF (x := -2) (by decide) (by decide) wq) (by go_simp) ?_
    rintro e wr ⟨rfl, hb⟩
    exact ⟨rfl, hb⟩
  try simp only [List.getElem_toArray, List.getElem_cons_zero, List.getElem_cons_succ, Act.put, List.setIfInBounds_toArray, List.set_cons_zero, List.set_cons_succ]
  refine wpAnyE_take (i := 18) (v := ?_) (A9.stays w g3 g4 g5) (fun _ h => h) rfl (by kernel_rfl) (by kernel_rfl) (by kernel_rfl) (by kernel_rfl) (fun _ _ _ h => h) (SteadyB.of_yields (Or.inl ⟨by rfl, ?_⟩)) ?_
  rotate_left
  · intro wq hSw
    go_simp
    (try with_reducible rfl)
  try simp only [List.getElem_toArray, List.getElem_cons_zero, List.getElem_cons_succ, Act.put, List.setIfInBounds_toArray, List.set_cons_zero, List.set_cons_succ]
  refine wpAnyE_take (i := 19) (v := ?_) (A9.stays w g3 g4 g5) (fun _ h => h) rfl (by kernel_rfl) (by kernel_rfl) (by kernel_rfl) (by kernel_rfl) (fun _ _ _ h => h) (SteadyB.of_yields (Or.inl ⟨by rfl, ?_⟩)) ?_
  rotate_left
  · intro wq hSw
    go_simp
    (try with_reducible rfl)
  try simp only [List.getElem_toArray, List.getElem_cons_zero, List.getElem_cons_succ, Act.put, List.setIfInBounds_toArray, List.set_cons_zero, List.set_cons_succ]
  refine wpAnyE_take (i := 20) (v := ?_) (A9.stays w g3 g4 g5) (fun _ h => h) rfl (by kernel_rfl) (by kernel_rfl) (by kernel_rfl) (by kernel_rfl) (fun _ _ _ h => h) (SteadyB.of_yields (Or.inl ⟨by rfl, ?_⟩)) ?_
  rotate_left
  · intro wq hSw
    go_simp
    (try with_reducible rfl)
  try simp only [List.getElem_toArray, List.getElem_cons_zero, List.getElem_cons_succ, Act.put, List.setIfInBounds_toArray, List.set_cons_zero, List.set_cons_succ]
  refine wpAnyE_take (i := 21) (v := ?_) (A9.stays w g3 g4 g5) (fun _ h => h) rfl (by kernel_rfl) (by kernel_rfl) (by kernel_rfl) (by kernel_rfl) (fun _ _ _ h => h) (SteadyB.of_yields (Or.inl ⟨by rfl, ?_⟩)) ?_
  rotate_left
  · intro wq hSw
    obtain ⟨m0, m1, m2, m3, m4⟩ := Mu.at (Mu.mk 5 3 2 2) hSw.1.2.2
    obtain ⟨q0, q1, q2⟩ := P3.at (5, 0, 1) hSw.1.1
    obtain ⟨r0, r1, r2⟩ := P3.at (8, 0, 1) hSw.1.2.1
    have a0 := hSw.2.1.1.at0
    have a1 := hSw.2.1.1.at1
    have b0 := hSw.2.1.2.at0
    have b1 := hSw.2.1.2.at1
    dsimp only at m0 m1 m2 m3 m4 q0 q1 q2 r0 r1 r2
    go_simp
    (try with_reducible rfl)
  try simp only [List.getElem_toArray, List.getElem_cons_zero, List.getElem_cons_succ, Act.put, List.setIfInBounds_toArray, List.set_cons_zero, List.set_cons_succ]
  refine wpAnyE_take (i := 22) (v := ?_) (A9.stays w g3 g4 g5) (fun _ h => h) rfl (by kernel_rfl) (by kernel_rfl) (by kernel_rfl) (by kernel_rfl) (fun _ _ _ h => h) (SteadyB.of_yields (Or.inl ⟨by rfl, ?_⟩)) ?_
  rotate_left
  · intro wq hSw
    obtain ⟨m0, m1, m2, m3, m4⟩ := Mu.at (Mu.mk 5 3 2 2) hSw.1.2.2
    obtain ⟨q0, q1, q2⟩ := P3.at (5, 0, 1) hSw.1.1
    obtain ⟨r0, r1, r2⟩ := P3.at (8, 0, 1) hSw.1.2.1
    have a0 := hSw.2.1.1.at0
    have a1 := hSw.2.1.1.at1
    have b0 := hSw.2.1.2.at0
    have b1 := hSw.2.1.2.at1
    dsimp only at m0 m1 m2 m3 m4 q0 q1 q2 r0 r1 r2
    go_simp
    (try with_reducible rfl)
  try simp only [List.getElem_toArray, List.getElem_cons_zero, List.getElem_cons_succ, Act.put, List.setIfInBounds_toArray, List.set_cons_zero, List.set_cons_succ]
  refine wpAnyE_take (i := 23) (v := Value.bool true) (A9.stays w g3 g4 g5) (fun _ h => h) rfl (by kernel_rfl) (by kernel_rfl) (by kernel_rfl) (by kernel_rfl) (fun _ _ _ h => h) (Or.inl ⟨by rfl, fun wq hSw => ?_⟩) ?_
  · refine RunB.of_calls (ex9a wq) (by go_simp) ?_
    rintro e wr ⟨rfl, hb⟩
    exact ⟨rfl, hb⟩
  try simp only [List.getElem_toArray, List.getElem_cons_zero, List.getElem_cons_succ, Act.put, List.setIfInBounds_toArray, List.set_cons_zero, List.set_cons_succ]
  refine wpAnyE_take (i := 24) (v := ?_) (A9.stays w g3 g4 g5) (fun _ h => h) rfl (by kernel_rfl) (by kernel_rfl) (by kernel_rfl) (by kernel_rfl) (fun _ _ _ h => h) (SteadyB.of_yields (Or.inl ⟨by rfl, ?_⟩)) ?_
  rotate_left
  · intro wq hSw
    go_simp
    (try with_reducible rfl)
  try simp only [List.getElem_toArray, List.getElem_cons_zero, List.getElem_cons_succ, Act.put, List.setIfInBounds_toArray, List.set_cons_zero, List.set_cons_succ]
  refine wpAnyE_take (i := 25) (v := ?_) (A9.stays w g3 g4 g5) (fun _ h => h) rfl (by kernel_rfl) (by kernel_rfl) (by kernel_rfl) (by kernel_rfl) (fun _ _ _ h => h) (SteadyB.of_yields (Or.inl ⟨by rfl, ?_⟩)) ?_
  rotate_left
  · intro wq hSw
    go_simp
    (try with_reducible rfl)
  try simp only [List.getElem_toArray, List.getElem_cons_zero, List.getElem_cons_succ, Act.put, List.setIfInBounds_toArray, List.set_cons_zero, List.set_cons_succ]
  refine wpAnyE_take (i := 26) (v := ?_) (A9.stays w g3 g4 g5) (fun _ h => h) rfl (by kernel_rfl) (by kernel_rfl) (by kernel_rfl) (by kernel_rfl) (fun _ _ _ h => h) (SteadyB.of_yields (Or.inl ⟨by rfl, ?_⟩)) ?_
  rotate_left
  · intro wq hSw
    obtain ⟨m0, m1, m2, m3, m4⟩ := Mu.at (Mu.mk 5 3 2 2) hSw.1.2.2
    obtain ⟨q0, q1, q2⟩ := P3.at (5, 0, 1) hSw.1.1
    obtain ⟨r0, r1, r2⟩ := P3.at (8, 0, 1) hSw.1.2.1
    have a0 := hSw.2.1.1.at0
    have a1 := hSw.2.1.1.at1
    have b0 := hSw.2.1.2.at0
    have b1 := hSw.2.1.2.at1
    dsimp only at m0 m1 m2 m3 m4 q0 q1 q2 r0 r1 r2
    go_simp
    (try with_reducible rfl)
  try simp only [List.getElem_toArray, List.getElem_cons_zero, List.getElem_cons_succ, Act.put, List.setIfInBounds_toArray, List.set_cons_zero, List.set_cons_succ]
  refine wpAnyE_take (i := 27) (v := ?_) (A9.stays w g3 g4 g5) (fun _ h => h) rfl (by kernel_rfl) (by kernel_rfl) (by kernel_rfl) (by kernel_rfl) (fun _ _ _ h => h) (SteadyB.of_yields (Or.inl ⟨by rfl, ?_⟩)) ?_
  rotate_left
  · intro wq hSw
    obtain ⟨m0, m1, m2, m3, m4⟩ := Mu.at (Mu.mk 5 3 2 2) hSw.1.2.2
    obtain ⟨q0, q1, q2⟩ := P3.at (5, 0, 1) hSw.1.1
    obtain ⟨r0, r1, r2⟩ := P3.at (8, 0, 1) hSw.1.2.1
    have a0 := hSw.2.1.1.at0
    have a1 := hSw.2.1.1.at1
    have b0 := hSw.2.1.2.at0
    have b1 := hSw.2.1.2.at1
    dsimp only at m0 m1 m2 m3 m4 q0 q1 q2 r0 r1 r2
    go_simp
    (try with_reducible rfl)
  try simp only [List.getElem_toArray, List.getElem_cons_zero, List.getElem_cons_succ, Act.put, List.setIfInBounds_toArray, List.set_cons_zero, List.set_cons_succ]
  refine wpAnyE_take (i := 28) (v := Value.bool false) (A9.stays w g3 g4 g5) (fun _ h => h) rfl (by kernel_rfl) (by kernel_rfl) (by kernel_rfl) (by kernel_rfl) (fun _ _ _ h => h) (Or.inl ⟨by rfl, fun wq hSw => ?_⟩) ?_
  · refine RunB.of_calls (ex9b wq) (by go_simp) ?_
    rintro e wr ⟨rfl, hb⟩
    exact ⟨rfl, hb⟩
  try simp only [List.getElem_toArray, List.getElem_cons_zero, List.getElem_cons_succ, Act.put, List.setIfInBounds_toArray, List.set_cons_zero, List.set_cons_succ]
  refine wpAnyE_take (i := 29) (v := ?_) (A9.stays w g3 g4 g5) (fun _ h => h) rfl (by kernel_rfl) (by kernel_rfl) (by kernel_rfl) (by kernel_rfl) (fun _ _ _ h => h) (SteadyB.of_yields (Or.inl ⟨by rfl, ?_⟩)) ?_
  rotate_left
  · intro wq hSw
    go_simp
    (try with_reducible rfl)
  try simp only [List.getElem_toArray, List.getElem_cons_zero, List.getElem_cons_succ, Act.put, List.setIfInBounds_toArray, List.set_cons_zero, List.set_cons_succ]
  refine wpAnyE_take (i := 30) (v := ?_) (A9.stays w g3 g4 g5) (fun _ h => h) rfl (by kernel_rfl) (by kernel_rfl) (by kernel_rfl) (by kernel_rfl) (fun _ _ _ h => h) (SteadyB.of_yields (Or.inl ⟨by rfl, ?_⟩)) ?_
  rotate_left
  · intro wq hSw
    go_simp
    (try with_reducible rfl)
  try simp only [List.getElem_toArray, List.getElem_cons_zero, List.getElem_cons_succ, Act.put, List.setIfInBounds_toArray, List.set_cons_zero, List.set_cons_succ]
  refine wpAnyE_take (i := 31) (v := ?_) (A9.stays w g3 g4 g5) (fun _ h => h) rfl (by kernel_rfl) (by kernel_rfl) (by kernel_rfl) (by kernel_rfl) (fun _ _ _ h => h) (SteadyB.of_yields (Or.inl ⟨by rfl, ?_⟩)) ?_
  rotate_left
  · intro wq hSw
    go_simp
    (try with_reducible rfl)
  try simp only [List.getElem_toArray, List.getElem_cons_zero, List.getElem_cons_succ, Act.put, List.setIfInBounds_toArray, List.set_cons_zero, List.set_cons_succ]
  refine wpAnyE_done (by kernel_rfl) (fun wz hSz => ?_) _
  have HF := hid hSz.2.2
  clear hSz HA5
  go_wp2_with fail
  go_ret
  exact ⟨rfl, HF.out⟩
theorem Law9.Awake (w : World) (htab : Tab10 w.heap.size w) : Calls Tryz.prog 85 #[] w (Ans (.bool true) w) := by
  go_enter Tryz.func85, Tryz.ntmps85
  go_wp2_with (go_at_call 24; refine (Law9.awake _ htab).mono ?_; rintro e w' ⟨rfl, hb⟩)
  go_ret
  exact ⟨rfl, hb⟩
end

/- LagBases: the walk. -/
section
open Go.RowKit
theorem mem_take1 {l : List P3} {k : Nat} {C : P3 → Prop} (hk : k < l.length) (h : ∀ p ∈ l.take k, C p) (hx : C (l.getD k (0, 0, 0))) : ∀ p ∈ l.take (k + 1), C p := fun p hp => by
  have e : l.getD k (0, 0, 0) = l[k] := by simp [List.getD, hk]
  rw [List.take_succ_eq_append_getElem hk, ← e] at hp
  rcases List.mem_append.1 hp with h1 | h1
  · exact h p h1
  · simp at h1; subst h1; exact hx
end

/- The laws of layer 10: the chapter's example; who is near. -/
section
open Go.RowKit
theorem RdP.new1 (w : World) (t : TypeId) (a b c : Int) : RdP (w.alloc (.cells #[.int .u64 a, .int .u32 b, .int .u32 c] t)) (some ⟨w.heap.size, 0, none⟩) 1 [(a, b, c)] :=
  ⟨rfl, fun _ _ => ⟨_, 0, rfl, by simp, fun j hj => by
    rcases j with _ | j
    · simp [go_sem]
    · omega⟩⟩
theorem ex10p : PIn (10, 0, 1) := ⟨⟨by decide, by decide⟩, ⟨by decide, by decide⟩, by decide, by decide⟩
theorem ex10 : Mu.of 0 [(10, 0, 1)] = (true, (Mu.mk 0 10 1 1)) := by
  rw [of_yes 0 (l := [(10, 0, 1)]) (fun p hp => by
    simp at hp
    subst hp
    exact ⟨by decide, ex10p⟩) (by decide)]
  rfl
theorem ex10in : (Mu.mk 0 10 1 1).In := by unfold Mu.In WR; refine ⟨⟨?_, ?_⟩, ⟨?_, ?_⟩, ⟨?_, ?_⟩, ?_, ?_⟩ <;> decide
theorem ex10pl : (Mu.mk 0 10 1 1).place 0 1 2 = (true, (6, 0, 1)) := by first | rfl | decide +kernel
set_option maxRecDepth 100000 in
set_option maxHeartbeats 4000000 in
theorem Law10.awake (w : World) (htab : Tab10 w.heap.size w) : Calls Tryz.prog 41 #[] w (Ans (.bool true) w) := by
  have HT := hid htab
  have HB0 := hid ((Below.refl w.heap.size w).alloc (Nat.le_refl _) (.cells #[.int .u64 10, .int .u32 0, .int .u32 1] 29))
  have HR := hid (RdP.new1 w 29 10 0 1)
  clear htab
  go_enter Tryz.func41, Tryz.ntmps41
  go_wp2_with fail
  generalize w.alloc (.cells #[.int .u64 10, .int .u32 0, .int .u32 1] 29) = W0 at HB0 HR ⊢
  refine (Mean.of 0 ⟨by decide, by decide⟩ (some ⟨w.heap.size, 0, none⟩) 1 1 [(10, 0, 1)] _ HR.out (fun p hp => by
    simp at hp
    subst hp
    exact ex10p) (by decide)).mono ?_
  rw [ex10]
  rintro e w1 ⟨rfl, hb⟩
  have HB1 := hid (below_on (below_on HB0.out hb) ((Below.refl w1.heap.size w1).alloc (Nat.le_refl _) (.cells #[.int .u64 0, .int .i64 (hiW 10), .int .u64 (loW 10), .int .u64 1, .int .i64 1] 36)))
  have HC1 : Hid (Cs (w1.alloc (.cells #[.int .u64 0, .int .i64 (hiW 10), .int .u64 (loW 10), .int .u64 1, .int .i64 1] 36)) w1.heap.size (Mu.mk 0 10 1 1).cells) := hid (Cs.alloc_new6 w1 _ (Mu.mk 0 10 1 1).cells)
  clear hb HB0 HR
  go_wp2_with fail
  generalize w1.alloc (.cells #[.int .u64 0, .int .i64 (hiW 10), .int .u64 (loW 10), .int .u64 1, .int .i64 1] 36) = W1 at HB1 HC1 ⊢
  generalize w1.heap.size = g at HC1 ⊢
  refine (Place.place (Mu.mk 0 10 1 1) 0 1 2 ex10in (by decide) (by decide) (by decide) (by decide) _).mono ?_
  rw [ex10pl]
  rintro e w2 ⟨rfl, hb⟩
  have HB2 := hid (below_on (below_on HB1.out hb) ((Below.refl w2.heap.size w2).alloc (Nat.le_refl _) (.cells #[.int .u64 6, .int .u32 0, .int .u32 1] 29)))
  have HC2 : Hid (Cs (w2.alloc (.cells #[.int .u64 6, .int .u32 0, .int .u32 1] 29)) w2.heap.size [.int .u64 6, .int .u32 0, .int .u32 1]) := hid (Cs.alloc_new6 w2 _ [.int .u64 6, .int .u32 0, .int .u32 1])
  clear hb HB1 HC1
  go_wp2_with fail
  generalize w2.alloc (.cells #[.int .u64 6, .int .u32 0, .int .u32 1] 29) = W2 at HB2 HC2 ⊢
  generalize w2.heap.size = g2 at HC2 ⊢
  refine (Law9.Awake _ (HT.out.at2 HB2.out)).mono ?_
  rintro e w3 ⟨rfl, hb⟩
  have HB3 := hid (below_on HB2.out hb)
  have HC3 := hid (HC2.out.below hb)
  obtain ⟨m0, m1, m2⟩ := HC3.out.three
  clear hb HB2 HC2
  go_wp2_with fail
  go_ret
  exact ⟨rfl, HB3.out⟩
end

/- The chapter's example of layer 11, as the laws ask it. -/
section
open Go.RowKit
theorem Law10.Awake (w : World) (htab : Tab10 w.heap.size w) : Calls Tryz.prog 89 #[] w (Ans (.bool true) w) := by
  go_enter Tryz.func89, Tryz.ntmps89
  go_wp2_with (go_at_call 41; refine (Law10.awake _ htab).mono ?_; rintro e w' ⟨rfl, hb⟩)
  go_ret
  exact ⟨rfl, hb⟩
theorem ex11 : (Mu.mk 5 3 2 2).weigh (8, 0, 1) 2 = (true, (7, 0, 2)) := by first | rfl | decide +kernel
section
attribute [local go_sem] Pos.eqB
set_option maxRecDepth 100000 in
set_option maxHeartbeats 4000000 in
theorem Law11.awake (w : World) (htab : Tab10 w.heap.size w) : Calls Tryz.prog 44 #[] w (Ans (.bool true) w) := by
  have HT := hid htab
  have HA0 : Hid ((Cs ((w.alloc (.cells #[.int .u64 8, .int .u32 0, .int .u32 1] 29)).alloc (.cells #[.int .u64 5, .int .u32 0, .int .u32 1, .int .u64 8, .int .u32 0, .int .u32 1] 29)) w.heap.size (pcells (8, 0, 1)) ∧ RdP ((w.alloc (.cells #[.int .u64 8, .int .u32 0, .int .u32 1] 29)).alloc (.cells #[.int .u64 5, .int .u32 0, .int .u32 1, .int .u64 8, .int .u32 0, .int .u32 1] 29)) (some ⟨w.heap.size + 1, 0, none⟩) 2 [(5, 0, 1), (8, 0, 1)]) ∧ Below w.heap.size w ((w.alloc (.cells #[.int .u64 8, .int .u32 0, .int .u32 1] 29)).alloc (.cells #[.int .u64 5, .int .u32 0, .int .u32 1, .int .u64 8, .int .u32 0, .int .u32 1] 29))) := hid (by
    have h2 := RdP.new2 (w.alloc (.cells #[.int .u64 8, .int .u32 0, .int .u32 1] 29)) 29 5 0 1 8 0 1
    simp only [World.size_alloc] at h2
    exact ⟨⟨(Cs.alloc_new6 w 29 (pcells (8, 0, 1))).alloc _, h2⟩, ((Below.refl w.heap.size w).alloc (Nat.le_refl _) _).alloc (by simp) _⟩)
  clear htab
  go_enter Tryz.func44, Tryz.ntmps44
  go_wp2_with fail
  generalize ((w.alloc (.cells #[.int .u64 8, .int .u32 0, .int .u32 1] 29)).alloc (.cells #[.int .u64 5, .int .u32 0, .int .u32 1, .int .u64 8, .int .u32 0, .int .u32 1] 29)) = W0 at HA0 ⊢
  refine (Mean.of 5 ⟨by decide, by decide⟩ (some ⟨w.heap.size + 1, 0, none⟩) 2 2 [(5, 0, 1), (8, 0, 1)] _ HA0.out.1.2 (fun p hp => by
    simp at hp
    rcases hp with rfl | rfl
    · exact ⟨⟨by decide, by decide⟩, ⟨by decide, by decide⟩, by decide, by decide⟩
    · exact ⟨⟨by decide, by decide⟩, ⟨by decide, by decide⟩, by decide, by decide⟩) (by decide)).mono ?_
  rw [ex8]
  rintro e w1 ⟨rfl, hb⟩
  have ha := (Below.refl w1.heap.size w1).alloc (Nat.le_refl _) (.cells #[.int .u64 5, .int .i64 (hiW 3), .int .u64 (loW 3), .int .u64 2, .int .i64 2] 36)
  have HB1 := hid (below_on (below_on HA0.out.2 hb) ha)
  have HC1 := hid ((HA0.out.1.1.below hb).below ha)
  obtain ⟨q0, q1, q2⟩ := P3.at _ HC1.out
  clear hb ha HA0
  go_wp2_with fail
  clear q0 q1 q2
  refine (Weigh.weigh ⟨5, 3, 2, 2⟩ (8, 0, 1) 2 ex9in ex9q (by decide) (by decide) _).mono ?_
  rw [ex11]
  rintro e w2 ⟨rfl, hb⟩
  have HB2 := hid (below_on (below_on HB1.out hb) ((Below.refl w2.heap.size w2).alloc (Nat.le_refl _) (.cells #[.int .u64 7, .int .u32 0, .int .u32 2] 29)))
  have HC2 : Hid (Cs (w2.alloc (.cells #[.int .u64 7, .int .u32 0, .int .u32 2] 29)) w2.heap.size [.int .u64 7, .int .u32 0, .int .u32 2]) := hid (Cs.alloc_new6 w2 _ [.int .u64 7, .int .u32 0, .int .u32 2])
  clear hb HB1 HC1
  go_wp2_with fail
  generalize w2.alloc (.cells #[.int .u64 7, .int .u32 0, .int .u32 2] 29) = W2 at HB2 HC2 ⊢
  generalize w2.heap.size = g2 at HC2 ⊢
  refine (Law10.Awake _ (HT.out.at2 HB2.out)).mono ?_
  rintro e w3 ⟨rfl, hb⟩
  have HB3 := hid (below_on HB2.out hb)
  have HC3 := hid (HC2.out.below hb)
  obtain ⟨m0, m1, m2⟩ := HC3.out.three
  clear hb HB2 HC2
  go_wp2_with fail
  go_ret
  exact ⟨rfl, HB3.out⟩
end
theorem Law11.Awake (w : World) (htab : Tab10 w.heap.size w) : Calls Tryz.prog 94 #[] w (Ans (.bool true) w) := by
  go_enter Tryz.func94, Tryz.ntmps94
  go_wp2_with (go_at_call 44; refine (Law11.awake _ htab).mono ?_; rintro e w' ⟨rfl, hb⟩)
  go_ret
  exact ⟨rfl, hb⟩
end

/- PlaceZero: the walk. -/
section
open Go.RowKit
theorem lag_wr (m : Mu) (p : P3) : WR (m.lag p).2 := by
  unfold Mu.lag
  split
  · rename_i h
    unfold Mu.ovOk at h
    simp only [Bool.and_eq_true, decide_eq_true_eq] at h
    have := right_w h.1.1.1.1 h.1.1.1.2
    exact div_wr (okW_iff.1 h.2) (by omega)
  · unfold WR; omega
end

/- Wback: the walk. -/
section
open Go.RowKit
set_option maxRecDepth 100000 in
set_option maxHeartbeats 1000000 in
theorem Wback.away1 (t : Int) (A : Option Addr) (n c : Nat) (i v : Int) (w : World) (hn : 32 < n) (htab : Tab10 w.heap.size w) :
    Calls Tryz.prog 10 #[.int .u64 t, .slice A n c, .int .u8 i, .int .u32 v] w (Ans (.bool true) w) := by
  have HT := hid htab
  have h2 : (32 : Int) < (n : Int) := by omega
  clear hn
  clear htab
  go_enter Tryz.func10, Tryz.ntmps10
  go_wp2_with fail
  refine (Law11.awake _ HT.out).mono ?_
  rintro e w1 ⟨rfl, hb1⟩
  go_wp2_with fail
  go_ret
  exact ⟨rfl, hb1⟩
set_option maxRecDepth 100000 in
set_option maxHeartbeats 1000000 in
theorem Wback.away2 (t : Int) (A : Option Addr) (n c : Nat) (i v : Int) (w : World) (hn : n = 0) (htab : Tab10 w.heap.size w) :
    Calls Tryz.prog 10 #[.int .u64 t, .slice A n c, .int .u8 i, .int .u32 v] w (Ans (.bool true) w) := by
  have HT := hid htab
  subst hn
  clear htab
  go_enter Tryz.func10, Tryz.ntmps10
  go_wp2_with fail
  refine (Law11.awake _ HT.out).mono ?_
  rintro e w1 ⟨rfl, hb1⟩
  go_wp2_with fail
  go_ret
  exact ⟨rfl, hb1⟩
set_option maxRecDepth 100000 in
set_option maxHeartbeats 1000000 in
theorem Wback.away3 (t : Int) (A : Option Addr) (n c : Nat) (i v : Int) (w : World) (hn : n ≤ 32) (h0 : 0 < n) (hv : v < 1) (htab : Tab10 w.heap.size w) :
    Calls Tryz.prog 10 #[.int .u64 t, .slice A n c, .int .u8 i, .int .u32 v] w (Ans (.bool true) w) := by
  have HT := hid htab
  have h2 : ¬ (32 : Int) < (n : Int) := by omega
  have h3 : ((n : Int) == 0) = false := by rw [beq_eq_false_iff_ne]; omega
  clear hn h0
  clear htab
  go_enter Tryz.func10, Tryz.ntmps10
  go_wp2_with fail
  refine (Law11.awake _ HT.out).mono ?_
  rintro e w1 ⟨rfl, hb1⟩
  go_wp2_with fail
  go_ret
  exact ⟨rfl, hb1⟩
set_option maxRecDepth 100000 in
set_option maxHeartbeats 1000000 in
theorem Wback.away4 (t : Int) (A : Option Addr) (n c : Nat) (i v : Int) (w : World) (hn : n ≤ 32) (h0 : 0 < n) (hv : ¬ v < 1) (hv2 : 1048576 < v) (htab : Tab10 w.heap.size w) :
    Calls Tryz.prog 10 #[.int .u64 t, .slice A n c, .int .u8 i, .int .u32 v] w (Ans (.bool true) w) := by
  have HT := hid htab
  have h2 : ¬ (32 : Int) < (n : Int) := by omega
  have h3 : ((n : Int) == 0) = false := by rw [beq_eq_false_iff_ne]; omega
  clear hn h0
  clear htab
  go_enter Tryz.func10, Tryz.ntmps10
  go_wp2_with fail
  refine (Law11.awake _ HT.out).mono ?_
  rintro e w1 ⟨rfl, hb1⟩
  go_wp2_with fail
  go_ret
  exact ⟨rfl, hb1⟩
set_option maxRecDepth 100000 in
set_option maxHeartbeats 32000000 in
theorem Wback.core (t v : Int) (iN : Nat) (ht : IsT t) (v0 : 1 ≤ v) (v1 : v ≤ 1048576) (hi : iN ≤ 255) (A : Option Addr) (n c : Nat) (l : List P3) (w : World) (hr : RdP w A n l) (hl : ∀ q ∈ l, PIn q) (hn : n ≤ 32) (h0 : 0 < n) (htab : Tab10 w.heap.size w) :
    Calls Tryz.prog 10 #[.int .u64 t, .slice A n c, .int .u8 (iN : Int), .int .u32 v] w (Ans (.bool true) w) := by
  have HT := hid htab
  have HR := hid hr
  have HL := hid hl
  have HV := hid (And.intro v0 v1)
  have HIN := hid hi
  have HTT := hid ht
  have HLN := hid hr.1
  have H0 := hid h0
  have h2 : ¬ (32 : Int) < (n : Int) := by omega
  have h3 : ((n : Int) == 0) = false := by rw [beq_eq_false_iff_ne]; omega
  have h4 : ¬ v < 1 := by omega
  have h5 : ¬ 1048576 < v := by omega
  clear hr hl htab v0 v1 ht hi h0
  go_enter Tryz.func10, Tryz.ntmps10
  go_wp2_with fail
  refine (Law11.awake _ HT.out).mono ?_
  rintro e w1 ⟨rfl, hb⟩
  have HB1 := hid hb
  clear hb HT
  go_wp2_with fail
  go_loopg [54] n (fun s i wr => ∃ k : Nat, i = .int .i64 k ∧ k ≤ n ∧ s = n - k ∧ (∀ p ∈ l.take k, NrP 274877906944 t p) ∧ Below w.heap.size w wr)
  case atStart => exact ⟨0, rfl, Nat.zero_le _, by omega, (by simp), HB1.out⟩
  case round =>
    obtain ⟨k, rfl, hk, hs, hnr, hb⟩ := hrel
    have HS := hid hs
    have HNR := hid hnr
    have HB := hid hb
    clear hs hnr hb
    by_cases hkn : k < n
    · obtain ⟨bb, off, hA, _, hc⟩ := (HR.out.below HB.out).2 0 (by omega)
      obtain ⟨p0, p1, p2⟩ := hc k hkn
      have hkl : k < l.length := by have := HLN.out; omega
      have HX := hid (HL.out _ (getD_mem hkl))
      have HNK := hid (fun hx => mem_take1 (C := fun p => NrP 274877906944 t p) hkl HNR.out hx)
      generalize l.getD k (0, 0, 0) = x at *
      subst hA
      have hki : (k : Int) < n := by omega
      clear hc hkl
      have HBa := hid (below_on HB.out ((Below.refl wr.heap.size wr).alloc (Nat.le_refl _) (.cells #[.int .u64 x.1, .int .u32 x.2.1, .int .u32 x.2.2] 29)))
      have HXc := hid (Cs.alloc_new6 wr 29 (pcells x))
      go_wp2_with fail
      refine (Vtime.since x.1 t _).mono ?_
      rintro e w2 ⟨rfl, hb⟩
      have HB2 := hid (below_on HBa.out hb)
      have HXd := hid ((show Cs (wr.alloc (.cells #[.int .u64 x.1, .int .u32 x.2.1, .int .u32 x.2.2] 29)) wr.heap.size (pcells x) from HXc.out).below hb)
      obtain ⟨q0, q1, q2⟩ := P3.at x HXd.out
      clear hb HBa HXc p0 p1 p2
      go_wp2_with fail
      refine (Pos.rightF x _).mono ?_
      rintro e w3 ⟨rfl, hb⟩
      have HB3 := hid (below_on HB2.out hb)
      clear hb HB2 HXd q0 q1 q2
      cases hpr : pR x with
      | false =>
        go_wp2_with fail
        go_ret
        exact ⟨rfl, HB3.out⟩
      | true =>
        have HPR := hid hpr
        clear hpr
        by_cases g1 : dif x.1 t ≤ -274877906944
        · go_wp2_with fail
          go_ret
          exact ⟨rfl, HB3.out⟩
        · by_cases g2 : 274877906944 ≤ dif x.1 t
          · go_wp2_with fail
            go_ret
            exact ⟨rfl, HB3.out⟩
          · have HN := hid (HNK.out ⟨⟨HPR.out, HX.out⟩, by omega, by omega⟩)
            go_wp2_with fail
            go_roundg (n - (k + 1))
            case measure => have := HS.out; omega
            case rel => exact ⟨k + 1, by go_num, by omega, rfl, HN.out, HB3.out⟩
    · obtain rfl : k = n := by omega
      have hki : ¬ (k : Int) < k := by omega
      have HNL : Hid (∀ p ∈ l, NrP 274877906944 t p) := hid (by have := HNR.out; rwa [List.take_of_length_le (by have := HLN.out; omega)] at this)
      clear HNR HS
      have HOK : Hid (∀ p ∈ l, pR p = true ∧ PIn p) := hid (fun p hp => (HNL.out p hp).1)
      have E1 := hid (of_yes t HOK.out (by have := HLN.out; omega))
      have HI1 := hid (sums_in HTT.out HOK.out (by have := HLN.out; omega))
      obtain ⟨K, hKe⟩ : ∃ K, K = iN % k := ⟨_, rfl⟩
      have hK : K < k := by rw [hKe]; exact Nat.mod_lt _ (by have := H0.out; omega)
      have HK := hid hK
      have hKl : K < l.length := by have := HLN.out; omega
      have HWG := hid (wg_of HNL.out hKl (by have := HLN.out; omega))
      have HWE := hid (HWG.out.1.weigh (by decide) (by decide) HV.out.1 HV.out.2)
      have HSW := hid (HWG.out.1.swap (by decide) (by decide) HV.out.1 HV.out.2)
      have HWL := hid (fun j hj => HWG.out.1.lags (by decide) (by decide) HV.out.1 HV.out.2 (j := j) hj)
      have HW2 := hid (HWG.out.1.next (by decide) (by decide) HWG.out.2.1 HWG.out.2.2 HV.out.1 HV.out.2)
      have HYV : Hid (1 ≤ (l.getD K (0, 0, 0)).2.2 ∧ (l.getD K (0, 0, 0)).2.2 ≤ 1048576) := hid (by have := HWG.out.1.isP; unfold IsP at this; omega)
      have HWE2 := hid (HW2.out.weigh (by decide) (by decide) HYV.out.1 HYV.out.2)
      have HSW2 := hid (HW2.out.swap (by decide) (by decide) HYV.out.1 HYV.out.2)
      have HWL2 := hid (fun j hj => HW2.out.lags (by decide) (by decide) HYV.out.1 HYV.out.2 (j := j) hj)
      have HI3 := hid (sums_in HTT.out (mem_set' (k := K) HW2.out.ok HWE2.out.2.1) (by rw [List.length_set, List.length_set]; have := HLN.out; omega))
      have HY := hid (HOK.out _ (getD_mem hKl))
      have HI2 := hid (sums_in HTT.out (mem_set' (k := K) HOK.out HWE.out.2.1) (by rw [List.length_set]; have := HLN.out; omega))
      obtain ⟨P, hP⟩ : ∃ P, wgP t l K v = P := ⟨_, rfl⟩
      obtain ⟨M, hM⟩ : ∃ M, Mu.sums t l = M := ⟨_, rfl⟩
      obtain ⟨y, hy⟩ : ∃ y, l.getD K (0, 0, 0) = y := ⟨_, rfl⟩
      obtain ⟨l2, hl2⟩ : ∃ l2, l.set K (wgP t l K v) = l2 := ⟨_, rfl⟩
      obtain ⟨N, hN⟩ : ∃ N, Mu.sums t l2 = N := ⟨_, rfl⟩
      have HG2 : Hid (l2.getD K (0, 0, 0) = P ∧ l2.length = l.length ∧ ∀ j, j ≠ K → l2.getD j (0, 0, 0) = l.getD j (0, 0, 0)) := hid (by
        rw [← hl2, ← hP]
        exact ⟨lset_at hKl, List.length_set, fun j hj => lset_ne hj⟩)
      rw [hl2] at HSW HWL HI2 HWE2 HSW2 HWL2 HI3
      rw [hN] at HSW HWL HI2 HWE2 HSW2 HWL2
      rw [hM] at E1 HI1 HWE HSW HWL
      rw [hP] at HWE HSW
      rw [hy] at HWE HSW HY HYV HWE2 HSW2 HWL2 HI3
      rw [HG2.out.1] at HWE2 HSW2
      obtain ⟨q, hq⟩ : ∃ q, wgP t l2 K y.2.2 = q := ⟨_, rfl⟩
      rw [hq] at HWE2 HSW2 HWL2 HI3
      obtain ⟨O, hO⟩ : ∃ O, Mu.sums t (l2.set K q) = O := ⟨_, rfl⟩
      rw [hO] at HSW2 HWL2 HI3
      have HLG : Hid (∀ j, j < l.length → ∃ a b, M.lag (l.getD j (0, 0, 0)) = (true, a) ∧ O.lag ((l2.set K q).getD j (0, 0, 0)) = (true, b) ∧ -2 ≤ b - a ∧ b - a ≤ 2) := hid (fun j hj => by
        obtain ⟨a, b, e1, e2, e3, e4⟩ := HWL.out j hj
        obtain ⟨b', d, g1, g2, g3, g4⟩ := HWL2.out j (by rw [HG2.out.2.1]; exact hj)
        rw [e2] at g1
        injection g1 with _ g1
        refine ⟨a, d, e1, g2, ?_, ?_⟩
        · by_cases h : j = K
          · have := e3 h; have := g3 h; omega
          · have := e4 h; have := g4 h; omega
        · by_cases h : j = K
          · have := e3 h; have := g3 h; omega
          · have := e4 h; have := g4 h; omega)
      have HQW : Hid (q.2.2 = y.2.2) := hid HWE2.out.2.2.1
      have HKL := hid (show K < l2.length by rw [HG2.out.2.1]; exact hKl)
      clear HWL HWL2 hq hO hl2 hN hP hM HW2
      have HYE := hid hy
      have t1 : Int.tmod (iN : Int) (k : Int) = (K : Int) := by rw [hKe, Int.tmod_eq_emod_of_nonneg (by omega)]; rfl
      have t2 : ((k : Int) == 0) = false := by rw [beq_eq_false_iff_ne]; have := H0.out; omega
      have t3 : IntKind.i64.wrap (iN : Int) = iN := by have := HIN.out; rw [IntKind.wrap_i64]; omega
      have t4 : (K : Int) < k := by omega
      obtain ⟨bb, off, hA, _, _⟩ := (HR.out.below HB.out).2 K hK
      subst hA
      clear hy hKe hKl
      go_wp2_with fail
      refine (Mean.of t HTT.out (some ⟨bb, off, none⟩) k c l _ (HR.out.below HB.out) HL.out (by omega)).mono ?_
      rw [E1.out]
      rintro e w5 ⟨rfl, hb⟩
      have ha := (Below.refl w5.heap.size w5).alloc (Nat.le_refl _) (.cells #[.int .u64 M.b, .int .i64 (hiW M.a), .int .u64 (loW M.a), .int .u64 M.w, .int .i64 M.n] 36)
      have HG4 : Hid (Cs (w5.alloc (.cells #[.int .u64 M.b, .int .i64 (hiW M.a), .int .u64 (loW M.a), .int .u64 M.w, .int .i64 M.n] 36)) w5.heap.size M.cells ∧ Below w.heap.size w (w5.alloc (.cells #[.int .u64 M.b, .int .i64 (hiW M.a), .int .u64 (loW M.a), .int .u64 M.w, .int .i64 M.n] 36))) := hid ⟨Cs.alloc_new6 w5 36 M.cells, below_on (below_on HB.out hb) ha⟩
      clear hb ha HB
      go_wp2_with fail
      generalize w5.alloc (.cells #[.int .u64 M.b, .int .i64 (hiW M.a), .int .u64 (loW M.a), .int .u64 M.w, .int .i64 M.n] 36) = W4 at HG4 ⊢
      generalize w5.heap.size = gm at HG4 ⊢
      have HWC : Hid (∀ wq, Calls Tryz.prog 45 #[M.val, pv y, .int .u32 v] wq (Ans (.tuple #[pv P, .bool true]) wq)) := hid (fun wq => by
        have h := Weigh.weigh M y v HI1.out HY.out.2 (by have := HV.out; omega) (by have := HV.out; omega) wq
        rwa [HWE.out.1] at h)
      have HSC : Hid (∀ wq, Calls Tryz.prog 46 #[M.val, pv y, pv P] wq (Ans (.tuple #[Mu.val N, .bool true]) wq)) := hid (fun wq => by
        have h := Weigh.shifted M y P HI1.out HY.out.2 HWE.out.2.1.2 wq
        rwa [HSW.out] at h)
      have HWC2 : Hid (∀ wq, Calls Tryz.prog 45 #[N.val, pv P, .int .u32 y.2.2] wq (Ans (.tuple #[pv q, .bool true]) wq)) := hid (fun wq => by
        have h := Weigh.weigh N P y.2.2 HI2.out HWE.out.2.1.2 (by have := HYV.out; omega) (by have := HYV.out; omega) wq
        rwa [HWE2.out.1] at h)
      refine wp_region_grow (S := fun wx => (Cs wx gm M.cells) ∧ Below w.heap.size w wx) 13 (by kernel_rfl) (((fun _ _ h hb => ⟨h.1.below hb, below_on h.2 hb⟩) : Stays (fun wx => (Cs wx gm M.cells) ∧ Below w.heap.size w wx)) _ _ HG4.out (Below.refl _ _).drew) ?_
      refine wpAnyE_take (i := 0) (v := ?_) (((fun _ _ h hb => ⟨h.1.below hb, below_on h.2 hb⟩) : Stays (fun wx => (Cs wx gm M.cells) ∧ Below w.heap.size w wx))) (fun _ h => h) rfl (by kernel_rfl) (by kernel_rfl) (by kernel_rfl) (by kernel_rfl) (fun _ _ _ h => h) (SteadyB.of_yields (Or.inl ⟨by rfl, ?_⟩)) ?_
      rotate_left
      · intro wq hSw
        obtain ⟨m0, m1, m2, m3, m4⟩ := Mu.at M hSw.1
        obtain ⟨b9, o9, hA9, _, hc9⟩ := (HR.out.below hSw.2).2 K HK.out
        injection hA9 with hA9
        injection hA9 with hA9 hA8
        subst hA9 hA8
        obtain ⟨p0, p1, p2⟩ := hc9 K HK.out
        rw [HYE.out] at p0 p1 p2
        clear hc9
        go_simp
        (try with_reducible rfl)
      try simp only [List.getElem_toArray, List.getElem_cons_zero, List.getElem_cons_succ, Act.put, List.setIfInBounds_toArray, List.set_cons_zero, List.set_cons_succ]
      refine wpAnyE_take (i := 1) (v := ?_) (((fun _ _ h hb => ⟨h.1.below hb, below_on h.2 hb⟩) : Stays (fun wx => (Cs wx gm M.cells) ∧ Below w.heap.size w wx))) (fun _ h => h) rfl (by kernel_rfl) (by kernel_rfl) (by kernel_rfl) (by kernel_rfl) (fun _ _ _ h => h) (SteadyB.of_yields (Or.inl ⟨by rfl, ?_⟩)) ?_
      rotate_left
      · intro wq hSw
        go_simp
        (try with_reducible rfl)
      try simp only [List.getElem_toArray, List.getElem_cons_zero, List.getElem_cons_succ, Act.put, List.setIfInBounds_toArray, List.set_cons_zero, List.set_cons_succ]
      refine wpAnyE_take (i := 2) (v := ?_) (((fun _ _ h hb => ⟨h.1.below hb, below_on h.2 hb⟩) : Stays (fun wx => (Cs wx gm M.cells) ∧ Below w.heap.size w wx))) (fun _ h => h) rfl (by kernel_rfl) (by kernel_rfl) (by kernel_rfl) (by kernel_rfl) (fun _ _ _ h => h) (SteadyB.of_yields (Or.inl ⟨by rfl, ?_⟩)) ?_
      rotate_left
      · intro wq hSw
        go_simp
        (try with_reducible rfl)
      try simp only [List.getElem_toArray, List.getElem_cons_zero, List.getElem_cons_succ, Act.put, List.setIfInBounds_toArray, List.set_cons_zero, List.set_cons_succ]
      refine wpAnyE_take (i := 3) (v := ?_) (((fun _ _ h hb => ⟨h.1.below hb, below_on h.2 hb⟩) : Stays (fun wx => (Cs wx gm M.cells) ∧ Below w.heap.size w wx))) (fun _ h => h) rfl (by kernel_rfl) (by kernel_rfl) (by kernel_rfl) (by kernel_rfl) (fun _ _ _ h => h) (SteadyB.of_yields (Or.inl ⟨by rfl, ?_⟩)) ?_
      rotate_left
      · intro wq hSw
        go_simp
        (try with_reducible rfl)
      try simp only [List.getElem_toArray, List.getElem_cons_zero, List.getElem_cons_succ, Act.put, List.setIfInBounds_toArray, List.set_cons_zero, List.set_cons_succ]
      refine wpAnyE_take (i := 4) (v := ?_) (((fun _ _ h hb => ⟨h.1.below hb, below_on h.2 hb⟩) : Stays (fun wx => (Cs wx gm M.cells) ∧ Below w.heap.size w wx))) (fun _ h => h) rfl (by kernel_rfl) (by kernel_rfl) (by kernel_rfl) (by kernel_rfl) (fun _ _ _ h => h) (SteadyB.of_yields (Or.inl ⟨by rfl, ?_⟩)) ?_
      rotate_left
      · intro wq hSw
        obtain ⟨m0, m1, m2, m3, m4⟩ := Mu.at M hSw.1
        obtain ⟨b9, o9, hA9, _, hc9⟩ := (HR.out.below hSw.2).2 K HK.out
        injection hA9 with hA9
        injection hA9 with hA9 hA8
        subst hA9 hA8
        obtain ⟨p0, p1, p2⟩ := hc9 K HK.out
        rw [HYE.out] at p0 p1 p2
        clear hc9
        go_simp
        (try with_reducible rfl)
      try simp only [List.getElem_toArray, List.getElem_cons_zero, List.getElem_cons_succ, Act.put, List.setIfInBounds_toArray, List.set_cons_zero, List.set_cons_succ]
      refine wpAnyE_take (i := 5) (v := ?_) (((fun _ _ h hb => ⟨h.1.below hb, below_on h.2 hb⟩) : Stays (fun wx => (Cs wx gm M.cells) ∧ Below w.heap.size w wx))) (fun _ h => h) rfl (by kernel_rfl) (by kernel_rfl) (by kernel_rfl) (by kernel_rfl) (fun _ _ _ h => h) (SteadyB.of_yields (Or.inl ⟨by rfl, ?_⟩)) ?_
      rotate_left
      · intro wq hSw
        go_simp
        (try with_reducible rfl)
      try simp only [List.getElem_toArray, List.getElem_cons_zero, List.getElem_cons_succ, Act.put, List.setIfInBounds_toArray, List.set_cons_zero, List.set_cons_succ]
      refine wpAnyE_take (i := 6) (v := (.tuple #[pv P, .bool true])) (((fun _ _ h hb => ⟨h.1.below hb, below_on h.2 hb⟩) : Stays (fun wx => (Cs wx gm M.cells) ∧ Below w.heap.size w wx))) (fun _ h => h) rfl (by kernel_rfl) (by kernel_rfl) (by kernel_rfl) (by kernel_rfl) (fun _ _ _ h => h) (Or.inl ⟨by rfl, fun wq hSw => ?_⟩) ?_
      · refine RunB.of_calls (HWC.out wq) (by go_simp) ?_
        rintro e wr ⟨rfl, hb⟩
        exact ⟨rfl, hb⟩
      try simp only [List.getElem_toArray, List.getElem_cons_zero, List.getElem_cons_succ, Act.put, List.setIfInBounds_toArray, List.set_cons_zero, List.set_cons_succ]
      refine wpAnyE_take (i := 7) (v := ?_) (((fun _ _ h hb => ⟨h.1.below hb, below_on h.2 hb⟩) : Stays (fun wx => (Cs wx gm M.cells) ∧ Below w.heap.size w wx))) (fun _ h => h) rfl (by kernel_rfl) (by kernel_rfl) (by kernel_rfl) (by kernel_rfl) (fun _ _ _ h => h) (SteadyB.of_yields (Or.inl ⟨by rfl, ?_⟩)) ?_
      rotate_left
      · intro wq hSw
        go_simp
        (try with_reducible rfl)
      try simp only [List.getElem_toArray, List.getElem_cons_zero, List.getElem_cons_succ, Act.put, List.setIfInBounds_toArray, List.set_cons_zero, List.set_cons_succ]
      refine wpAnyE_take (i := 8) (v := ?_) (((fun _ _ h hb => ⟨h.1.below hb, below_on h.2 hb⟩) : Stays (fun wx => (Cs wx gm M.cells) ∧ Below w.heap.size w wx))) (fun _ h => h) rfl (by kernel_rfl) (by kernel_rfl) (by kernel_rfl) (by kernel_rfl) (fun _ _ _ h => h) (SteadyB.of_yields (Or.inl ⟨by rfl, ?_⟩)) ?_
      rotate_left
      · intro wq hSw
        go_simp
        (try with_reducible rfl)
      try simp only [List.getElem_toArray, List.getElem_cons_zero, List.getElem_cons_succ, Act.put, List.setIfInBounds_toArray, List.set_cons_zero, List.set_cons_succ]
      refine wpAnyE_take (i := 9) (v := ?_) (((fun _ _ h hb => ⟨h.1.below hb, below_on h.2 hb⟩) : Stays (fun wx => (Cs wx gm M.cells) ∧ Below w.heap.size w wx))) (fun _ h => h) rfl (by kernel_rfl) (by kernel_rfl) (by kernel_rfl) (by kernel_rfl) (fun _ _ _ h => h) (SteadyB.of_yields (Or.inl ⟨by rfl, ?_⟩)) ?_
      rotate_left
      · intro wq hSw
        go_simp
        (try with_reducible rfl)
      try simp only [List.getElem_toArray, List.getElem_cons_zero, List.getElem_cons_succ, Act.put, List.setIfInBounds_toArray, List.set_cons_zero, List.set_cons_succ]
      refine wpAnyE_alloc (i := 10) (fun wx g9 => Cs wx g9 [.int .u64 0, .int .u32 0, .int .u32 0] ∧ gm < g9 ∧ w.heap.size ≤ g9) rfl (by kernel_rfl) (by decide) (by rfl) (((fun _ _ h hb => ⟨h.1.below hb, below_on h.2 hb⟩) : Stays (fun wx => (Cs wx gm M.cells) ∧ Below w.heap.size w wx))) (fun _ h => h) (fun g9 => (fun _ _ h hb => ⟨h.1.below hb, h.2⟩)) (fun wq hSw => ?_) (fun gA => ?_)
      · exact ⟨_, by go_simp; (try with_reducible rfl), (Below.refl _ _).alloc (Nat.le_refl _) _, Cs.alloc_new6 _ _ [.int .u64 0, .int .u32 0, .int .u32 0], hSw.1.lt, hSw.2.size⟩
      try simp only [List.getElem_toArray, List.getElem_cons_zero, List.getElem_cons_succ, Act.put, List.setIfInBounds_toArray, List.set_cons_zero, List.set_cons_succ]
      refine wpAnyE_store (i := 11) (fun wx => (fun wx => (Cs wx gm M.cells) ∧ Below w.heap.size w wx) wx ∧ Cs wx gA [.int .u64 P.1, .int .u32 P.2.1, .int .u32 P.2.2]) 29 [.int .u64 P.1, .int .u32 P.2.1, .int .u32 P.2.2] [.int .u64 0, .int .u32 0, .int .u32 0] gA infoPos (.tmp 15) (.tmp 93) rfl rfl (by kernel_rfl) (by decide) (by rfl) ?st11_3a ?st11_3b ?st11_3c ?st11_3d ?st11_3e (fun _ h => h.2.1) (fun _ h => ⟨⟨h.1.1.fars (by have := h.2.2; omega) _ _, below_sets (by have := h.2.2; omega) _ _ h.1.2⟩, Cs.putL _ 0 h.2.1 (by simp)⟩) (fun _ h => h.1) (Stays.and_ ((fun _ _ h hb => ⟨h.1.below hb, below_on h.2 hb⟩) : Stays (fun wx => (Cs wx gm M.cells) ∧ Below w.heap.size w wx)) (fun _ _ h hb => h.below hb)) ?st11_3f
      case st11_3a => rfl
      case st11_3b => rfl
      case st11_3c => rfl
      case st11_3d => rfl
      case st11_3e => rfl
      try simp only [List.getElem_toArray, List.getElem_cons_zero, List.getElem_cons_succ, Act.put, List.setIfInBounds_toArray, List.set_cons_zero, List.set_cons_succ]
      refine wpAnyE_take (i := 12) (v := ?_) (Stays.and_ ((fun _ _ h hb => ⟨h.1.below hb, below_on h.2 hb⟩) : Stays (fun wx => (Cs wx gm M.cells) ∧ Below w.heap.size w wx)) (fun _ _ h hb => h.below hb)) (fun _ h => h.1) rfl (by kernel_rfl) (by kernel_rfl) (by kernel_rfl) (by kernel_rfl) (fun _ _ _ h => h) (SteadyB.of_yields (Or.inl ⟨by rfl, ?_⟩)) ?_
      rotate_left
      · intro wq hSw
        go_simp
        (try with_reducible rfl)
      try simp only [List.getElem_toArray, List.getElem_cons_zero, List.getElem_cons_succ, Act.put, List.setIfInBounds_toArray, List.set_cons_zero, List.set_cons_succ]
      refine wpAnyE_done (by kernel_rfl) (fun wz hSz => ?_) _
      have HG5 : Hid ((Cs wz gm M.cells ∧ Cs wz gA (pcells P)) ∧ Below w.heap.size w wz) := hid ⟨⟨hSz.1.1, hSz.2⟩, hSz.1.2⟩
      clear hSz HG4 HWC
      generalize gA = gp at HG5 ⊢
      go_wp2_with fail
      refine wp_region_grow (S := fun wx => (Cs wx gm M.cells ∧ Cs wx gp (pcells P)) ∧ Below w.heap.size w wx) 13 (by kernel_rfl) (((fun _ _ h hb => ⟨⟨h.1.1.below hb, h.1.2.below hb⟩, below_on h.2 hb⟩) : Stays (fun wx => (Cs wx gm M.cells ∧ Cs wx gp (pcells P)) ∧ Below w.heap.size w wx)) _ _ HG5.out (Below.refl _ _).drew) ?_
      refine wpAnyE_take (i := 0) (v := ?_) (((fun _ _ h hb => ⟨⟨h.1.1.below hb, h.1.2.below hb⟩, below_on h.2 hb⟩) : Stays (fun wx => (Cs wx gm M.cells ∧ Cs wx gp (pcells P)) ∧ Below w.heap.size w wx))) (fun _ h => h) rfl (by kernel_rfl) (by kernel_rfl) (by kernel_rfl) (by kernel_rfl) (fun _ _ _ h => h) (SteadyB.of_yields (Or.inl ⟨by rfl, ?_⟩)) ?_
      rotate_left
      · intro wq hSw
        obtain ⟨m0, m1, m2, m3, m4⟩ := Mu.at M hSw.1.1
        obtain ⟨r0, r1, r2⟩ := P3.at P hSw.1.2
        obtain ⟨b9, o9, hA9, _, hc9⟩ := (HR.out.below hSw.2).2 K HK.out
        injection hA9 with hA9
        injection hA9 with hA9 hA8
        subst hA9 hA8
        obtain ⟨p0, p1, p2⟩ := hc9 K HK.out
        rw [HYE.out] at p0 p1 p2
        clear hc9
        go_simp
        (try with_reducible rfl)
      try simp only [List.getElem_toArray, List.getElem_cons_zero, List.getElem_cons_succ, Act.put, List.setIfInBounds_toArray, List.set_cons_zero, List.set_cons_succ]
      refine wpAnyE_take (i := 1) (v := ?_) (((fun _ _ h hb => ⟨⟨h.1.1.below hb, h.1.2.below hb⟩, below_on h.2 hb⟩) : Stays (fun wx => (Cs wx gm M.cells ∧ Cs wx gp (pcells P)) ∧ Below w.heap.size w wx))) (fun _ h => h) rfl (by kernel_rfl) (by kernel_rfl) (by kernel_rfl) (by kernel_rfl) (fun _ _ _ h => h) (SteadyB.of_yields (Or.inl ⟨by rfl, ?_⟩)) ?_
      rotate_left
      · intro wq hSw
        go_simp
        (try with_reducible rfl)
      try simp only [List.getElem_toArray, List.getElem_cons_zero, List.getElem_cons_succ, Act.put, List.setIfInBounds_toArray, List.set_cons_zero, List.set_cons_succ]
      refine wpAnyE_take (i := 2) (v := ?_) (((fun _ _ h hb => ⟨⟨h.1.1.below hb, h.1.2.below hb⟩, below_on h.2 hb⟩) : Stays (fun wx => (Cs wx gm M.cells ∧ Cs wx gp (pcells P)) ∧ Below w.heap.size w wx))) (fun _ h => h) rfl (by kernel_rfl) (by kernel_rfl) (by kernel_rfl) (by kernel_rfl) (fun _ _ _ h => h) (SteadyB.of_yields (Or.inl ⟨by rfl, ?_⟩)) ?_
      rotate_left
      · intro wq hSw
        go_simp
        (try with_reducible rfl)
      try simp only [List.getElem_toArray, List.getElem_cons_zero, List.getElem_cons_succ, Act.put, List.setIfInBounds_toArray, List.set_cons_zero, List.set_cons_succ]
      refine wpAnyE_take (i := 3) (v := ?_) (((fun _ _ h hb => ⟨⟨h.1.1.below hb, h.1.2.below hb⟩, below_on h.2 hb⟩) : Stays (fun wx => (Cs wx gm M.cells ∧ Cs wx gp (pcells P)) ∧ Below w.heap.size w wx))) (fun _ h => h) rfl (by kernel_rfl) (by kernel_rfl) (by kernel_rfl) (by kernel_rfl) (fun _ _ _ h => h) (SteadyB.of_yields (Or.inl ⟨by rfl, ?_⟩)) ?_
      rotate_left
      · intro wq hSw
        go_simp
        (try with_reducible rfl)
      try simp only [List.getElem_toArray, List.getElem_cons_zero, List.getElem_cons_succ, Act.put, List.setIfInBounds_toArray, List.set_cons_zero, List.set_cons_succ]
      refine wpAnyE_take (i := 4) (v := ?_) (((fun _ _ h hb => ⟨⟨h.1.1.below hb, h.1.2.below hb⟩, below_on h.2 hb⟩) : Stays (fun wx => (Cs wx gm M.cells ∧ Cs wx gp (pcells P)) ∧ Below w.heap.size w wx))) (fun _ h => h) rfl (by kernel_rfl) (by kernel_rfl) (by kernel_rfl) (by kernel_rfl) (fun _ _ _ h => h) (SteadyB.of_yields (Or.inl ⟨by rfl, ?_⟩)) ?_
      rotate_left
      · intro wq hSw
        obtain ⟨m0, m1, m2, m3, m4⟩ := Mu.at M hSw.1.1
        obtain ⟨r0, r1, r2⟩ := P3.at P hSw.1.2
        obtain ⟨b9, o9, hA9, _, hc9⟩ := (HR.out.below hSw.2).2 K HK.out
        injection hA9 with hA9
        injection hA9 with hA9 hA8
        subst hA9 hA8
        obtain ⟨p0, p1, p2⟩ := hc9 K HK.out
        rw [HYE.out] at p0 p1 p2
        clear hc9
        go_simp
        (try with_reducible rfl)
      try simp only [List.getElem_toArray, List.getElem_cons_zero, List.getElem_cons_succ, Act.put, List.setIfInBounds_toArray, List.set_cons_zero, List.set_cons_succ]
      refine wpAnyE_take (i := 5) (v := ?_) (((fun _ _ h hb => ⟨⟨h.1.1.below hb, h.1.2.below hb⟩, below_on h.2 hb⟩) : Stays (fun wx => (Cs wx gm M.cells ∧ Cs wx gp (pcells P)) ∧ Below w.heap.size w wx))) (fun _ h => h) rfl (by kernel_rfl) (by kernel_rfl) (by kernel_rfl) (by kernel_rfl) (fun _ _ _ h => h) (SteadyB.of_yields (Or.inl ⟨by rfl, ?_⟩)) ?_
      rotate_left
      · intro wq hSw
        obtain ⟨m0, m1, m2, m3, m4⟩ := Mu.at M hSw.1.1
        obtain ⟨r0, r1, r2⟩ := P3.at P hSw.1.2
        obtain ⟨b9, o9, hA9, _, hc9⟩ := (HR.out.below hSw.2).2 K HK.out
        injection hA9 with hA9
        injection hA9 with hA9 hA8
        subst hA9 hA8
        obtain ⟨p0, p1, p2⟩ := hc9 K HK.out
        rw [HYE.out] at p0 p1 p2
        clear hc9
        go_simp
        (try with_reducible rfl)
      try simp only [List.getElem_toArray, List.getElem_cons_zero, List.getElem_cons_succ, Act.put, List.setIfInBounds_toArray, List.set_cons_zero, List.set_cons_succ]
      refine wpAnyE_take (i := 6) (v := (.tuple #[Mu.val N, .bool true])) (((fun _ _ h hb => ⟨⟨h.1.1.below hb, h.1.2.below hb⟩, below_on h.2 hb⟩) : Stays (fun wx => (Cs wx gm M.cells ∧ Cs wx gp (pcells P)) ∧ Below w.heap.size w wx))) (fun _ h => h) rfl (by kernel_rfl) (by kernel_rfl) (by kernel_rfl) (by kernel_rfl) (fun _ _ _ h => h) (Or.inl ⟨by rfl, fun wq hSw => ?_⟩) ?_
      · refine RunB.of_calls (HSC.out wq) (by go_simp) ?_
        rintro e wr ⟨rfl, hb⟩
        exact ⟨rfl, hb⟩
      try simp only [List.getElem_toArray, List.getElem_cons_zero, List.getElem_cons_succ, Act.put, List.setIfInBounds_toArray, List.set_cons_zero, List.set_cons_succ]
      refine wpAnyE_take (i := 7) (v := ?_) (((fun _ _ h hb => ⟨⟨h.1.1.below hb, h.1.2.below hb⟩, below_on h.2 hb⟩) : Stays (fun wx => (Cs wx gm M.cells ∧ Cs wx gp (pcells P)) ∧ Below w.heap.size w wx))) (fun _ h => h) rfl (by kernel_rfl) (by kernel_rfl) (by kernel_rfl) (by kernel_rfl) (fun _ _ _ h => h) (SteadyB.of_yields (Or.inl ⟨by rfl, ?_⟩)) ?_
      rotate_left
      · intro wq hSw
        go_simp
        (try with_reducible rfl)
      try simp only [List.getElem_toArray, List.getElem_cons_zero, List.getElem_cons_succ, Act.put, List.setIfInBounds_toArray, List.set_cons_zero, List.set_cons_succ]
      refine wpAnyE_take (i := 8) (v := ?_) (((fun _ _ h hb => ⟨⟨h.1.1.below hb, h.1.2.below hb⟩, below_on h.2 hb⟩) : Stays (fun wx => (Cs wx gm M.cells ∧ Cs wx gp (pcells P)) ∧ Below w.heap.size w wx))) (fun _ h => h) rfl (by kernel_rfl) (by kernel_rfl) (by kernel_rfl) (by kernel_rfl) (fun _ _ _ h => h) (SteadyB.of_yields (Or.inl ⟨by rfl, ?_⟩)) ?_
      rotate_left
      · intro wq hSw
        go_simp
        (try with_reducible rfl)
      try simp only [List.getElem_toArray, List.getElem_cons_zero, List.getElem_cons_succ, Act.put, List.setIfInBounds_toArray, List.set_cons_zero, List.set_cons_succ]
      refine wpAnyE_take (i := 9) (v := ?_) (((fun _ _ h hb => ⟨⟨h.1.1.below hb, h.1.2.below hb⟩, below_on h.2 hb⟩) : Stays (fun wx => (Cs wx gm M.cells ∧ Cs wx gp (pcells P)) ∧ Below w.heap.size w wx))) (fun _ h => h) rfl (by kernel_rfl) (by kernel_rfl) (by kernel_rfl) (by kernel_rfl) (fun _ _ _ h => h) (SteadyB.of_yields (Or.inl ⟨by rfl, ?_⟩)) ?_
      rotate_left
      · intro wq hSw
        go_simp
        (try with_reducible rfl)
      try simp only [List.getElem_toArray, List.getElem_cons_zero, List.getElem_cons_succ, Act.put, List.setIfInBounds_toArray, List.set_cons_zero, List.set_cons_succ]
      refine wpAnyE_alloc (i := 10) (fun wx g9 => Cs wx g9 [.int .u64 0, .int .i64 0, .int .u64 0, .int .u64 0, .int .i64 0] ∧ gm < g9 ∧ gp < g9 ∧ w.heap.size ≤ g9) rfl (by kernel_rfl) (by decide) (by rfl) (((fun _ _ h hb => ⟨⟨h.1.1.below hb, h.1.2.below hb⟩, below_on h.2 hb⟩) : Stays (fun wx => (Cs wx gm M.cells ∧ Cs wx gp (pcells P)) ∧ Below w.heap.size w wx))) (fun _ h => h) (fun g9 => (fun _ _ h hb => ⟨h.1.below hb, h.2⟩)) (fun wq hSw => ?_) (fun gA => ?_)
      · exact ⟨_, by go_simp; (try with_reducible rfl), (Below.refl _ _).alloc (Nat.le_refl _) _, Cs.alloc_new6 _ _ [.int .u64 0, .int .i64 0, .int .u64 0, .int .u64 0, .int .i64 0], hSw.1.1.lt, hSw.1.2.lt, hSw.2.size⟩
      try simp only [List.getElem_toArray, List.getElem_cons_zero, List.getElem_cons_succ, Act.put, List.setIfInBounds_toArray, List.set_cons_zero, List.set_cons_succ]
      refine wpAnyE_store (i := 11) (fun wx => (fun wx => (Cs wx gm M.cells ∧ Cs wx gp (pcells P)) ∧ Below w.heap.size w wx) wx ∧ Cs wx gA [.int .u64 N.b, .int .i64 (hiW N.a), .int .u64 (loW N.a), .int .u64 N.w, .int .i64 N.n]) 36 [.int .u64 N.b, .int .i64 (hiW N.a), .int .u64 (loW N.a), .int .u64 N.w, .int .i64 N.n] [.int .u64 0, .int .i64 0, .int .u64 0, .int .u64 0, .int .i64 0] gA infoMean (.tmp 17) (.tmp 103) rfl rfl (by kernel_rfl) (by decide) (by rfl) ?st11_4a ?st11_4b ?st11_4c ?st11_4d ?st11_4e (fun _ h => h.2.1) (fun _ h => ⟨⟨⟨h.1.1.1.fars (by have := h.2.2; omega) _ _, h.1.1.2.fars (by have := h.2.2; omega) _ _⟩, below_sets (by have := h.2.2; omega) _ _ h.1.2⟩, Cs.putL _ 0 h.2.1 (by simp)⟩) (fun _ h => h.1) (Stays.and_ ((fun _ _ h hb => ⟨⟨h.1.1.below hb, h.1.2.below hb⟩, below_on h.2 hb⟩) : Stays (fun wx => (Cs wx gm M.cells ∧ Cs wx gp (pcells P)) ∧ Below w.heap.size w wx)) (fun _ _ h hb => h.below hb)) ?st11_4f
      case st11_4a => rfl
      case st11_4b => rfl
      case st11_4c => rfl
      case st11_4d => rfl
      case st11_4e => rfl
      try simp only [List.getElem_toArray, List.getElem_cons_zero, List.getElem_cons_succ, Act.put, List.setIfInBounds_toArray, List.set_cons_zero, List.set_cons_succ]
      refine wpAnyE_take (i := 12) (v := ?_) (Stays.and_ ((fun _ _ h hb => ⟨⟨h.1.1.below hb, h.1.2.below hb⟩, below_on h.2 hb⟩) : Stays (fun wx => (Cs wx gm M.cells ∧ Cs wx gp (pcells P)) ∧ Below w.heap.size w wx)) (fun _ _ h hb => h.below hb)) (fun _ h => h.1) rfl (by kernel_rfl) (by kernel_rfl) (by kernel_rfl) (by kernel_rfl) (fun _ _ _ h => h) (SteadyB.of_yields (Or.inl ⟨by rfl, ?_⟩)) ?_
      rotate_left
      · intro wq hSw
        go_simp
        (try with_reducible rfl)
      try simp only [List.getElem_toArray, List.getElem_cons_zero, List.getElem_cons_succ, Act.put, List.setIfInBounds_toArray, List.set_cons_zero, List.set_cons_succ]
      refine wpAnyE_done (by kernel_rfl) (fun wz hSz => ?_) _
      have HG6 : Hid ((Cs wz gm M.cells ∧ Cs wz gA N.cells ∧ Cs wz gp (pcells P)) ∧ Below w.heap.size w wz) := hid ⟨⟨hSz.1.1.1, hSz.2, hSz.1.1.2⟩, hSz.1.2⟩
      clear hSz HG5 HSC
      generalize gA = gn at HG6 ⊢
      go_wp2_with fail
      refine wp_region_grow (S := fun wx => (Cs wx gm M.cells ∧ Cs wx gn N.cells ∧ Cs wx gp (pcells P)) ∧ Below w.heap.size w wx) 14 (by kernel_rfl) (((fun _ _ h hb => ⟨⟨h.1.1.below hb, h.1.2.1.below hb, h.1.2.2.below hb⟩, below_on h.2 hb⟩) : Stays (fun wx => (Cs wx gm M.cells ∧ Cs wx gn N.cells ∧ Cs wx gp (pcells P)) ∧ Below w.heap.size w wx)) _ _ HG6.out (Below.refl _ _).drew) ?_
      refine wpAnyE_take (i := 0) (v := ?_) (((fun _ _ h hb => ⟨⟨h.1.1.below hb, h.1.2.1.below hb, h.1.2.2.below hb⟩, below_on h.2 hb⟩) : Stays (fun wx => (Cs wx gm M.cells ∧ Cs wx gn N.cells ∧ Cs wx gp (pcells P)) ∧ Below w.heap.size w wx))) (fun _ h => h) rfl (by kernel_rfl) (by kernel_rfl) (by kernel_rfl) (by kernel_rfl) (fun _ _ _ h => h) (SteadyB.of_yields (Or.inl ⟨by rfl, ?_⟩)) ?_
      rotate_left
      · intro wq hSw
        obtain ⟨m0, m1, m2, m3, m4⟩ := Mu.at N hSw.1.2.1
        obtain ⟨r0, r1, r2⟩ := P3.at P hSw.1.2.2
        obtain ⟨b9, o9, hA9, _, hc9⟩ := (HR.out.below hSw.2).2 K HK.out
        injection hA9 with hA9
        injection hA9 with hA9 hA8
        subst hA9 hA8
        obtain ⟨p0, p1, p2⟩ := hc9 K HK.out
        rw [HYE.out] at p0 p1 p2
        clear hc9
        go_simp
        (try with_reducible rfl)
      try simp only [List.getElem_toArray, List.getElem_cons_zero, List.getElem_cons_succ, Act.put, List.setIfInBounds_toArray, List.set_cons_zero, List.set_cons_succ]
      refine wpAnyE_take (i := 1) (v := ?_) (((fun _ _ h hb => ⟨⟨h.1.1.below hb, h.1.2.1.below hb, h.1.2.2.below hb⟩, below_on h.2 hb⟩) : Stays (fun wx => (Cs wx gm M.cells ∧ Cs wx gn N.cells ∧ Cs wx gp (pcells P)) ∧ Below w.heap.size w wx))) (fun _ h => h) rfl (by kernel_rfl) (by kernel_rfl) (by kernel_rfl) (by kernel_rfl) (fun _ _ _ h => h) (SteadyB.of_yields (Or.inl ⟨by rfl, ?_⟩)) ?_
      rotate_left
      · intro wq hSw
        obtain ⟨m0, m1, m2, m3, m4⟩ := Mu.at N hSw.1.2.1
        obtain ⟨r0, r1, r2⟩ := P3.at P hSw.1.2.2
        obtain ⟨b9, o9, hA9, _, hc9⟩ := (HR.out.below hSw.2).2 K HK.out
        injection hA9 with hA9
        injection hA9 with hA9 hA8
        subst hA9 hA8
        obtain ⟨p0, p1, p2⟩ := hc9 K HK.out
        rw [HYE.out] at p0 p1 p2
        clear hc9
        go_simp
        (try with_reducible rfl)
      try simp only [List.getElem_toArray, List.getElem_cons_zero, List.getElem_cons_succ, Act.put, List.setIfInBounds_toArray, List.set_cons_zero, List.set_cons_succ]
      refine wpAnyE_take (i := 2) (v := ?_) (((fun _ _ h hb => ⟨⟨h.1.1.below hb, h.1.2.1.below hb, h.1.2.2.below hb⟩, below_on h.2 hb⟩) : Stays (fun wx => (Cs wx gm M.cells ∧ Cs wx gn N.cells ∧ Cs wx gp (pcells P)) ∧ Below w.heap.size w wx))) (fun _ h => h) rfl (by kernel_rfl) (by kernel_rfl) (by kernel_rfl) (by kernel_rfl) (fun _ _ _ h => h) (SteadyB.of_yields (Or.inl ⟨by rfl, ?_⟩)) ?_
      rotate_left
      · intro wq hSw
        go_simp
        (try with_reducible rfl)
      try simp only [List.getElem_toArray, List.getElem_cons_zero, List.getElem_cons_succ, Act.put, List.setIfInBounds_toArray, List.set_cons_zero, List.set_cons_succ]
      refine wpAnyE_take (i := 3) (v := ?_) (((fun _ _ h hb => ⟨⟨h.1.1.below hb, h.1.2.1.below hb, h.1.2.2.below hb⟩, below_on h.2 hb⟩) : Stays (fun wx => (Cs wx gm M.cells ∧ Cs wx gn N.cells ∧ Cs wx gp (pcells P)) ∧ Below w.heap.size w wx))) (fun _ h => h) rfl (by kernel_rfl) (by kernel_rfl) (by kernel_rfl) (by kernel_rfl) (fun _ _ _ h => h) (SteadyB.of_yields (Or.inl ⟨by rfl, ?_⟩)) ?_
      rotate_left
      · intro wq hSw
        go_simp
        (try with_reducible rfl)
      try simp only [List.getElem_toArray, List.getElem_cons_zero, List.getElem_cons_succ, Act.put, List.setIfInBounds_toArray, List.set_cons_zero, List.set_cons_succ]
      refine wpAnyE_take (i := 4) (v := ?_) (((fun _ _ h hb => ⟨⟨h.1.1.below hb, h.1.2.1.below hb, h.1.2.2.below hb⟩, below_on h.2 hb⟩) : Stays (fun wx => (Cs wx gm M.cells ∧ Cs wx gn N.cells ∧ Cs wx gp (pcells P)) ∧ Below w.heap.size w wx))) (fun _ h => h) rfl (by kernel_rfl) (by kernel_rfl) (by kernel_rfl) (by kernel_rfl) (fun _ _ _ h => h) (SteadyB.of_yields (Or.inl ⟨by rfl, ?_⟩)) ?_
      rotate_left
      · intro wq hSw
        go_simp
        (try with_reducible rfl)
      try simp only [List.getElem_toArray, List.getElem_cons_zero, List.getElem_cons_succ, Act.put, List.setIfInBounds_toArray, List.set_cons_zero, List.set_cons_succ]
      refine wpAnyE_take (i := 5) (v := ?_) (((fun _ _ h hb => ⟨⟨h.1.1.below hb, h.1.2.1.below hb, h.1.2.2.below hb⟩, below_on h.2 hb⟩) : Stays (fun wx => (Cs wx gm M.cells ∧ Cs wx gn N.cells ∧ Cs wx gp (pcells P)) ∧ Below w.heap.size w wx))) (fun _ h => h) rfl (by kernel_rfl) (by kernel_rfl) (by kernel_rfl) (by kernel_rfl) (fun _ _ _ h => h) (SteadyB.of_yields (Or.inl ⟨by rfl, ?_⟩)) ?_
      rotate_left
      · intro wq hSw
        go_simp
        (try with_reducible rfl)
      try simp only [List.getElem_toArray, List.getElem_cons_zero, List.getElem_cons_succ, Act.put, List.setIfInBounds_toArray, List.set_cons_zero, List.set_cons_succ]
      refine wpAnyE_take (i := 6) (v := ?_) (((fun _ _ h hb => ⟨⟨h.1.1.below hb, h.1.2.1.below hb, h.1.2.2.below hb⟩, below_on h.2 hb⟩) : Stays (fun wx => (Cs wx gm M.cells ∧ Cs wx gn N.cells ∧ Cs wx gp (pcells P)) ∧ Below w.heap.size w wx))) (fun _ h => h) rfl (by kernel_rfl) (by kernel_rfl) (by kernel_rfl) (by kernel_rfl) (fun _ _ _ h => h) (SteadyB.of_yields (Or.inl ⟨by rfl, ?_⟩)) ?_
      rotate_left
      · intro wq hSw
        obtain ⟨m0, m1, m2, m3, m4⟩ := Mu.at N hSw.1.2.1
        obtain ⟨r0, r1, r2⟩ := P3.at P hSw.1.2.2
        obtain ⟨b9, o9, hA9, _, hc9⟩ := (HR.out.below hSw.2).2 K HK.out
        injection hA9 with hA9
        injection hA9 with hA9 hA8
        subst hA9 hA8
        obtain ⟨p0, p1, p2⟩ := hc9 K HK.out
        rw [HYE.out] at p0 p1 p2
        clear hc9
        go_simp
        (try with_reducible rfl)
      try simp only [List.getElem_toArray, List.getElem_cons_zero, List.getElem_cons_succ, Act.put, List.setIfInBounds_toArray, List.set_cons_zero, List.set_cons_succ]
      refine wpAnyE_take (i := 7) (v := (.tuple #[pv q, .bool true])) (((fun _ _ h hb => ⟨⟨h.1.1.below hb, h.1.2.1.below hb, h.1.2.2.below hb⟩, below_on h.2 hb⟩) : Stays (fun wx => (Cs wx gm M.cells ∧ Cs wx gn N.cells ∧ Cs wx gp (pcells P)) ∧ Below w.heap.size w wx))) (fun _ h => h) rfl (by kernel_rfl) (by kernel_rfl) (by kernel_rfl) (by kernel_rfl) (fun _ _ _ h => h) (Or.inl ⟨by rfl, fun wq hSw => ?_⟩) ?_
      · refine RunB.of_calls (HWC2.out wq) (by go_simp) ?_
        rintro e wr ⟨rfl, hb⟩
        exact ⟨rfl, hb⟩
      try simp only [List.getElem_toArray, List.getElem_cons_zero, List.getElem_cons_succ, Act.put, List.setIfInBounds_toArray, List.set_cons_zero, List.set_cons_succ]
      refine wpAnyE_take (i := 8) (v := ?_) (((fun _ _ h hb => ⟨⟨h.1.1.below hb, h.1.2.1.below hb, h.1.2.2.below hb⟩, below_on h.2 hb⟩) : Stays (fun wx => (Cs wx gm M.cells ∧ Cs wx gn N.cells ∧ Cs wx gp (pcells P)) ∧ Below w.heap.size w wx))) (fun _ h => h) rfl (by kernel_rfl) (by kernel_rfl) (by kernel_rfl) (by kernel_rfl) (fun _ _ _ h => h) (SteadyB.of_yields (Or.inl ⟨by rfl, ?_⟩)) ?_
      rotate_left
      · intro wq hSw
        go_simp
        (try with_reducible rfl)
      try simp only [List.getElem_toArray, List.getElem_cons_zero, List.getElem_cons_succ, Act.put, List.setIfInBounds_toArray, List.set_cons_zero, List.set_cons_succ]
      refine wpAnyE_take (i := 9) (v := ?_) (((fun _ _ h hb => ⟨⟨h.1.1.below hb, h.1.2.1.below hb, h.1.2.2.below hb⟩, below_on h.2 hb⟩) : Stays (fun wx => (Cs wx gm M.cells ∧ Cs wx gn N.cells ∧ Cs wx gp (pcells P)) ∧ Below w.heap.size w wx))) (fun _ h => h) rfl (by kernel_rfl) (by kernel_rfl) (by kernel_rfl) (by kernel_rfl) (fun _ _ _ h => h) (SteadyB.of_yields (Or.inl ⟨by rfl, ?_⟩)) ?_
      rotate_left
      · intro wq hSw
        go_simp
        (try with_reducible rfl)
      try simp only [List.getElem_toArray, List.getElem_cons_zero, List.getElem_cons_succ, Act.put, List.setIfInBounds_toArray, List.set_cons_zero, List.set_cons_succ]
      refine wpAnyE_take (i := 10) (v := ?_) (((fun _ _ h hb => ⟨⟨h.1.1.below hb, h.1.2.1.below hb, h.1.2.2.below hb⟩, below_on h.2 hb⟩) : Stays (fun wx => (Cs wx gm M.cells ∧ Cs wx gn N.cells ∧ Cs wx gp (pcells P)) ∧ Below w.heap.size w wx))) (fun _ h => h) rfl (by kernel_rfl) (by kernel_rfl) (by kernel_rfl) (by kernel_rfl) (fun _ _ _ h => h) (SteadyB.of_yields (Or.inl ⟨by rfl, ?_⟩)) ?_
      rotate_left
      · intro wq hSw
        go_simp
        (try with_reducible rfl)
      try simp only [List.getElem_toArray, List.getElem_cons_zero, List.getElem_cons_succ, Act.put, List.setIfInBounds_toArray, List.set_cons_zero, List.set_cons_succ]
      refine wpAnyE_alloc (i := 11) (fun wx g9 => Cs wx g9 [.int .u64 0, .int .u32 0, .int .u32 0] ∧ gm < g9 ∧ gn < g9 ∧ gp < g9 ∧ w.heap.size ≤ g9) rfl (by kernel_rfl) (by decide) (by rfl) (((fun _ _ h hb => ⟨⟨h.1.1.below hb, h.1.2.1.below hb, h.1.2.2.below hb⟩, below_on h.2 hb⟩) : Stays (fun wx => (Cs wx gm M.cells ∧ Cs wx gn N.cells ∧ Cs wx gp (pcells P)) ∧ Below w.heap.size w wx))) (fun _ h => h) (fun g9 => (fun _ _ h hb => ⟨h.1.below hb, h.2⟩)) (fun wq hSw => ?_) (fun gA => ?_)
      · exact ⟨_, by go_simp; (try with_reducible rfl), (Below.refl _ _).alloc (Nat.le_refl _) _, Cs.alloc_new6 _ _ [.int .u64 0, .int .u32 0, .int .u32 0], hSw.1.1.lt, hSw.1.2.1.lt, hSw.1.2.2.lt, hSw.2.size⟩
      try simp only [List.getElem_toArray, List.getElem_cons_zero, List.getElem_cons_succ, Act.put, List.setIfInBounds_toArray, List.set_cons_zero, List.set_cons_succ]
      refine wpAnyE_store (i := 12) (fun wx => (fun wx => (Cs wx gm M.cells ∧ Cs wx gn N.cells ∧ Cs wx gp (pcells P)) ∧ Below w.heap.size w wx) wx ∧ Cs wx gA [.int .u64 q.1, .int .u32 q.2.1, .int .u32 q.2.2]) 29 [.int .u64 q.1, .int .u32 q.2.1, .int .u32 q.2.2] [.int .u64 0, .int .u32 0, .int .u32 0] gA infoPos (.tmp 19) (.tmp 114) rfl rfl (by kernel_rfl) (by decide) (by rfl) ?st12_5a ?st12_5b ?st12_5c ?st12_5d ?st12_5e (fun _ h => h.2.1) (fun _ h => ⟨⟨⟨h.1.1.1.fars (by have := h.2.2; omega) _ _, h.1.1.2.1.fars (by have := h.2.2; omega) _ _, h.1.1.2.2.fars (by have := h.2.2; omega) _ _⟩, below_sets (by have := h.2.2; omega) _ _ h.1.2⟩, Cs.putL _ 0 h.2.1 (by simp)⟩) (fun _ h => h.1) (Stays.and_ ((fun _ _ h hb => ⟨⟨h.1.1.below hb, h.1.2.1.below hb, h.1.2.2.below hb⟩, below_on h.2 hb⟩) : Stays (fun wx => (Cs wx gm M.cells ∧ Cs wx gn N.cells ∧ Cs wx gp (pcells P)) ∧ Below w.heap.size w wx)) (fun _ _ h hb => h.below hb)) ?st12_5f
      case st12_5a => rfl
      case st12_5b => rfl
      case st12_5c => rfl
      case st12_5d => rfl
      case st12_5e => rfl
      try simp only [List.getElem_toArray, List.getElem_cons_zero, List.getElem_cons_succ, Act.put, List.setIfInBounds_toArray, List.set_cons_zero, List.set_cons_succ]
      refine wpAnyE_take (i := 13) (v := ?_) (Stays.and_ ((fun _ _ h hb => ⟨⟨h.1.1.below hb, h.1.2.1.below hb, h.1.2.2.below hb⟩, below_on h.2 hb⟩) : Stays (fun wx => (Cs wx gm M.cells ∧ Cs wx gn N.cells ∧ Cs wx gp (pcells P)) ∧ Below w.heap.size w wx)) (fun _ _ h hb => h.below hb)) (fun _ h => h.1) rfl (by kernel_rfl) (by kernel_rfl) (by kernel_rfl) (by kernel_rfl) (fun _ _ _ h => h) (SteadyB.of_yields (Or.inl ⟨by rfl, ?_⟩)) ?_
      rotate_left
      · intro wq hSw
        go_simp
        (try with_reducible rfl)
      try simp only [List.getElem_toArray, List.getElem_cons_zero, List.getElem_cons_succ, Act.put, List.setIfInBounds_toArray, List.set_cons_zero, List.set_cons_succ]
      refine wpAnyE_done (by kernel_rfl) (fun wz hSz => ?_) _
      have HG7 : Hid ((Cs wz gm M.cells ∧ Cs wz gn N.cells ∧ Cs wz gp (pcells P) ∧ Cs wz gA (pcells q)) ∧ Below w.heap.size w wz) := hid ⟨⟨hSz.1.1.1, hSz.1.1.2.1, hSz.1.1.2.2, hSz.2⟩, hSz.1.2⟩
      clear hSz HG6 HWC2
      generalize gA = gq at HG7 ⊢
      obtain ⟨m0, m1, m2, m3, m4⟩ := Mu.at N HG7.out.1.2.1
      obtain ⟨r0, r1, r2⟩ := P3.at P HG7.out.1.2.2.1
      obtain ⟨q0, q1, q2⟩ := P3.at q HG7.out.1.2.2.2
      go_wp2_with fail
      refine (Weigh.shifted N P q HI2.out HWE.out.2.1.2 HWE2.out.2.1.2 _).mono ?_
      rw [HSW2.out]
      rintro e w8 ⟨rfl, hb⟩
      have ha := (Below.refl w8.heap.size w8).alloc (Nat.le_refl _) (.cells #[.int .u64 O.b, .int .i64 (hiW O.a), .int .u64 (loW O.a), .int .u64 O.w, .int .i64 O.n] 36)
      have HG8 : Hid (((Cs (w8.alloc (.cells #[.int .u64 O.b, .int .i64 (hiW O.a), .int .u64 (loW O.a), .int .u64 O.w, .int .i64 O.n] 36)) gm M.cells ∧ Cs (w8.alloc (.cells #[.int .u64 O.b, .int .i64 (hiW O.a), .int .u64 (loW O.a), .int .u64 O.w, .int .i64 O.n] 36)) w8.heap.size O.cells) ∧ Cs (w8.alloc (.cells #[.int .u64 O.b, .int .i64 (hiW O.a), .int .u64 (loW O.a), .int .u64 O.w, .int .i64 O.n] 36)) gq (pcells q)) ∧ Below w.heap.size w (w8.alloc (.cells #[.int .u64 O.b, .int .i64 (hiW O.a), .int .u64 (loW O.a), .int .u64 O.w, .int .i64 O.n] 36))) := hid ⟨⟨⟨(HG7.out.1.1.below hb).below ha, Cs.alloc_new6 w8 36 O.cells⟩, (HG7.out.1.2.2.2.below hb).below ha⟩, below_on (below_on HG7.out.2 hb) ha⟩
      clear hb ha HG7 m0 m1 m2 m3 m4 r0 r1 r2 q0 q1 q2
      go_wp2_with fail
      generalize w8.alloc (.cells #[.int .u64 O.b, .int .i64 (hiW O.a), .int .u64 (loW O.a), .int .u64 O.w, .int .i64 O.n] 36) = W8 at HG8 ⊢
      generalize w8.heap.size = gn2 at HG8 ⊢
      refine wp_region_grow (S := fun wx => ((Cs wx gm M.cells ∧ Cs wx gn2 O.cells) ∧ Cs wx gq (pcells q)) ∧ Below w.heap.size w wx) 28 (by kernel_rfl) (((fun _ _ h hb => ⟨⟨⟨h.1.1.1.below hb, h.1.1.2.below hb⟩, h.1.2.below hb⟩, below_on h.2 hb⟩) : Stays (fun wx => ((Cs wx gm M.cells ∧ Cs wx gn2 O.cells) ∧ Cs wx gq (pcells q)) ∧ Below w.heap.size w wx)) _ _ HG8.out (Below.refl _ _).drew) ?_
      refine wpAnyE_take (i := 0) (v := ?_) (((fun _ _ h hb => ⟨⟨⟨h.1.1.1.below hb, h.1.1.2.below hb⟩, h.1.2.below hb⟩, below_on h.2 hb⟩) : Stays (fun wx => ((Cs wx gm M.cells ∧ Cs wx gn2 O.cells) ∧ Cs wx gq (pcells q)) ∧ Below w.heap.size w wx))) (fun _ h => h) rfl (by kernel_rfl) (by kernel_rfl) (by kernel_rfl) (by kernel_rfl) (fun _ _ _ h => h) (SteadyB.of_yields (Or.inl ⟨by rfl, ?_⟩)) ?_
      rotate_left
      · intro wq hSw
        go_simp
        (try with_reducible rfl)
      try simp only [List.getElem_toArray, List.getElem_cons_zero, List.getElem_cons_succ, Act.put, List.setIfInBounds_toArray, List.set_cons_zero, List.set_cons_succ]
      refine wpAnyE_take (i := 1) (v := ?_) (((fun _ _ h hb => ⟨⟨⟨h.1.1.1.below hb, h.1.1.2.below hb⟩, h.1.2.below hb⟩, below_on h.2 hb⟩) : Stays (fun wx => ((Cs wx gm M.cells ∧ Cs wx gn2 O.cells) ∧ Cs wx gq (pcells q)) ∧ Below w.heap.size w wx))) (fun _ h => h) rfl (by kernel_rfl) (by kernel_rfl) (by kernel_rfl) (by kernel_rfl) (fun _ _ _ h => h) (SteadyB.of_yields (Or.inl ⟨by rfl, ?_⟩)) ?_
      rotate_left
      · intro wq hSw
        go_simp
        (try with_reducible rfl)
      try simp only [List.getElem_toArray, List.getElem_cons_zero, List.getElem_cons_succ, Act.put, List.setIfInBounds_toArray, List.set_cons_zero, List.set_cons_succ]
      refine wpAnyE_take (i := 2) (v := ?_) (((fun _ _ h hb => ⟨⟨⟨h.1.1.1.below hb, h.1.1.2.below hb⟩, h.1.2.below hb⟩, below_on h.2 hb⟩) : Stays (fun wx => ((Cs wx gm M.cells ∧ Cs wx gn2 O.cells) ∧ Cs wx gq (pcells q)) ∧ Below w.heap.size w wx))) (fun _ h => h) rfl (by kernel_rfl) (by kernel_rfl) (by kernel_rfl) (by kernel_rfl) (fun _ _ _ h => h) (SteadyB.of_yields (Or.inl ⟨by rfl, ?_⟩)) ?_
      rotate_left
      · intro wq hSw
        go_simp
        (try with_reducible rfl)
      try simp only [List.getElem_toArray, List.getElem_cons_zero, List.getElem_cons_succ, Act.put, List.setIfInBounds_toArray, List.set_cons_zero, List.set_cons_succ]
      refine wpAnyE_take (i := 3) (v := ?_) (((fun _ _ h hb => ⟨⟨⟨h.1.1.1.below hb, h.1.1.2.below hb⟩, h.1.2.below hb⟩, below_on h.2 hb⟩) : Stays (fun wx => ((Cs wx gm M.cells ∧ Cs wx gn2 O.cells) ∧ Cs wx gq (pcells q)) ∧ Below w.heap.size w wx))) (fun _ h => h) rfl (by kernel_rfl) (by kernel_rfl) (by kernel_rfl) (by kernel_rfl) (fun _ _ _ h => h) (SteadyB.of_yields (Or.inl ⟨by rfl, ?_⟩)) ?_
      rotate_left
      · intro wq hSw
        go_simp
        (try with_reducible rfl)
      try simp only [List.getElem_toArray, List.getElem_cons_zero, List.getElem_cons_succ, Act.put, List.setIfInBounds_toArray, List.set_cons_zero, List.set_cons_succ]
      refine wpAnyE_take (i := 4) (v := ?_) (((fun _ _ h hb => ⟨⟨⟨h.1.1.1.below hb, h.1.1.2.below hb⟩, h.1.2.below hb⟩, below_on h.2 hb⟩) : Stays (fun wx => ((Cs wx gm M.cells ∧ Cs wx gn2 O.cells) ∧ Cs wx gq (pcells q)) ∧ Below w.heap.size w wx))) (fun _ h => h) rfl (by kernel_rfl) (by kernel_rfl) (by kernel_rfl) (by kernel_rfl) (fun _ _ _ h => h) (SteadyB.of_yields (Or.inl ⟨by rfl, ?_⟩)) ?_
      rotate_left
      · intro wq hSw
        go_simp
        (try with_reducible rfl)
      try simp only [List.getElem_toArray, List.getElem_cons_zero, List.getElem_cons_succ, Act.put, List.setIfInBounds_toArray, List.set_cons_zero, List.set_cons_succ]
      refine wpAnyE_take (i := 5) (v := ?_) (((fun _ _ h hb => ⟨⟨⟨h.1.1.1.below hb, h.1.1.2.below hb⟩, h.1.2.below hb⟩, below_on h.2 hb⟩) : Stays (fun wx => ((Cs wx gm M.cells ∧ Cs wx gn2 O.cells) ∧ Cs wx gq (pcells q)) ∧ Below w.heap.size w wx))) (fun _ h => h) rfl (by kernel_rfl) (by kernel_rfl) (by kernel_rfl) (by kernel_rfl) (fun _ _ _ h => h) (SteadyB.of_yields (Or.inl ⟨by rfl, ?_⟩)) ?_
      rotate_left
      · intro wq hSw
        go_simp
        (try with_reducible rfl)
      try simp only [List.getElem_toArray, List.getElem_cons_zero, List.getElem_cons_succ, Act.put, List.setIfInBounds_toArray, List.set_cons_zero, List.set_cons_succ]
      refine wpAnyE_take (i := 6) (v := ?_) (((fun _ _ h hb => ⟨⟨⟨h.1.1.1.below hb, h.1.1.2.below hb⟩, h.1.2.below hb⟩, below_on h.2 hb⟩) : Stays (fun wx => ((Cs wx gm M.cells ∧ Cs wx gn2 O.cells) ∧ Cs wx gq (pcells q)) ∧ Below w.heap.size w wx))) (fun _ h => h) rfl (by kernel_rfl) (by kernel_rfl) (by kernel_rfl) (by kernel_rfl) (fun _ _ _ h => h) (SteadyB.of_yields (Or.inl ⟨by rfl, ?_⟩)) ?_
      rotate_left
      · intro wq hSw
        go_simp
        (try with_reducible rfl)
      try simp only [List.getElem_toArray, List.getElem_cons_zero, List.getElem_cons_succ, Act.put, List.setIfInBounds_toArray, List.set_cons_zero, List.set_cons_succ]
      refine wpAnyE_take (i := 7) (v := ?_) (((fun _ _ h hb => ⟨⟨⟨h.1.1.1.below hb, h.1.1.2.below hb⟩, h.1.2.below hb⟩, below_on h.2 hb⟩) : Stays (fun wx => ((Cs wx gm M.cells ∧ Cs wx gn2 O.cells) ∧ Cs wx gq (pcells q)) ∧ Below w.heap.size w wx))) (fun _ h => h) rfl (by kernel_rfl) (by kernel_rfl) (by kernel_rfl) (by kernel_rfl) (fun _ _ _ h => h) (SteadyB.of_yields (Or.inl ⟨by rfl, ?_⟩)) ?_
      rotate_left
      · intro wq hSw
        go_simp
        (try with_reducible rfl)
      try simp only [List.getElem_toArray, List.getElem_cons_zero, List.getElem_cons_succ, Act.put, List.setIfInBounds_toArray, List.set_cons_zero, List.set_cons_succ]
      refine wpAnyE_take (i := 8) (v := ?_) (((fun _ _ h hb => ⟨⟨⟨h.1.1.1.below hb, h.1.1.2.below hb⟩, h.1.2.below hb⟩, below_on h.2 hb⟩) : Stays (fun wx => ((Cs wx gm M.cells ∧ Cs wx gn2 O.cells) ∧ Cs wx gq (pcells q)) ∧ Below w.heap.size w wx))) (fun _ h => h) rfl (by kernel_rfl) (by kernel_rfl) (by kernel_rfl) (by kernel_rfl) (fun _ _ _ h => h) (SteadyB.of_yields (Or.inl ⟨by rfl, ?_⟩)) ?_
      rotate_left
      · intro wq hSw
        go_simp
        (try with_reducible rfl)
      try simp only [List.getElem_toArray, List.getElem_cons_zero, List.getElem_cons_succ, Act.put, List.setIfInBounds_toArray, List.set_cons_zero, List.set_cons_succ]
      refine wpAnyE_take (i := 9) (v := ?_) (((fun _ _ h hb => ⟨⟨⟨h.1.1.1.below hb, h.1.1.2.below hb⟩, h.1.2.below hb⟩, below_on h.2 hb⟩) : Stays (fun wx => ((Cs wx gm M.cells ∧ Cs wx gn2 O.cells) ∧ Cs wx gq (pcells q)) ∧ Below w.heap.size w wx))) (fun _ h => h) rfl (by kernel_rfl) (by kernel_rfl) (by kernel_rfl) (by kernel_rfl) (fun _ _ _ h => h) (SteadyB.of_yields (Or.inl ⟨by rfl, ?_⟩)) ?_
      rotate_left
      · intro wq hSw
        go_simp
        (try with_reducible rfl)
      try simp only [List.getElem_toArray, List.getElem_cons_zero, List.getElem_cons_succ, Act.put, List.setIfInBounds_toArray, List.set_cons_zero, List.set_cons_succ]
      refine wpAnyE_take (i := 10) (v := ?_) (((fun _ _ h hb => ⟨⟨⟨h.1.1.1.below hb, h.1.1.2.below hb⟩, h.1.2.below hb⟩, below_on h.2 hb⟩) : Stays (fun wx => ((Cs wx gm M.cells ∧ Cs wx gn2 O.cells) ∧ Cs wx gq (pcells q)) ∧ Below w.heap.size w wx))) (fun _ h => h) rfl (by kernel_rfl) (by kernel_rfl) (by kernel_rfl) (by kernel_rfl) (fun _ _ _ h => h) (SteadyB.of_yields (Or.inl ⟨by rfl, ?_⟩)) ?_
      rotate_left
      · intro wq hSw
        go_simp
        (try with_reducible rfl)
      try simp only [List.getElem_toArray, List.getElem_cons_zero, List.getElem_cons_succ, Act.put, List.setIfInBounds_toArray, List.set_cons_zero, List.set_cons_succ]
      refine wpAnyE_take (i := 11) (v := ?_) (((fun _ _ h hb => ⟨⟨⟨h.1.1.1.below hb, h.1.1.2.below hb⟩, h.1.2.below hb⟩, below_on h.2 hb⟩) : Stays (fun wx => ((Cs wx gm M.cells ∧ Cs wx gn2 O.cells) ∧ Cs wx gq (pcells q)) ∧ Below w.heap.size w wx))) (fun _ h => h) rfl (by kernel_rfl) (by kernel_rfl) (by kernel_rfl) (by kernel_rfl) (fun _ _ _ h => h) (SteadyB.of_yields (Or.inl ⟨by rfl, ?_⟩)) ?_
      rotate_left
      · intro wq hSw
        go_simp
        (try with_reducible rfl)
      try simp only [List.getElem_toArray, List.getElem_cons_zero, List.getElem_cons_succ, Act.put, List.setIfInBounds_toArray, List.set_cons_zero, List.set_cons_succ]
      refine wpAnyE_take (i := 12) (v := ?_) (((fun _ _ h hb => ⟨⟨⟨h.1.1.1.below hb, h.1.1.2.below hb⟩, h.1.2.below hb⟩, below_on h.2 hb⟩) : Stays (fun wx => ((Cs wx gm M.cells ∧ Cs wx gn2 O.cells) ∧ Cs wx gq (pcells q)) ∧ Below w.heap.size w wx))) (fun _ h => h) rfl (by kernel_rfl) (by kernel_rfl) (by kernel_rfl) (by kernel_rfl) (fun _ _ _ h => h) (SteadyB.of_yields (Or.inl ⟨by rfl, ?_⟩)) ?_
      rotate_left
      · intro wq hSw
        go_simp
        (try with_reducible rfl)
      try simp only [List.getElem_toArray, List.getElem_cons_zero, List.getElem_cons_succ, Act.put, List.setIfInBounds_toArray, List.set_cons_zero, List.set_cons_succ]
      refine wpAnyE_take (i := 13) (v := ?_) (((fun _ _ h hb => ⟨⟨⟨h.1.1.1.below hb, h.1.1.2.below hb⟩, h.1.2.below hb⟩, below_on h.2 hb⟩) : Stays (fun wx => ((Cs wx gm M.cells ∧ Cs wx gn2 O.cells) ∧ Cs wx gq (pcells q)) ∧ Below w.heap.size w wx))) (fun _ h => h) rfl (by kernel_rfl) (by kernel_rfl) (by kernel_rfl) (by kernel_rfl) (fun _ _ _ h => h) (SteadyB.of_yields (Or.inl ⟨by rfl, ?_⟩)) ?_
      rotate_left
      · intro wq hSw
        go_simp
        (try with_reducible rfl)
      try simp only [List.getElem_toArray, List.getElem_cons_zero, List.getElem_cons_succ, Act.put, List.setIfInBounds_toArray, List.set_cons_zero, List.set_cons_succ]
      refine wpAnyE_take (i := 14) (v := ?_) (((fun _ _ h hb => ⟨⟨⟨h.1.1.1.below hb, h.1.1.2.below hb⟩, h.1.2.below hb⟩, below_on h.2 hb⟩) : Stays (fun wx => ((Cs wx gm M.cells ∧ Cs wx gn2 O.cells) ∧ Cs wx gq (pcells q)) ∧ Below w.heap.size w wx))) (fun _ h => h) rfl (by kernel_rfl) (by kernel_rfl) (by kernel_rfl) (by kernel_rfl) (fun _ _ _ h => h) (SteadyB.of_yields (Or.inl ⟨by rfl, ?_⟩)) ?_
      rotate_left
      · intro wq hSw
        go_simp
        (try with_reducible rfl)
      try simp only [List.getElem_toArray, List.getElem_cons_zero, List.getElem_cons_succ, Act.put, List.setIfInBounds_toArray, List.set_cons_zero, List.set_cons_succ]
      refine wpAnyE_take (i := 15) (v := ?_) (((fun _ _ h hb => ⟨⟨⟨h.1.1.1.below hb, h.1.1.2.below hb⟩, h.1.2.below hb⟩, below_on h.2 hb⟩) : Stays (fun wx => ((Cs wx gm M.cells ∧ Cs wx gn2 O.cells) ∧ Cs wx gq (pcells q)) ∧ Below w.heap.size w wx))) (fun _ h => h) rfl (by kernel_rfl) (by kernel_rfl) (by kernel_rfl) (by kernel_rfl) (fun _ _ _ h => h) (SteadyB.of_yields (Or.inl ⟨by rfl, ?_⟩)) ?_
      rotate_left
      · intro wq hSw
        go_simp
        (try with_reducible rfl)
      try simp only [List.getElem_toArray, List.getElem_cons_zero, List.getElem_cons_succ, Act.put, List.setIfInBounds_toArray, List.set_cons_zero, List.set_cons_succ]
      refine wpAnyE_take (i := 16) (v := ?_) (((fun _ _ h hb => ⟨⟨⟨h.1.1.1.below hb, h.1.1.2.below hb⟩, h.1.2.below hb⟩, below_on h.2 hb⟩) : Stays (fun wx => ((Cs wx gm M.cells ∧ Cs wx gn2 O.cells) ∧ Cs wx gq (pcells q)) ∧ Below w.heap.size w wx))) (fun _ h => h) rfl (by kernel_rfl) (by kernel_rfl) (by kernel_rfl) (by kernel_rfl) (fun _ _ _ h => h) (SteadyB.of_yields (Or.inl ⟨by rfl, ?_⟩)) ?_
      rotate_left
      · intro wq hSw
        go_simp
        (try with_reducible rfl)
      try simp only [List.getElem_toArray, List.getElem_cons_zero, List.getElem_cons_succ, Act.put, List.setIfInBounds_toArray, List.set_cons_zero, List.set_cons_succ]
      refine wpAnyE_take (i := 17) (v := ?_) (((fun _ _ h hb => ⟨⟨⟨h.1.1.1.below hb, h.1.1.2.below hb⟩, h.1.2.below hb⟩, below_on h.2 hb⟩) : Stays (fun wx => ((Cs wx gm M.cells ∧ Cs wx gn2 O.cells) ∧ Cs wx gq (pcells q)) ∧ Below w.heap.size w wx))) (fun _ h => h) rfl (by kernel_rfl) (by kernel_rfl) (by kernel_rfl) (by kernel_rfl) (fun _ _ _ h => h) (SteadyB.of_yields (Or.inl ⟨by rfl, ?_⟩)) ?_
      rotate_left
      · intro wq hSw
        go_simp
        (try with_reducible rfl)
      try simp only [List.getElem_toArray, List.getElem_cons_zero, List.getElem_cons_succ, Act.put, List.setIfInBounds_toArray, List.set_cons_zero, List.set_cons_succ]
      refine wpAnyE_take (i := 18) (v := ?_) (((fun _ _ h hb => ⟨⟨⟨h.1.1.1.below hb, h.1.1.2.below hb⟩, h.1.2.below hb⟩, below_on h.2 hb⟩) : Stays (fun wx => ((Cs wx gm M.cells ∧ Cs wx gn2 O.cells) ∧ Cs wx gq (pcells q)) ∧ Below w.heap.size w wx))) (fun _ h => h) rfl (by kernel_rfl) (by kernel_rfl) (by kernel_rfl) (by kernel_rfl) (fun _ _ _ h => h) (SteadyB.of_yields (Or.inl ⟨by rfl, ?_⟩)) ?_
      rotate_left
      · intro wq hSw
        go_simp
        (try with_reducible rfl)
      try simp only [List.getElem_toArray, List.getElem_cons_zero, List.getElem_cons_succ, Act.put, List.setIfInBounds_toArray, List.set_cons_zero, List.set_cons_succ]
      refine wpAnyE_take (i := 19) (v := ?_) (((fun _ _ h hb => ⟨⟨⟨h.1.1.1.below hb, h.1.1.2.below hb⟩, h.1.2.below hb⟩, below_on h.2 hb⟩) : Stays (fun wx => ((Cs wx gm M.cells ∧ Cs wx gn2 O.cells) ∧ Cs wx gq (pcells q)) ∧ Below w.heap.size w wx))) (fun _ h => h) rfl (by kernel_rfl) (by kernel_rfl) (by kernel_rfl) (by kernel_rfl) (fun _ _ _ h => h) (SteadyB.of_yields (Or.inl ⟨by rfl, ?_⟩)) ?_
      rotate_left
      · intro wq hSw
        go_simp
        (try with_reducible rfl)
      try simp only [List.getElem_toArray, List.getElem_cons_zero, List.getElem_cons_succ, Act.put, List.setIfInBounds_toArray, List.set_cons_zero, List.set_cons_succ]
      refine wpAnyE_take (i := 20) (v := ?_) (((fun _ _ h hb => ⟨⟨⟨h.1.1.1.below hb, h.1.1.2.below hb⟩, h.1.2.below hb⟩, below_on h.2 hb⟩) : Stays (fun wx => ((Cs wx gm M.cells ∧ Cs wx gn2 O.cells) ∧ Cs wx gq (pcells q)) ∧ Below w.heap.size w wx))) (fun _ h => h) rfl (by kernel_rfl) (by kernel_rfl) (by kernel_rfl) (by kernel_rfl) (fun _ _ _ h => h) (SteadyB.of_yields (Or.inl ⟨by rfl, ?_⟩)) ?_
      rotate_left
      · intro wq hSw
        obtain ⟨q0, q1, q2⟩ := P3.at q hSw.1.2
        rw [HQW.out] at q2
        obtain ⟨b9, o9, hA9, _, hc9⟩ := (HR.out.below hSw.2).2 K HK.out
        injection hA9 with hA9
        injection hA9 with hA9 hA8
        subst hA9 hA8
        obtain ⟨p0, p1, p2⟩ := hc9 K HK.out
        rw [HYE.out] at p0 p1 p2
        clear hc9
        go_simp
        (try with_reducible rfl)
      try simp only [List.getElem_toArray, List.getElem_cons_zero, List.getElem_cons_succ, Act.put, List.setIfInBounds_toArray, List.set_cons_zero, List.set_cons_succ]
      refine wpAnyE_take (i := 21) (v := ?_) (((fun _ _ h hb => ⟨⟨⟨h.1.1.1.below hb, h.1.1.2.below hb⟩, h.1.2.below hb⟩, below_on h.2 hb⟩) : Stays (fun wx => ((Cs wx gm M.cells ∧ Cs wx gn2 O.cells) ∧ Cs wx gq (pcells q)) ∧ Below w.heap.size w wx))) (fun _ h => h) rfl (by kernel_rfl) (by kernel_rfl) (by kernel_rfl) (by kernel_rfl) (fun _ _ _ h => h) (SteadyB.of_yields (Or.inl ⟨by rfl, ?_⟩)) ?_
      rotate_left
      · intro wq hSw
        go_simp
        (try with_reducible rfl)
      try simp only [List.getElem_toArray, List.getElem_cons_zero, List.getElem_cons_succ, Act.put, List.setIfInBounds_toArray, List.set_cons_zero, List.set_cons_succ]
      refine wpAnyE_take (i := 22) (v := ?_) (((fun _ _ h hb => ⟨⟨⟨h.1.1.1.below hb, h.1.1.2.below hb⟩, h.1.2.below hb⟩, below_on h.2 hb⟩) : Stays (fun wx => ((Cs wx gm M.cells ∧ Cs wx gn2 O.cells) ∧ Cs wx gq (pcells q)) ∧ Below w.heap.size w wx))) (fun _ h => h) rfl (by kernel_rfl) (by kernel_rfl) (by kernel_rfl) (by kernel_rfl) (fun _ _ _ h => h) (SteadyB.of_yields (Or.inl ⟨by rfl, ?_⟩)) ?_
      rotate_left
      · intro wq hSw
        go_simp
        (try with_reducible rfl)
      try simp only [List.getElem_toArray, List.getElem_cons_zero, List.getElem_cons_succ, Act.put, List.setIfInBounds_toArray, List.set_cons_zero, List.set_cons_succ]
      refine wpAnyE_take (i := 23) (v := ?_) (((fun _ _ h hb => ⟨⟨⟨h.1.1.1.below hb, h.1.1.2.below hb⟩, h.1.2.below hb⟩, below_on h.2 hb⟩) : Stays (fun wx => ((Cs wx gm M.cells ∧ Cs wx gn2 O.cells) ∧ Cs wx gq (pcells q)) ∧ Below w.heap.size w wx))) (fun _ h => h) rfl (by kernel_rfl) (by kernel_rfl) (by kernel_rfl) (by kernel_rfl) (fun _ _ _ h => h) (SteadyB.of_yields (Or.inl ⟨by rfl, ?_⟩)) ?_
      rotate_left
      · intro wq hSw
        go_simp
        (try with_reducible rfl)
      try simp only [List.getElem_toArray, List.getElem_cons_zero, List.getElem_cons_succ, Act.put, List.setIfInBounds_toArray, List.set_cons_zero, List.set_cons_succ]
      refine wpAnyE_take (i := 24) (v := ?_) (((fun _ _ h hb => ⟨⟨⟨h.1.1.1.below hb, h.1.1.2.below hb⟩, h.1.2.below hb⟩, below_on h.2 hb⟩) : Stays (fun wx => ((Cs wx gm M.cells ∧ Cs wx gn2 O.cells) ∧ Cs wx gq (pcells q)) ∧ Below w.heap.size w wx))) (fun _ h => h) rfl (by kernel_rfl) (by kernel_rfl) (by kernel_rfl) (by kernel_rfl) (fun _ _ _ h => h) (SteadyB.of_yields (Or.inl ⟨by rfl, ?_⟩)) ?_
      rotate_left
      · intro wq hSw
        go_simp
        (try with_reducible rfl)
      try simp only [List.getElem_toArray, List.getElem_cons_zero, List.getElem_cons_succ, Act.put, List.setIfInBounds_toArray, List.set_cons_zero, List.set_cons_succ]
      refine wpAnyE_take (i := 25) (v := ?_) (((fun _ _ h hb => ⟨⟨⟨h.1.1.1.below hb, h.1.1.2.below hb⟩, h.1.2.below hb⟩, below_on h.2 hb⟩) : Stays (fun wx => ((Cs wx gm M.cells ∧ Cs wx gn2 O.cells) ∧ Cs wx gq (pcells q)) ∧ Below w.heap.size w wx))) (fun _ h => h) rfl (by kernel_rfl) (by kernel_rfl) (by kernel_rfl) (by kernel_rfl) (fun _ _ _ h => h) (SteadyB.of_yields (Or.inl ⟨by rfl, ?_⟩)) ?_
      rotate_left
      · intro wq hSw
        obtain ⟨q0, q1, q2⟩ := P3.at q hSw.1.2
        rw [HQW.out] at q2
        obtain ⟨b9, o9, hA9, _, hc9⟩ := (HR.out.below hSw.2).2 K HK.out
        injection hA9 with hA9
        injection hA9 with hA9 hA8
        subst hA9 hA8
        obtain ⟨p0, p1, p2⟩ := hc9 K HK.out
        rw [HYE.out] at p0 p1 p2
        clear hc9
        go_simp
        (try with_reducible rfl)
      try simp only [List.getElem_toArray, List.getElem_cons_zero, List.getElem_cons_succ, Act.put, List.setIfInBounds_toArray, List.set_cons_zero, List.set_cons_succ]
      refine wpAnyE_take (i := 26) (v := ?_) (((fun _ _ h hb => ⟨⟨⟨h.1.1.1.below hb, h.1.1.2.below hb⟩, h.1.2.below hb⟩, below_on h.2 hb⟩) : Stays (fun wx => ((Cs wx gm M.cells ∧ Cs wx gn2 O.cells) ∧ Cs wx gq (pcells q)) ∧ Below w.heap.size w wx))) (fun _ h => h) rfl (by kernel_rfl) (by kernel_rfl) (by kernel_rfl) (by kernel_rfl) (fun _ _ _ h => h) (SteadyB.of_yields (Or.inl ⟨by rfl, ?_⟩)) ?_
      rotate_left
      · intro wq hSw
        go_simp
        (try with_reducible rfl)
      try simp only [List.getElem_toArray, List.getElem_cons_zero, List.getElem_cons_succ, Act.put, List.setIfInBounds_toArray, List.set_cons_zero, List.set_cons_succ]
      refine wpAnyE_take (i := 27) (v := ?_) (((fun _ _ h hb => ⟨⟨⟨h.1.1.1.below hb, h.1.1.2.below hb⟩, h.1.2.below hb⟩, below_on h.2 hb⟩) : Stays (fun wx => ((Cs wx gm M.cells ∧ Cs wx gn2 O.cells) ∧ Cs wx gq (pcells q)) ∧ Below w.heap.size w wx))) (fun _ h => h) rfl (by kernel_rfl) (by kernel_rfl) (by kernel_rfl) (by kernel_rfl) (fun _ _ _ h => h) (SteadyB.of_yields (Or.inl ⟨by rfl, ?_⟩)) ?_
      rotate_left
      · intro wq hSw
        go_simp
        (try with_reducible rfl)
      try simp only [List.getElem_toArray, List.getElem_cons_zero, List.getElem_cons_succ, Act.put, List.setIfInBounds_toArray, List.set_cons_zero, List.set_cons_succ]
      refine wpAnyE_done (by kernel_rfl) (fun wz hSz => ?_) _
      have HG9 := hid hSz
      clear hSz HG8 t4
      go_wp2_with fail
      go_loopg [153] k (fun s i wr => ∃ j : Nat, i = .int .i64 j ∧ j ≤ k ∧ s = k - j ∧ ((Cs wr gm M.cells ∧ Cs wr gn2 O.cells) ∧ Cs wr gq (pcells q)) ∧ Below w.heap.size w wr)
      case atStart => exact ⟨0, rfl, Nat.zero_le _, by omega, HG9.out⟩
      case round =>
        obtain ⟨j, rfl, hj, hs, hg⟩ := hrel
        have HS := hid hs
        have HG := hid hg
        clear hs hg HG9
        by_cases hjn : j < k
        · obtain ⟨b9, o9, hA9, _, hc⟩ := (HR.out.below HG.out.2).2 0 (by omega)
          injection hA9 with hA9
          injection hA9 with hA9 hA8
          subst hA9 hA8
          obtain ⟨p0, p1, p2⟩ := hc j hjn
          have hjl : j < l.length := by have := HLN.out; omega
          have hji : (j : Int) < k := by omega
          have hm := getD_mem hjl
          clear hc
          obtain ⟨a, b, e1, e2, e3⟩ := HLG.out j hjl
          by_cases hjk : j = K
          · subst hjk
            rw [HYE.out] at p0 p1 p2
            have hje : ((j : Int) == (j : Int)) = true := by simp
            rw [HYE.out] at e1
            rw [lset_at HKL.out] at e2
            have HZ : Hid (-2 ≤ b - a ∧ b - a ≤ 2) := hid (by omega)
            have HX := HY
            have HRI : Hid (PIn q) := hid HWE2.out.2.1.2
            have L1 := hid e1
            have L2 := hid e2
            have HWA : Hid (WR a) := hid (by have := lag_wr M y; rwa [e1] at this)
            have HWB : Hid (WR b) := hid (by have := lag_wr O q; rwa [e2] at this)
            have HOKW : Hid (okW (b - a) = true) := hid (by have := HZ.out; exact okW_bd (by omega) (by omega))
            have HSM : Hid (smI (b - a) = true) := hid (by have := HZ.out; unfold smI; rw [decide_eq_true_eq]; omega)
            have HWD := hid (okW_iff.1 HOKW.out)
            have HCL := hid (clW_ok HOKW.out)
            clear e1 e2 e3 hm hjl
            have ha := ((Below.refl wr.heap.size wr).alloc (Nat.le_refl _) (.cells #[.int .u64 y.1, .int .u32 y.2.1, .int .u32 y.2.2] 29)).alloc (by simp) (.cells #[.int .u64 q.1, .int .u32 q.2.1, .int .u32 q.2.2] 29)
            have hb7 := Cs.alloc_new6 (wr.alloc (.cells #[.int .u64 y.1, .int .u32 y.2.1, .int .u32 y.2.2] 29)) 29 (pcells q)
            simp only [World.size_alloc] at hb7
            have HG6 : Hid ((((Cs ((wr.alloc (.cells #[.int .u64 y.1, .int .u32 y.2.1, .int .u32 y.2.2] 29)).alloc (.cells #[.int .u64 q.1, .int .u32 q.2.1, .int .u32 q.2.2] 29)) gm M.cells ∧ Cs ((wr.alloc (.cells #[.int .u64 y.1, .int .u32 y.2.1, .int .u32 y.2.2] 29)).alloc (.cells #[.int .u64 q.1, .int .u32 q.2.1, .int .u32 q.2.2] 29)) gn2 O.cells) ∧ Cs ((wr.alloc (.cells #[.int .u64 y.1, .int .u32 y.2.1, .int .u32 y.2.2] 29)).alloc (.cells #[.int .u64 q.1, .int .u32 q.2.1, .int .u32 q.2.2] 29)) gq (pcells q)) ∧ Cs ((wr.alloc (.cells #[.int .u64 y.1, .int .u32 y.2.1, .int .u32 y.2.2] 29)).alloc (.cells #[.int .u64 q.1, .int .u32 q.2.1, .int .u32 q.2.2] 29)) wr.heap.size (pcells y) ∧ Cs ((wr.alloc (.cells #[.int .u64 y.1, .int .u32 y.2.1, .int .u32 y.2.2] 29)).alloc (.cells #[.int .u64 q.1, .int .u32 q.2.1, .int .u32 q.2.2] 29)) (wr.heap.size + 1) (pcells q)) ∧ Below w.heap.size w ((wr.alloc (.cells #[.int .u64 y.1, .int .u32 y.2.1, .int .u32 y.2.2] 29)).alloc (.cells #[.int .u64 q.1, .int .u32 q.2.1, .int .u32 q.2.2] 29))) := hid ⟨⟨⟨⟨HG.out.1.1.1.below ha, HG.out.1.1.2.below ha⟩, HG.out.1.2.below ha⟩, (Cs.alloc_new6 wr 29 (pcells y)).alloc _, hb7⟩, below_on HG.out.2 ha⟩
            obtain ⟨m0, m1, m2, m3, m4⟩ := Mu.at _ HG6.out.1.1.1.1
            have hq := ((HG.out.1.2.below ((Below.refl wr.heap.size wr).alloc (Nat.le_refl _) (.cells #[.int .u64 y.1, .int .u32 y.2.1, .int .u32 y.2.2] 29))).below ((Below.refl _ _).alloc (Nat.le_refl _) (.cells #[.int .u64 y.1, .int .u32 y.2.1, .int .u32 y.2.2] 29)))
            obtain ⟨r0, r1, r2⟩ := P3.at _ hq
            clear ha hb7
            go_wp2_with fail
            clear m0 m1 m2 m3 m4 p0 p1 p2 r0 r1 r2 hq
            generalize ((wr.alloc (.cells #[.int .u64 y.1, .int .u32 y.2.1, .int .u32 y.2.2] 29)).alloc (.cells #[.int .u64 q.1, .int .u32 q.2.1, .int .u32 q.2.2] 29)) = W6 at HG6 ⊢
            generalize wr.heap.size = gpp at HG6 ⊢
            refine (Lag.read M y HI1.out HX.out.2 _).mono ?_
            rw [L1.out]
            rintro e w9 ⟨rfl, hb⟩
            have ha := (Below.refl w9.heap.size w9).alloc (Nat.le_refl _) (.cells #[.int .i64 (hiW a), .int .u64 (loW a)] 34)
            have HG7 : Hid ((((Cs (w9.alloc (.cells #[.int .i64 (hiW a), .int .u64 (loW a)] 34)) gm M.cells ∧ Cs (w9.alloc (.cells #[.int .i64 (hiW a), .int .u64 (loW a)] 34)) gn2 O.cells) ∧ Cs (w9.alloc (.cells #[.int .i64 (hiW a), .int .u64 (loW a)] 34)) gq (pcells q)) ∧ Cs (w9.alloc (.cells #[.int .i64 (hiW a), .int .u64 (loW a)] 34)) (gpp + 1) (pcells q) ∧ Cs (w9.alloc (.cells #[.int .i64 (hiW a), .int .u64 (loW a)] 34)) w9.heap.size [.int .i64 (hiW a), .int .u64 (loW a)]) ∧ Below w.heap.size w (w9.alloc (.cells #[.int .i64 (hiW a), .int .u64 (loW a)] 34))) := hid ⟨⟨⟨⟨(HG6.out.1.1.1.1.below hb).below ha, (HG6.out.1.1.1.2.below hb).below ha⟩, (HG6.out.1.1.2.below hb).below ha⟩, (HG6.out.1.2.2.below hb).below ha, Cs.new2 w9 _ _ _⟩, below_on (below_on HG6.out.2 hb) ha⟩
            clear hb ha HG6
            obtain ⟨m0, m1, m2, m3, m4⟩ := Mu.at _ HG7.out.1.1.1.2
            obtain ⟨q0, q1, q2⟩ := P3.at q HG7.out.1.2.1
            go_wp2_with fail
            clear m0 m1 m2 m3 m4 q0 q1 q2
            generalize w9.alloc (.cells #[.int .i64 (hiW a), .int .u64 (loW a)] 34) = W7 at HG7 ⊢
            generalize w9.heap.size = ga at HG7 ⊢
            refine (Lag.read O q HI3.out HRI.out _).mono ?_
            rw [L2.out]
            rintro e w10 ⟨rfl, hb⟩
            have ha := (Below.refl w10.heap.size w10).alloc (Nat.le_refl _) (.cells #[.int .i64 (hiW b), .int .u64 (loW b)] 34)
            have HG8 : Hid ((((Cs (w10.alloc (.cells #[.int .i64 (hiW b), .int .u64 (loW b)] 34)) gm M.cells ∧ Cs (w10.alloc (.cells #[.int .i64 (hiW b), .int .u64 (loW b)] 34)) gn2 O.cells) ∧ Cs (w10.alloc (.cells #[.int .i64 (hiW b), .int .u64 (loW b)] 34)) gq (pcells q)) ∧ Cs (w10.alloc (.cells #[.int .i64 (hiW b), .int .u64 (loW b)] 34)) ga [.int .i64 (hiW a), .int .u64 (loW a)]) ∧ Below w.heap.size w (w10.alloc (.cells #[.int .i64 (hiW b), .int .u64 (loW b)] 34))) := hid ⟨⟨⟨⟨(HG7.out.1.1.1.1.below hb).below ha, (HG7.out.1.1.1.2.below hb).below ha⟩, (HG7.out.1.1.2.below hb).below ha⟩, (HG7.out.1.2.2.below hb).below ha⟩, below_on (below_on HG7.out.2 hb) ha⟩
            clear hb ha HG7
            obtain ⟨a0, a1⟩ := HG8.out.1.2.two
            go_wp2_with fail
            clear a0 a1
            generalize w10.alloc (.cells #[.int .i64 (hiW b), .int .u64 (loW b)] 34) = W8 at HG8 ⊢
            refine (Wide.subF HWB.out HWA.out _).mono ?_
            rw [HCL.out, HOKW.out]
            rintro e w11 ⟨rfl, hb⟩
            have ha := (Below.refl w11.heap.size w11).alloc (Nat.le_refl _) (.cells #[.int .i64 (hiW (b - a)), .int .u64 (loW (b - a))] 34)
            have HG9 : Hid (((Cs (w11.alloc (.cells #[.int .i64 (hiW (b - a)), .int .u64 (loW (b - a))] 34)) gm M.cells ∧ Cs (w11.alloc (.cells #[.int .i64 (hiW (b - a)), .int .u64 (loW (b - a))] 34)) gn2 O.cells) ∧ Cs (w11.alloc (.cells #[.int .i64 (hiW (b - a)), .int .u64 (loW (b - a))] 34)) gq (pcells q)) ∧ Below w.heap.size w (w11.alloc (.cells #[.int .i64 (hiW (b - a)), .int .u64 (loW (b - a))] 34))) := hid ⟨⟨⟨(HG8.out.1.1.1.1.below hb).below ha, (HG8.out.1.1.1.2.below hb).below ha⟩, (HG8.out.1.1.2.below hb).below ha⟩, below_on (below_on HG8.out.2 hb) ha⟩
            clear hb ha HG8
            go_wp2_with fail
            generalize w11.alloc (.cells #[.int .i64 (hiW (b - a)), .int .u64 (loW (b - a))] 34) = W9 at HG9 ⊢
            refine (Wide.smallF HWD.out _).mono ?_
            rw [HSM.out, if_pos rfl]
            rintro e w12 ⟨rfl, hb⟩
            have HG10 := hid (And.intro (And.intro (And.intro (HG9.out.1.1.1.below hb) (HG9.out.1.1.2.below hb)) (HG9.out.1.2.below hb)) (below_on HG9.out.2 hb))
            clear hb HG9 L1 L2 HWA HWB HOKW HSM HCL HWD
            generalize b - a = z at *
            have k1 : ¬ z < -2 := by have := HZ.out; omega
            have k2 : ¬ 2 < z := by have := HZ.out; omega
            go_wp2_with fail
            go_roundg (k - (j + 1))
            case measure => have := HS.out; omega
            case rel => exact ⟨j + 1, by go_num, by omega, rfl, HG10.out⟩
          · have hje : ((j : Int) == (K : Int)) = false := by rw [beq_eq_false_iff_ne]; omega
            have hje2 : ((j : Int) != (K : Int)) = true := by simp; omega
            have HX := hid (HOK.out _ hm)
            rw [lset_ne hjk, HG2.out.2.2 j hjk] at e2
            have HZ : Hid (-2 ≤ b - a ∧ b - a ≤ 2) := hid (by omega)
            have HRI := hid HX.out.2
            have L1 := hid e1
            have L2 := hid e2
            have HWA : Hid (WR a) := hid (by have := lag_wr M (l.getD j (0, 0, 0)); rwa [e1] at this)
            have HWB : Hid (WR b) := hid (by have := lag_wr O (l.getD j (0, 0, 0)); rwa [e2] at this)
            have HOKW : Hid (okW (b - a) = true) := hid (by have := HZ.out; exact okW_bd (by omega) (by omega))
            have HSM : Hid (smI (b - a) = true) := hid (by have := HZ.out; unfold smI; rw [decide_eq_true_eq]; omega)
            have HWD := hid (okW_iff.1 HOKW.out)
            have HCL := hid (clW_ok HOKW.out)
            clear e1 e2 e3 hm hjl hjk
            generalize l.getD j (0, 0, 0) = x at *
            have ha := ((Below.refl wr.heap.size wr).alloc (Nat.le_refl _) (.cells #[.int .u64 x.1, .int .u32 x.2.1, .int .u32 x.2.2] 29)).alloc (by simp) (.cells #[.int .u64 x.1, .int .u32 x.2.1, .int .u32 x.2.2] 29)
            have hb7 := Cs.alloc_new6 (wr.alloc (.cells #[.int .u64 x.1, .int .u32 x.2.1, .int .u32 x.2.2] 29)) 29 (pcells x)
            simp only [World.size_alloc] at hb7
            have HG6 : Hid ((((Cs ((wr.alloc (.cells #[.int .u64 x.1, .int .u32 x.2.1, .int .u32 x.2.2] 29)).alloc (.cells #[.int .u64 x.1, .int .u32 x.2.1, .int .u32 x.2.2] 29)) gm M.cells ∧ Cs ((wr.alloc (.cells #[.int .u64 x.1, .int .u32 x.2.1, .int .u32 x.2.2] 29)).alloc (.cells #[.int .u64 x.1, .int .u32 x.2.1, .int .u32 x.2.2] 29)) gn2 O.cells) ∧ Cs ((wr.alloc (.cells #[.int .u64 x.1, .int .u32 x.2.1, .int .u32 x.2.2] 29)).alloc (.cells #[.int .u64 x.1, .int .u32 x.2.1, .int .u32 x.2.2] 29)) gq (pcells q)) ∧ Cs ((wr.alloc (.cells #[.int .u64 x.1, .int .u32 x.2.1, .int .u32 x.2.2] 29)).alloc (.cells #[.int .u64 x.1, .int .u32 x.2.1, .int .u32 x.2.2] 29)) wr.heap.size (pcells x) ∧ Cs ((wr.alloc (.cells #[.int .u64 x.1, .int .u32 x.2.1, .int .u32 x.2.2] 29)).alloc (.cells #[.int .u64 x.1, .int .u32 x.2.1, .int .u32 x.2.2] 29)) (wr.heap.size + 1) (pcells x)) ∧ Below w.heap.size w ((wr.alloc (.cells #[.int .u64 x.1, .int .u32 x.2.1, .int .u32 x.2.2] 29)).alloc (.cells #[.int .u64 x.1, .int .u32 x.2.1, .int .u32 x.2.2] 29))) := hid ⟨⟨⟨⟨HG.out.1.1.1.below ha, HG.out.1.1.2.below ha⟩, HG.out.1.2.below ha⟩, (Cs.alloc_new6 wr 29 (pcells x)).alloc _, hb7⟩, below_on HG.out.2 ha⟩
            obtain ⟨m0, m1, m2, m3, m4⟩ := Mu.at _ HG6.out.1.1.1.1
            clear ha hb7
            go_wp2_with fail
            clear m0 m1 m2 m3 m4 p0 p1 p2
            generalize ((wr.alloc (.cells #[.int .u64 x.1, .int .u32 x.2.1, .int .u32 x.2.2] 29)).alloc (.cells #[.int .u64 x.1, .int .u32 x.2.1, .int .u32 x.2.2] 29)) = W6 at HG6 ⊢
            generalize wr.heap.size = gpp at HG6 ⊢
            refine (Lag.read M x HI1.out HX.out.2 _).mono ?_
            rw [L1.out]
            rintro e w9 ⟨rfl, hb⟩
            have ha := (Below.refl w9.heap.size w9).alloc (Nat.le_refl _) (.cells #[.int .i64 (hiW a), .int .u64 (loW a)] 34)
            have HG7 : Hid ((((Cs (w9.alloc (.cells #[.int .i64 (hiW a), .int .u64 (loW a)] 34)) gm M.cells ∧ Cs (w9.alloc (.cells #[.int .i64 (hiW a), .int .u64 (loW a)] 34)) gn2 O.cells) ∧ Cs (w9.alloc (.cells #[.int .i64 (hiW a), .int .u64 (loW a)] 34)) gq (pcells q)) ∧ Cs (w9.alloc (.cells #[.int .i64 (hiW a), .int .u64 (loW a)] 34)) (gpp + 1) (pcells x) ∧ Cs (w9.alloc (.cells #[.int .i64 (hiW a), .int .u64 (loW a)] 34)) w9.heap.size [.int .i64 (hiW a), .int .u64 (loW a)]) ∧ Below w.heap.size w (w9.alloc (.cells #[.int .i64 (hiW a), .int .u64 (loW a)] 34))) := hid ⟨⟨⟨⟨(HG6.out.1.1.1.1.below hb).below ha, (HG6.out.1.1.1.2.below hb).below ha⟩, (HG6.out.1.1.2.below hb).below ha⟩, (HG6.out.1.2.2.below hb).below ha, Cs.new2 w9 _ _ _⟩, below_on (below_on HG6.out.2 hb) ha⟩
            clear hb ha HG6
            obtain ⟨m0, m1, m2, m3, m4⟩ := Mu.at _ HG7.out.1.1.1.2
            obtain ⟨q0, q1, q2⟩ := P3.at x HG7.out.1.2.1
            go_wp2_with fail
            clear m0 m1 m2 m3 m4 q0 q1 q2
            generalize w9.alloc (.cells #[.int .i64 (hiW a), .int .u64 (loW a)] 34) = W7 at HG7 ⊢
            generalize w9.heap.size = ga at HG7 ⊢
            refine (Lag.read O x HI3.out HRI.out _).mono ?_
            rw [L2.out]
            rintro e w10 ⟨rfl, hb⟩
            have ha := (Below.refl w10.heap.size w10).alloc (Nat.le_refl _) (.cells #[.int .i64 (hiW b), .int .u64 (loW b)] 34)
            have HG8 : Hid ((((Cs (w10.alloc (.cells #[.int .i64 (hiW b), .int .u64 (loW b)] 34)) gm M.cells ∧ Cs (w10.alloc (.cells #[.int .i64 (hiW b), .int .u64 (loW b)] 34)) gn2 O.cells) ∧ Cs (w10.alloc (.cells #[.int .i64 (hiW b), .int .u64 (loW b)] 34)) gq (pcells q)) ∧ Cs (w10.alloc (.cells #[.int .i64 (hiW b), .int .u64 (loW b)] 34)) ga [.int .i64 (hiW a), .int .u64 (loW a)]) ∧ Below w.heap.size w (w10.alloc (.cells #[.int .i64 (hiW b), .int .u64 (loW b)] 34))) := hid ⟨⟨⟨⟨(HG7.out.1.1.1.1.below hb).below ha, (HG7.out.1.1.1.2.below hb).below ha⟩, (HG7.out.1.1.2.below hb).below ha⟩, (HG7.out.1.2.2.below hb).below ha⟩, below_on (below_on HG7.out.2 hb) ha⟩
            clear hb ha HG7
            obtain ⟨a0, a1⟩ := HG8.out.1.2.two
            go_wp2_with fail
            clear a0 a1
            generalize w10.alloc (.cells #[.int .i64 (hiW b), .int .u64 (loW b)] 34) = W8 at HG8 ⊢
            refine (Wide.subF HWB.out HWA.out _).mono ?_
            rw [HCL.out, HOKW.out]
            rintro e w11 ⟨rfl, hb⟩
            have ha := (Below.refl w11.heap.size w11).alloc (Nat.le_refl _) (.cells #[.int .i64 (hiW (b - a)), .int .u64 (loW (b - a))] 34)
            have HG9 : Hid (((Cs (w11.alloc (.cells #[.int .i64 (hiW (b - a)), .int .u64 (loW (b - a))] 34)) gm M.cells ∧ Cs (w11.alloc (.cells #[.int .i64 (hiW (b - a)), .int .u64 (loW (b - a))] 34)) gn2 O.cells) ∧ Cs (w11.alloc (.cells #[.int .i64 (hiW (b - a)), .int .u64 (loW (b - a))] 34)) gq (pcells q)) ∧ Below w.heap.size w (w11.alloc (.cells #[.int .i64 (hiW (b - a)), .int .u64 (loW (b - a))] 34))) := hid ⟨⟨⟨(HG8.out.1.1.1.1.below hb).below ha, (HG8.out.1.1.1.2.below hb).below ha⟩, (HG8.out.1.1.2.below hb).below ha⟩, below_on (below_on HG8.out.2 hb) ha⟩
            clear hb ha HG8
            go_wp2_with fail
            generalize w11.alloc (.cells #[.int .i64 (hiW (b - a)), .int .u64 (loW (b - a))] 34) = W9 at HG9 ⊢
            refine (Wide.smallF HWD.out _).mono ?_
            rw [HSM.out, if_pos rfl]
            rintro e w12 ⟨rfl, hb⟩
            have HG10 := hid (And.intro (And.intro (And.intro (HG9.out.1.1.1.below hb) (HG9.out.1.1.2.below hb)) (HG9.out.1.2.below hb)) (below_on HG9.out.2 hb))
            clear hb HG9 L1 L2 HWA HWB HOKW HSM HCL HWD
            generalize b - a = z at *
            have k1 : ¬ z < -2 := by have := HZ.out; omega
            have k2 : ¬ 2 < z := by have := HZ.out; omega
            go_wp2_with fail
            go_roundg (k - (j + 1))
            case measure => have := HS.out; omega
            case rel => exact ⟨j + 1, by go_num, by omega, rfl, HG10.out⟩
        · obtain rfl : j = k := by omega
          have hji : ¬ (j : Int) < j := by omega
          go_wp2_with fail
          go_ret
          exact ⟨rfl, HG.out.2⟩
theorem Wback.law (t : Int) (A : Option Addr) (n c : Nat) (l : List P3) (i v : Int) (w : World) (w0 : (Lit.int .u64 t).wf = true) (h : RdP w A n l ∧ InP l ∧ n ≤ 9223372036854775807) (w2 : (Lit.int .u8 i).wf = true) (w3 : (Lit.int .u32 v).wf = true) (htab : Tab10 w.heap.size w) :
    Calls Tryz.prog 10 #[.int .u64 t, .slice A n c, .int .u8 i, .int .u32 v] w fun e w' => e = .returned (.bool true) ∧ Below w.heap.size w w' := by
  have hi := bounds_u8 w2
  by_cases hn : 32 < n
  · exact Wback.away1 t A n c i v w hn htab
  · by_cases h0 : n = 0
    · exact Wback.away2 t A n c i v w h0 htab
    · by_cases h1 : v < 1
      · exact Wback.away3 t A n c i v w (by omega) (by omega) h1 htab
      · by_cases h2 : 1048576 < v
        · exact Wback.away4 t A n c i v w (by omega) (by omega) h1 h2 htab
        · obtain ⟨iN, rfl⟩ := Int.eq_ofNat_of_zero_le hi.1
          exact Wback.core t v iN (bounds_u64 w0) (by omega) (by omega) (by omega) A n c l w h.1 (fun q hq => h.2.1 q hq) (by omega) (by omega) htab
end

end Go.Proofs.YthmilhhihcmdhaaGreatDoor
