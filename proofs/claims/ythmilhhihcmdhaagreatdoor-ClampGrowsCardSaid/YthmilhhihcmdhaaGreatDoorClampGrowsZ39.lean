/- Texts of ClampGrows's proof, together. -/
import Derived.Test.YthmilhhihcmdhaaGreatDoorClampGrowsZ10
import Derived.Test.YthmilhhihcmdhaaGreatDoorClampGrowsZ26
import Derived.Test.YthmilhhihcmdhaaGreatDoorRbB
import Derived.Test.YthmilhhihcmdhaaGreatDoorRefB
import Derived.Test.YthmilhhihcmdhaaGreatDoorClampGrowsZ0
import Derived.Test.YthmilhhihcmdhaaGreatDoorClampGrowsZ27
import Derived.Test.YthmilhhihcmdhaaGreatDoorClampGrowsZ7
import Derived.Test.YthmilhhihcmdhaaGreatDoorClampGrowsZ17
import Derived.Test.YthmilhhihcmdhaaGreatDoorClampGrowsZ32
import Derived.Test.YthmilhhihcmdhaaGreatDoorStr
import Derived.Test.YthmilhhihcmdhaaGreatDoorClampGrowsZ13
import Derived.Deep.AppendLies
import Derived.Deep.CutBlock
import Derived.Deep.DeepCutAuto
import Derived.Deep.RegionWith
import Derived.Deep.LoopGhost
import Derived.Test.YthmilhhihcmdhaaGreatDoorClC
import Derived.Test.YthmilhhihcmdhaaGreatDoorClampGrowsZ14
namespace Go.Proofs.YthmilhhihcmdhaaGreatDoor
/- The chapter's example of layer 8, as the laws ask it. -/
section
open Go.RowKit
theorem Law7.Awake (w : World) : Calls Tryz.prog 62 #[] w (Ans (.bool true) w) := by
  go_enter Tryz.func62, Tryz.ntmps62
  go_wp2_with (go_at_call 100; refine (Law7.awake _).mono ?_; rintro e w' ⟨rfl, hb⟩)
  go_ret
  exact ⟨rfl, hb⟩
theorem ex8 : Mu.of 5 [(5, 0, 1), (8, 0, 1)] = (true, ⟨5, 3, 2, 2⟩) := by
  rw [of_yes 5 (l := [(5, 0, 1), (8, 0, 1)]) (fun p hp => by
    simp at hp
    rcases hp with rfl | rfl
    · exact ⟨by decide, ⟨by decide, by decide⟩, ⟨by decide, by decide⟩, by decide, by decide⟩
    · exact ⟨by decide, ⟨by decide, by decide⟩, ⟨by decide, by decide⟩, by decide, by decide⟩) (by decide)]
  rfl
theorem ex8f : Mu.fl ⟨5, 3, 2, 2⟩ = (true, 6) := by first | rfl | decide +kernel
theorem ex8t : txtOf 3 = [51] := by first | decide +kernel | (unfold txtOf; rw [if_neg (by decide)]; simp [Lib.decDigits])
theorem Tab10.at2 {w0 w : World} (h : Tab10 w0.heap.size w0) (hb : Below w0.heap.size w0 w) : Tab10 w.heap.size w := Tab10.of (h.on hb).here
set_option maxRecDepth 100000 in
set_option maxHeartbeats 4000000 in
theorem Law8.awake (w : World) (htab : Tab10 w.heap.size w) : Calls Tryz.prog 16 #[] w (Ans (.bool true) w) := by
  have HT := hid htab
  have HB0 := hid ((Below.refl w.heap.size w).alloc (Nat.le_refl _) (.cells #[.int .u64 5, .int .u32 0, .int .u32 1, .int .u64 8, .int .u32 0, .int .u32 1] 29))
  have HR := hid (RdP.new2 w 29 5 0 1 8 0 1)
  clear htab
  go_enter Tryz.func16, Tryz.ntmps16
  go_wp2_with fail

  generalize (w.alloc (.cells #[.int .u64 5, .int .u32 0, .int .u32 1, .int .u64 8, .int .u32 0, .int .u32 1] 29)) = W0 at HB0 HR ⊢
  refine (Mean.of 5 ⟨by decide, by decide⟩ (some ⟨w.heap.size, 0, none⟩) 2 2 [(5, 0, 1), (8, 0, 1)] _ HR.out (fun p hp => by
    simp at hp
    rcases hp with rfl | rfl
    · exact ⟨⟨by decide, by decide⟩, ⟨by decide, by decide⟩, by decide, by decide⟩
    · exact ⟨⟨by decide, by decide⟩, ⟨by decide, by decide⟩, by decide, by decide⟩) (by decide)).mono ?_
  rw [ex8]
  rintro e w1 ⟨rfl, hb⟩
  have ha := (Below.refl w1.heap.size w1).alloc (Nat.le_refl _) (.cells #[.int .u64 5, .int .i64 (hiW 3), .int .u64 (loW 3), .int .u64 2, .int .i64 2] 36)
  have HB1 := hid (below_on (below_on HB0.out hb) ha)
  have HC1 : Hid (Cs (w1.alloc (.cells #[.int .u64 5, .int .i64 (hiW 3), .int .u64 (loW 3), .int .u64 2, .int .i64 2] 36)) w1.heap.size (Mu.mk 5 3 2 2).cells) := hid (Cs.alloc_new6 w1 _ (Mu.mk 5 3 2 2).cells)
  clear hb ha HB0 HR
  go_wp2_with fail
  generalize (w1.alloc (.cells #[.int .u64 5, .int .i64 (hiW 3), .int .u64 (loW 3), .int .u64 2, .int .i64 2] 36)) = W1 at HB1 HC1 ⊢
  generalize w1.heap.size = g at HC1 ⊢
  refine (Mean.floor ⟨5, 3, 2, 2⟩ (by unfold Mu.In WR; refine ⟨⟨?_, ?_⟩, ⟨?_, ?_⟩, ⟨?_, ?_⟩, ?_, ?_⟩ <;> decide) _).mono ?_
  rw [ex8f]
  rintro e w2 ⟨rfl, hb⟩
  have HB2 := hid (below_on HB1.out hb)
  have HC2 := hid (HC1.out.below hb)
  clear hb HB1 HC1
  go_wp2_with fail
  refine (Law7.Awake _).mono ?_
  rintro e w3 ⟨rfl, hb⟩
  have HB3 := hid (below_on HB2.out hb)
  have HC3 := hid (HC2.out.below hb)
  clear hb HB2 HC2
  obtain ⟨m0, m1, m2, m3, m4⟩ := Mu.at _ HC3.out
  go_wp2_with fail
  refine (Wide.string (hiW 3) (loW 3) 3 (isW_of (by unfold WR; omega)) _ (HT.out.at2 HB3.out)).mono ?_
  rw [ex8t]
  rintro e w4 ⟨rfl, hb⟩
  have HB4 := hid (below_on HB3.out hb)
  have HC4 := hid (HC3.out.below hb)
  clear hb HB3 HC3 m0 m1 m2 m3 m4
  obtain ⟨m0, m1, m2, m3, m4⟩ := Mu.at _ HC4.out
  go_wp2_with fail
  go_ret
  exact ⟨rfl, HB4.out⟩
theorem Law8.Awake (w : World) (htab : Tab10 w.heap.size w) : Calls Tryz.prog 68 #[] w (Ans (.bool true) w) := by
  go_enter Tryz.func68, Tryz.ntmps68
  go_wp2_with (go_at_call 16; refine (Law8.awake _ htab).mono ?_; rintro e w' ⟨rfl, hb⟩)
  go_ret
  exact ⟨rfl, hb⟩
end

/- The chapter's example of layer 9, as the laws ask it. -/
section
open Go.RowKit
theorem ex9in : (Mu.mk 5 3 2 2).In := by unfold Mu.In WR; refine ⟨⟨?_, ?_⟩, ⟨?_, ?_⟩, ⟨?_, ?_⟩, ?_, ?_⟩ <;> decide
theorem ex9p : PIn (5, 0, 1) := ⟨⟨by decide, by decide⟩, ⟨by decide, by decide⟩, by decide, by decide⟩
theorem ex9q : PIn (8, 0, 1) := ⟨⟨by decide, by decide⟩, ⟨by decide, by decide⟩, by decide, by decide⟩
theorem ex9a (w : World) : Calls Tryz.prog 25 #[(Mu.mk 5 3 2 2).val, pv (5, 0, 1)] w (Ans (.bool true) w) := by
  have h := Lag.eligible (Mu.mk 5 3 2 2) (5, 0, 1) ex9in ex9p w
  rwa [show (Mu.mk 5 3 2 2).elig (5, 0, 1) = true by first | rfl | decide +kernel] at h
theorem ex9b (w : World) : Calls Tryz.prog 25 #[(Mu.mk 5 3 2 2).val, pv (8, 0, 1)] w (Ans (.bool false) w) := by
  have h := Lag.eligible (Mu.mk 5 3 2 2) (8, 0, 1) ex9in ex9q w
  rwa [show (Mu.mk 5 3 2 2).elig (8, 0, 1) = false by first | rfl | decide +kernel] at h
theorem ex9c (w : World) : Calls Tryz.prog 27 #[(Mu.mk 5 3 2 2).val, pv (5, 0, 1)] w (Ans (.tuple #[wv 1, .bool true]) w) := by
  have h := Lag.read (Mu.mk 5 3 2 2) (5, 0, 1) ex9in ex9p w
  rwa [show (Mu.mk 5 3 2 2).lag (5, 0, 1) = (true, 1) by first | rfl | decide +kernel] at h
theorem ex9d (w : World) : Calls Tryz.prog 27 #[(Mu.mk 5 3 2 2).val, pv (8, 0, 1)] w (Ans (.tuple #[wv (-2), .bool true]) w) := by
  have h := Lag.read (Mu.mk 5 3 2 2) (8, 0, 1) ex9in ex9q w
  rwa [show (Mu.mk 5 3 2 2).lag (8, 0, 1) = (true, -2) by first | rfl | decide +kernel] at h
/-- The example's variables. -/
def A9 (w : World) (g3 g4 g5 : Nat) (W : World) : Prop := (Cs W w.heap.size (pcells (5, 0, 1)) ∧ Cs W (w.heap.size + 1) (pcells (8, 0, 1)) ∧ Cs W g3 (Mu.mk 5 3 2 2).cells) ∧ (Cs W g4 [.int .i64 (hiW 1), .int .u64 (loW 1)] ∧ Cs W g5 [.int .i64 (hiW (-2)), .int .u64 (loW (-2))]) ∧ Below w.heap.size w W
theorem A9.below {w w1 w2 : World} {g3 g4 g5 : Nat} (h : A9 w g3 g4 g5 w1) (hb : Below w1.heap.size w1 w2) : A9 w g3 g4 g5 w2 := ⟨⟨h.1.1.below hb, h.1.2.1.below hb, h.1.2.2.below hb⟩, ⟨h.2.1.1.below hb, h.2.1.2.below hb⟩, below_on h.2.2 hb⟩
theorem A9.stays (w : World) (g3 g4 g5 : Nat) : Stays (A9 w g3 g4 g5) := fun _ _ h hb => h.below hb
set_option maxRecDepth 100000 in
set_option maxHeartbeats 8000000 in
theorem Law9.awake (w : World) (htab : Tab10 w.heap.size w) : Calls Tryz.prog 24 #[] w (Ans (.bool true) w) := by
  have HT := hid htab
  have HA0 : Hid ((Cs (((w.alloc (.cells #[.int .u64 5, .int .u32 0, .int .u32 1] 29)).alloc (.cells #[.int .u64 8, .int .u32 0, .int .u32 1] 29)).alloc (.cells #[.int .u64 5, .int .u32 0, .int .u32 1, .int .u64 8, .int .u32 0, .int .u32 1] 29)) w.heap.size (pcells (5, 0, 1)) ∧ Cs (((w.alloc (.cells #[.int .u64 5, .int .u32 0, .int .u32 1] 29)).alloc (.cells #[.int .u64 8, .int .u32 0, .int .u32 1] 29)).alloc (.cells #[.int .u64 5, .int .u32 0, .int .u32 1, .int .u64 8, .int .u32 0, .int .u32 1] 29)) (w.heap.size + 1) (pcells (8, 0, 1))) ∧ RdP (((w.alloc (.cells #[.int .u64 5, .int .u32 0, .int .u32 1] 29)).alloc (.cells #[.int .u64 8, .int .u32 0, .int .u32 1] 29)).alloc (.cells #[.int .u64 5, .int .u32 0, .int .u32 1, .int .u64 8, .int .u32 0, .int .u32 1] 29)) (some ⟨w.heap.size + 2, 0, none⟩) 2 [(5, 0, 1), (8, 0, 1)] ∧ Below w.heap.size w (((w.alloc (.cells #[.int .u64 5, .int .u32 0, .int .u32 1] 29)).alloc (.cells #[.int .u64 8, .int .u32 0, .int .u32 1] 29)).alloc (.cells #[.int .u64 5, .int .u32 0, .int .u32 1, .int .u64 8, .int .u32 0, .int .u32 1] 29))) := hid (by
    have h1 := Cs.alloc_new6 w 29 (pcells (5, 0, 1))
    have h2 := Cs.alloc_new6 (w.alloc (.cells #[.int .u64 5, .int .u32 0, .int .u32 1] 29)) 29 (pcells (8, 0, 1))
    have h3 := RdP.new2 ((w.alloc (.cells #[.int .u64 5, .int .u32 0, .int .u32 1] 29)).alloc (.cells #[.int .u64 8, .int .u32 0, .int .u32 1] 29)) 29 5 0 1 8 0 1
    simp only [World.size_alloc] at h2 h3
    exact ⟨⟨(h1.alloc _).alloc _, h2.alloc _⟩, h3, (((Below.refl w.heap.size w).alloc (Nat.le_refl _) _).alloc (by simp) _).alloc (by simp; omega) _⟩)
  clear htab
  go_enter Tryz.func24, Tryz.ntmps24
  go_wp2_with fail
  generalize (((w.alloc (.cells #[.int .u64 5, .int .u32 0, .int .u32 1] 29)).alloc (.cells #[.int .u64 8, .int .u32 0, .int .u32 1] 29)).alloc (.cells #[.int .u64 5, .int .u32 0, .int .u32 1, .int .u64 8, .int .u32 0, .int .u32 1] 29)) = W3 at HA0 ⊢
  refine (Mean.of 5 ⟨by decide, by decide⟩ (some ⟨w.heap.size + 2, 0, none⟩) 2 2 [(5, 0, 1), (8, 0, 1)] _ HA0.out.2.1 (fun p hp => by
    simp at hp
    rcases hp with rfl | rfl
    · exact ex9p
    · exact ex9q) (by decide)).mono ?_
  rw [ex8]
  rintro e w1 ⟨rfl, hb⟩
  have ha := (Below.refl w1.heap.size w1).alloc (Nat.le_refl _) (.cells #[.int .u64 5, .int .i64 (hiW 3), .int .u64 (loW 3), .int .u64 2, .int .i64 2] 36)
  have HA1 : Hid (((Cs (w1.alloc (.cells #[.int .u64 5, .int .i64 (hiW 3), .int .u64 (loW 3), .int .u64 2, .int .i64 2] 36)) w.heap.size (pcells (5, 0, 1)) ∧ Cs (w1.alloc (.cells #[.int .u64 5, .int .i64 (hiW 3), .int .u64 (loW 3), .int .u64 2, .int .i64 2] 36)) (w.heap.size + 1) (pcells (8, 0, 1))) ∧ Cs (w1.alloc (.cells #[.int .u64 5, .int .i64 (hiW 3), .int .u64 (loW 3), .int .u64 2, .int .i64 2] 36)) w1.heap.size (Mu.mk 5 3 2 2).cells) ∧ Below w.heap.size w (w1.alloc (.cells #[.int .u64 5, .int .i64 (hiW 3), .int .u64 (loW 3), .int .u64 2, .int .i64 2] 36))) := hid ⟨⟨⟨(HA0.out.1.1.below hb).below ha, (HA0.out.1.2.below hb).below ha⟩, Cs.alloc_new6 w1 _ (Mu.mk 5 3 2 2).cells⟩, below_on (below_on HA0.out.2.2 hb) ha⟩
  clear hb ha HA0
  obtain ⟨m0, m1, m2, m3, m4⟩ := Mu.at (Mu.mk 5 3 2 2) HA1.out.1.2
  obtain ⟨q0, q1, q2⟩ := P3.at (5, 0, 1) HA1.out.1.1.1
  dsimp only at m0 m1 m2 m3 m4 q0 q1 q2
  go_wp2_with fail
  clear m0 m1 m2 m3 m4 q0 q1 q2
  generalize w1.alloc (.cells #[.int .u64 5, .int .i64 (hiW 3), .int .u64 (loW 3), .int .u64 2, .int .i64 2] 36) = W4 at HA1 ⊢
  generalize w1.heap.size = g3 at HA1 ⊢
  refine (ex9c _).mono ?_
  rintro e w2 ⟨rfl, hb⟩
  have ha := (Below.refl w2.heap.size w2).alloc (Nat.le_refl _) (.cells #[.int .i64 (hiW 1), .int .u64 (loW 1)] 34)
  have HA2 : Hid (((Cs (w2.alloc (.cells #[.int .i64 (hiW 1), .int .u64 (loW 1)] 34)) w.heap.size (pcells (5, 0, 1)) ∧ Cs (w2.alloc (.cells #[.int .i64 (hiW 1), .int .u64 (loW 1)] 34)) (w.heap.size + 1) (pcells (8, 0, 1))) ∧ Cs (w2.alloc (.cells #[.int .i64 (hiW 1), .int .u64 (loW 1)] 34)) g3 (Mu.mk 5 3 2 2).cells) ∧ Cs (w2.alloc (.cells #[.int .i64 (hiW 1), .int .u64 (loW 1)] 34)) w2.heap.size [.int .i64 (hiW 1), .int .u64 (loW 1)] ∧ Below w.heap.size w (w2.alloc (.cells #[.int .i64 (hiW 1), .int .u64 (loW 1)] 34))) := hid ⟨⟨⟨(HA1.out.1.1.1.below hb).below ha, (HA1.out.1.1.2.below hb).below ha⟩, (HA1.out.1.2.below hb).below ha⟩, Cs.new2 w2 _ _ _, below_on (below_on HA1.out.2 hb) ha⟩
  clear hb ha HA1
  obtain ⟨m0, m1, m2, m3, m4⟩ := Mu.at (Mu.mk 5 3 2 2) HA2.out.1.2
  obtain ⟨q0, q1, q2⟩ := P3.at (8, 0, 1) HA2.out.1.1.2
  dsimp only at m0 m1 m2 m3 m4 q0 q1 q2
  go_wp2_with fail
  clear m0 m1 m2 m3 m4 q0 q1 q2
  generalize w2.alloc (.cells #[.int .i64 (hiW 1), .int .u64 (loW 1)] 34) = W5 at HA2 ⊢
  generalize w2.heap.size = g4 at HA2 ⊢
  refine (ex9d _).mono ?_
  rintro e w3 ⟨rfl, hb⟩
  have ha := (Below.refl w3.heap.size w3).alloc (Nat.le_refl _) (.cells #[.int .i64 (hiW (-2)), .int .u64 (loW (-2))] 34)
  have HA5 : Hid (A9 w g3 g4 w3.heap.size (w3.alloc (.cells #[.int .i64 (hiW (-2)), .int .u64 (loW (-2))] 34))) := hid ⟨⟨(HA2.out.1.1.1.below hb).below ha, (HA2.out.1.1.2.below hb).below ha, (HA2.out.1.2.below hb).below ha⟩, ⟨(HA2.out.2.1.below hb).below ha, Cs.new2 w3 _ _ _⟩, below_on (below_on HA2.out.2.2 hb) ha⟩
  clear hb ha HA2
  go_wp2_with fail
  generalize w3.alloc (.cells #[.int .i64 (hiW (-2)), .int .u64 (loW (-2))] 34) = W6 at HA5 ⊢
  generalize w3.heap.size = g5 at HA5 ⊢
  refine wp_region_grow (S := A9 w g3 g4 g5) 32 (by kernel_rfl) (HA5.out.below (Below.refl _ _).drew) ?_
  refine wpAnyE_take (i := 0) (v := Value.bool true) (A9.stays w g3 g4 g5) (fun _ h => h) rfl (by kernel_rfl) (by kernel_rfl) (by kernel_rfl) (by kernel_rfl) (fun _ _ _ h => h) (Or.inl ⟨by rfl, fun wq hSw => ?_⟩) ?_
  · refine RunB.of_calls (Law8.Awake wq (HT.out.at2 hSw.2.2)) (by go_simp) ?_
    rintro e wr ⟨rfl, hb⟩
    exact ⟨rfl, hb⟩
  try simp only [List.getElem_toArray, List.getElem_cons_zero, List.getElem_cons_succ, Act.put, List.setIfInBounds_toArray, List.set_cons_zero, List.set_cons_succ]
  refine wpAnyE_take (i := 1) (v := ?_) (A9.stays w g3 g4 g5) (fun _ h => h) rfl (by kernel_rfl) (by kernel_rfl) (by kernel_rfl) (by kernel_rfl) (fun _ _ _ h => h) (SteadyB.of_yields (Or.inl ⟨by rfl, ?_⟩)) ?_
  rotate_left
  · intro wq hSw
    go_simp
    (try with_reducible rfl)
  try simp only [List.getElem_toArray, List.getElem_cons_zero, List.getElem_cons_succ, Act.put, List.setIfInBounds_toArray, List.set_cons_zero, List.set_cons_succ]
  refine wpAnyE_take (i := 2) (v := ?_) (A9.stays w g3 g4 g5) (fun _ h => h) rfl (by kernel_rfl) (by kernel_rfl) (by kernel_rfl) (by kernel_rfl) (fun _ _ _ h => h) (SteadyB.of_yields (Or.inl ⟨by rfl, ?_⟩)) ?_
  rotate_left
  · intro wq hSw
    go_simp
    (try with_reducible rfl)
  try simp only [List.getElem_toArray, List.getElem_cons_zero, List.getElem_cons_succ, Act.put, List.setIfInBounds_toArray, List.set_cons_zero, List.set_cons_succ]
  refine wpAnyE_take (i := 3) (v := ?_) (A9.stays w g3 g4 g5) (fun _ h => h) rfl (by kernel_rfl) (by kernel_rfl) (by kernel_rfl) (by kernel_rfl) (fun _ _ _ h => h) (SteadyB.of_yields (Or.inl ⟨by rfl, ?_⟩)) ?_
  rotate_left
  · intro wq hSw
    go_simp
    (try with_reducible rfl)
  try simp only [List.getElem_toArray, List.getElem_cons_zero, List.getElem_cons_succ, Act.put, List.setIfInBounds_toArray, List.set_cons_zero, List.set_cons_succ]
  refine wpAnyE_take (i := 4) (v := ?_) (A9.stays w g3 g4 g5) (fun _ h => h) rfl (by kernel_rfl) (by kernel_rfl) (by kernel_rfl) (by kernel_rfl) (fun _ _ _ h => h) (SteadyB.of_yields (Or.inl ⟨by rfl, ?_⟩)) ?_
  rotate_left
  · intro wq hSw
    go_simp
    (try with_reducible rfl)
  try simp only [List.getElem_toArray, List.getElem_cons_zero, List.getElem_cons_succ, Act.put, List.setIfInBounds_toArray, List.set_cons_zero, List.set_cons_succ]
  refine wpAnyE_take (i := 5) (v := ?_) (A9.stays w g3 g4 g5) (fun _ h => h) rfl (by kernel_rfl) (by kernel_rfl) (by kernel_rfl) (by kernel_rfl) (fun _ _ _ h => h) (SteadyB.of_yields (Or.inl ⟨by rfl, ?_⟩)) ?_
  rotate_left
  · intro wq hSw
    go_simp
    (try with_reducible rfl)
  try simp only [List.getElem_toArray, List.getElem_cons_zero, List.getElem_cons_succ, Act.put, List.setIfInBounds_toArray, List.set_cons_zero, List.set_cons_succ]
  refine wpAnyE_take (i := 6) (v := ?_) (A9.stays w g3 g4 g5) (fun _ h => h) rfl (by kernel_rfl) (by kernel_rfl) (by kernel_rfl) (by kernel_rfl) (fun _ _ _ h => h) (SteadyB.of_yields (Or.inl ⟨by rfl, ?_⟩)) ?_
  rotate_left
  · intro wq hSw
    go_simp
    (try with_reducible rfl)
  try simp only [List.getElem_toArray, List.getElem_cons_zero, List.getElem_cons_succ, Act.put, List.setIfInBounds_toArray, List.set_cons_zero, List.set_cons_succ]
  refine wpAnyE_take (i := 7) (v := ?_) (A9.stays w g3 g4 g5) (fun _ h => h) rfl (by kernel_rfl) (by kernel_rfl) (by kernel_rfl) (by kernel_rfl) (fun _ _ _ h => h) (SteadyB.of_yields (Or.inl ⟨by rfl, ?_⟩)) ?_
  rotate_left
  · intro wq hSw
    go_simp
    (try with_reducible rfl)
  try simp only [List.getElem_toArray, List.getElem_cons_zero, List.getElem_cons_succ, Act.put, List.setIfInBounds_toArray, List.set_cons_zero, List.set_cons_succ]
  refine wpAnyE_take (i := 8) (v := ?_) (A9.stays w g3 g4 g5) (fun _ h => h) rfl (by kernel_rfl) (by kernel_rfl) (by kernel_rfl) (by kernel_rfl) (fun _ _ _ h => h) (SteadyB.of_yields (Or.inl ⟨by rfl, ?_⟩)) ?_
  rotate_left
  · intro wq hSw
    go_simp
    (try with_reducible rfl)
  try simp only [List.getElem_toArray, List.getElem_cons_zero, List.getElem_cons_succ, Act.put, List.setIfInBounds_toArray, List.set_cons_zero, List.set_cons_succ]
  refine wpAnyE_take (i := 9) (v := ?_) (A9.stays w g3 g4 g5) (fun _ h => h) rfl (by kernel_rfl) (by kernel_rfl) (by kernel_rfl) (by kernel_rfl) (fun _ _ _ h => h) (SteadyB.of_yields (Or.inl ⟨by rfl, ?_⟩)) ?_
  rotate_left
  · intro wq hSw
    go_simp
    (try with_reducible rfl)
  try simp only [List.getElem_toArray, List.getElem_cons_zero, List.getElem_cons_succ, Act.put, List.setIfInBounds_toArray, List.set_cons_zero, List.set_cons_succ]
  refine wpAnyE_take (i := 10) (v := ?_) (A9.stays w g3 g4 g5) (fun _ h => h) rfl (by kernel_rfl) (by kernel_rfl) (by kernel_rfl) (by kernel_rfl) (fun _ _ _ h => h) (SteadyB.of_yields (Or.inl ⟨by rfl, ?_⟩)) ?_
  rotate_left
  · intro wq hSw
    go_simp
    (try with_reducible rfl)
  try simp only [List.getElem_toArray, List.getElem_cons_zero, List.getElem_cons_succ, Act.put, List.setIfInBounds_toArray, List.set_cons_zero, List.set_cons_succ]
  refine wpAnyE_take (i := 11) (v := ?_) (A9.stays w g3 g4 g5) (fun _ h => h) rfl (by kernel_rfl) (by kernel_rfl) (by kernel_rfl) (by kernel_rfl) (fun _ _ _ h => h) (SteadyB.of_yields (Or.inl ⟨by rfl, ?_⟩)) ?_
  rotate_left
  · intro wq hSw
    obtain ⟨m0, m1, m2, m3, m4⟩ := Mu.at (Mu.mk 5 3 2 2) hSw.1.2.2
    obtain ⟨q0, q1, q2⟩ := P3.at (5, 0, 1) hSw.1.1
    obtain ⟨r0, r1, r2⟩ := P3.at (8, 0, 1) hSw.1.2.1
    have a0 := hSw.2.1.1.at0
    have a1 := hSw.2.1.1.at1
    have b0 := hSw.2.1.2.at0
    have b1 := hSw.2.1.2.at1
    dsimp only at m0 m1 m2 m3 m4 q0 q1 q2 r0 r1 r2
    go_simp
    (try with_reducible rfl)
  try simp only [List.getElem_toArray, List.getElem_cons_zero, List.getElem_cons_succ, Act.put, List.setIfInBounds_toArray, List.set_cons_zero, List.set_cons_succ]
  refine wpAnyE_take (i := 12) (v := wv 1) (A9.stays w g3 g4 g5) (fun _ h => h) rfl (by kernel_rfl) (by kernel_rfl) (by kernel_rfl) (by kernel_rfl) (fun _ _ _ h => h) (Or.inl ⟨by rfl, fun wq hSw => ?_⟩) ?_
  · refine RunB.of_calls (Wide.ofF (x := 1) (by decide) (by decide) wq) (by go_simp) ?_
    rintro e wr ⟨rfl, hb⟩
    exact ⟨rfl, hb⟩
  try simp only [List.getElem_toArray, List.getElem_cons_zero, List.getElem_cons_succ, Act.put, List.setIfInBounds_toArray, List.set_cons_zero, List.set_cons_succ]
  refine wpAnyE_take (i := 13) (v := ?_) (A9.stays w g3 g4 g5) (fun _ h => h) rfl (by kernel_rfl) (by kernel_rfl) (by kernel_rfl) (by kernel_rfl) (fun _ _ _ h => h) (SteadyB.of_yields (Or.inl ⟨by rfl, ?_⟩)) ?_
  rotate_left
  · intro wq hSw
    go_simp
    (try with_reducible rfl)
  try simp only [List.getElem_toArray, List.getElem_cons_zero, List.getElem_cons_succ, Act.put, List.setIfInBounds_toArray, List.set_cons_zero, List.set_cons_succ]
  refine wpAnyE_take (i := 14) (v := ?_) (A9.stays w g3 g4 g5) (fun _ h => h) rfl (by kernel_rfl) (by kernel_rfl) (by kernel_rfl) (by kernel_rfl) (fun _ _ _ h => h) (SteadyB.of_yields (Or.inl ⟨by rfl, ?_⟩)) ?_
  rotate_left
  · intro wq hSw
    go_simp
    (try with_reducible rfl)
  try simp only [List.getElem_toArray, List.getElem_cons_zero, List.getElem_cons_succ, Act.put, List.setIfInBounds_toArray, List.set_cons_zero, List.set_cons_succ]
  refine wpAnyE_take (i := 15) (v := ?_) (A9.stays w g3 g4 g5) (fun _ h => h) rfl (by kernel_rfl) (by kernel_rfl) (by kernel_rfl) (by kernel_rfl) (fun _ _ _ h => h) (SteadyB.of_yields (Or.inl ⟨by rfl, ?_⟩)) ?_
  rotate_left
  · intro wq hSw
    go_simp
    (try with_reducible rfl)
  try simp only [List.getElem_toArray, List.getElem_cons_zero, List.getElem_cons_succ, Act.put, List.setIfInBounds_toArray, List.set_cons_zero, List.set_cons_succ]
  refine wpAnyE_take (i := 16) (v := ?_) (A9.stays w g3 g4 g5) (fun _ h => h) rfl (by kernel_rfl) (by kernel_rfl) (by kernel_rfl) (by kernel_rfl) (fun _ _ _ h => h) (SteadyB.of_yields (Or.inl ⟨by rfl, ?_⟩)) ?_
  rotate_left
  · intro wq hSw
    obtain ⟨m0, m1, m2, m3, m4⟩ := Mu.at (Mu.mk 5 3 2 2) hSw.1.2.2
    obtain ⟨q0, q1, q2⟩ := P3.at (5, 0, 1) hSw.1.1
    obtain ⟨r0, r1, r2⟩ := P3.at (8, 0, 1) hSw.1.2.1
    have a0 := hSw.2.1.1.at0
    have a1 := hSw.2.1.1.at1
    have b0 := hSw.2.1.2.at0
    have b1 := hSw.2.1.2.at1
    dsimp only at m0 m1 m2 m3 m4 q0 q1 q2 r0 r1 r2
    go_simp
    (try with_reducible rfl)
  try simp only [List.getElem_toArray, List.getElem_cons_zero, List.getElem_cons_succ, Act.put, List.setIfInBounds_toArray, List.set_cons_zero, List.set_cons_succ]
  refine wpAnyE_take (i := 17) (v := wv (-2)) (A9.stays w g3 g4 g5) (fun _ h => h) rfl (by kernel_rfl) (by kernel_rfl) (by kernel_rfl) (by kernel_rfl) (fun _ _ _ h => h) (Or.inl ⟨by rfl, fun wq hSw => ?_⟩) ?_
  · refine RunB.of_calls (Wide.ofF (x := -2) (by decide) (by decide) wq) (by go_simp) ?_
    rintro e wr ⟨rfl, hb⟩
    exact ⟨rfl, hb⟩
  try simp only [List.getElem_toArray, List.getElem_cons_zero, List.getElem_cons_succ, Act.put, List.setIfInBounds_toArray, List.set_cons_zero, List.set_cons_succ]
  refine wpAnyE_take (i := 18) (v := ?_) (A9.stays w g3 g4 g5) (fun _ h => h) rfl (by kernel_rfl) (by kernel_rfl) (by kernel_rfl) (by kernel_rfl) (fun _ _ _ h => h) (SteadyB.of_yields (Or.inl ⟨by rfl, ?_⟩)) ?_
  rotate_left
  · intro wq hSw
    go_simp
    (try with_reducible rfl)
  try simp only [List.getElem_toArray, List.getElem_cons_zero, List.getElem_cons_succ, Act.put, List.setIfInBounds_toArray, List.set_cons_zero, List.set_cons_succ]
  refine wpAnyE_take (i := 19) (v := ?_) (A9.stays w g3 g4 g5) (fun _ h => h) rfl (by kernel_rfl) (by kernel_rfl) (by kernel_rfl) (by kernel_rfl) (fun _ _ _ h => h) (SteadyB.of_yields (Or.inl ⟨by rfl, ?_⟩)) ?_
  rotate_left
  · intro wq hSw
    go_simp
    (try with_reducible rfl)
  try simp only [List.getElem_toArray, List.getElem_cons_zero, List.getElem_cons_succ, Act.put, List.setIfInBounds_toArray, List.set_cons_zero, List.set_cons_succ]
  refine wpAnyE_take (i := 20) (v := ?_) (A9.stays w g3 g4 g5) (fun _ h => h) rfl (by kernel_rfl) (by kernel_rfl) (by kernel_rfl) (by kernel_rfl) (fun _ _ _ h => h) (SteadyB.of_yields (Or.inl ⟨by rfl, ?_⟩)) ?_
  rotate_left
  · intro wq hSw
    go_simp
    (try with_reducible rfl)
  try simp only [List.getElem_toArray, List.getElem_cons_zero, List.getElem_cons_succ, Act.put, List.setIfInBounds_toArray, List.set_cons_zero, List.set_cons_succ]
  refine wpAnyE_take (i := 21) (v := ?_) (A9.stays w g3 g4 g5) (fun _ h => h) rfl (by kernel_rfl) (by kernel_rfl) (by kernel_rfl) (by kernel_rfl) (fun _ _ _ h => h) (SteadyB.of_yields (Or.inl ⟨by rfl, ?_⟩)) ?_
  rotate_left
  · intro wq hSw
    obtain ⟨m0, m1, m2, m3, m4⟩ := Mu.at (Mu.mk 5 3 2 2) hSw.1.2.2
    obtain ⟨q0, q1, q2⟩ := P3.at (5, 0, 1) hSw.1.1
    obtain ⟨r0, r1, r2⟩ := P3.at (8, 0, 1) hSw.1.2.1
    have a0 := hSw.2.1.1.at0
    have a1 := hSw.2.1.1.at1
    have b0 := hSw.2.1.2.at0
    have b1 := hSw.2.1.2.at1
    dsimp only at m0 m1 m2 m3 m4 q0 q1 q2 r0 r1 r2
    go_simp
    (try with_reducible rfl)
  try simp only [List.getElem_toArray, List.getElem_cons_zero, List.getElem_cons_succ, Act.put, List.setIfInBounds_toArray, List.set_cons_zero, List.set_cons_succ]
  refine wpAnyE_take (i := 22) (v := ?_) (A9.stays w g3 g4 g5) (fun _ h => h) rfl (by kernel_rfl) (by kernel_rfl) (by kernel_rfl) (by kernel_rfl) (fun _ _ _ h => h) (SteadyB.of_yields (Or.inl ⟨by rfl, ?_⟩)) ?_
  rotate_left
  · intro wq hSw
    obtain ⟨m0, m1, m2, m3, m4⟩ := Mu.at (Mu.mk 5 3 2 2) hSw.1.2.2
    obtain ⟨q0, q1, q2⟩ := P3.at (5, 0, 1) hSw.1.1
    obtain ⟨r0, r1, r2⟩ := P3.at (8, 0, 1) hSw.1.2.1
    have a0 := hSw.2.1.1.at0
    have a1 := hSw.2.1.1.at1
    have b0 := hSw.2.1.2.at0
    have b1 := hSw.2.1.2.at1
    dsimp only at m0 m1 m2 m3 m4 q0 q1 q2 r0 r1 r2
    go_simp
    (try with_reducible rfl)
  try simp only [List.getElem_toArray, List.getElem_cons_zero, List.getElem_cons_succ, Act.put, List.setIfInBounds_toArray, List.set_cons_zero, List.set_cons_succ]
  refine wpAnyE_take (i := 23) (v := Value.bool true) (A9.stays w g3 g4 g5) (fun _ h => h) rfl (by kernel_rfl) (by kernel_rfl) (by kernel_rfl) (by kernel_rfl) (fun _ _ _ h => h) (Or.inl ⟨by rfl, fun wq hSw => ?_⟩) ?_
  · refine RunB.of_calls (ex9a wq) (by go_simp) ?_
    rintro e wr ⟨rfl, hb⟩
    exact ⟨rfl, hb⟩
  try simp only [List.getElem_toArray, List.getElem_cons_zero, List.getElem_cons_succ, Act.put, List.setIfInBounds_toArray, List.set_cons_zero, List.set_cons_succ]
  refine wpAnyE_take (i := 24) (v := ?_) (A9.stays w g3 g4 g5) (fun _ h => h) rfl (by kernel_rfl) (by kernel_rfl) (by kernel_rfl) (by kernel_rfl) (fun _ _ _ h => h) (SteadyB.of_yields (Or.inl ⟨by rfl, ?_⟩)) ?_
  rotate_left
  · intro wq hSw
    go_simp
    (try with_reducible rfl)
  try simp only [List.getElem_toArray, List.getElem_cons_zero, List.getElem_cons_succ, Act.put, List.setIfInBounds_toArray, List.set_cons_zero, List.set_cons_succ]
  refine wpAnyE_take (i := 25) (v := ?_) (A9.stays w g3 g4 g5) (fun _ h => h) rfl (by kernel_rfl) (by kernel_rfl) (by kernel_rfl) (by kernel_rfl) (fun _ _ _ h => h) (SteadyB.of_yields (Or.inl ⟨by rfl, ?_⟩)) ?_
  rotate_left
  · intro wq hSw
    go_simp
    (try with_reducible rfl)
  try simp only [List.getElem_toArray, List.getElem_cons_zero, List.getElem_cons_succ, Act.put, List.setIfInBounds_toArray, List.set_cons_zero, List.set_cons_succ]
  refine wpAnyE_take (i := 26) (v := ?_) (A9.stays w g3 g4 g5) (fun _ h => h) rfl (by kernel_rfl) (by kernel_rfl) (by kernel_rfl) (by kernel_rfl) (fun _ _ _ h => h) (SteadyB.of_yields (Or.inl ⟨by rfl, ?_⟩)) ?_
  rotate_left
  · intro wq hSw
    obtain ⟨m0, m1, m2, m3, m4⟩ := Mu.at (Mu.mk 5 3 2 2) hSw.1.2.2
    obtain ⟨q0, q1, q2⟩ := P3.at (5, 0, 1) hSw.1.1
    obtain ⟨r0, r1, r2⟩ := P3.at (8, 0, 1) hSw.1.2.1
    have a0 := hSw.2.1.1.at0
    have a1 := hSw.2.1.1.at1
    have b0 := hSw.2.1.2.at0
    have b1 := hSw.2.1.2.at1
    dsimp only at m0 m1 m2 m3 m4 q0 q1 q2 r0 r1 r2
    go_simp
    (try with_reducible rfl)
  try simp only [List.getElem_toArray, List.getElem_cons_zero, List.getElem_cons_succ, Act.put, List.setIfInBounds_toArray, List.set_cons_zero, List.set_cons_succ]
  refine wpAnyE_take (i := 27) (v := ?_) (A9.stays w g3 g4 g5) (fun _ h => h) rfl (by kernel_rfl) (by kernel_rfl) (by kernel_rfl) (by kernel_rfl) (fun _ _ _ h => h) (SteadyB.of_yields (Or.inl ⟨by rfl, ?_⟩)) ?_
  rotate_left
  · intro wq hSw
    obtain ⟨m0, m1, m2, m3, m4⟩ := Mu.at (Mu.mk 5 3 2 2) hSw.1.2.2
    obtain ⟨q0, q1, q2⟩ := P3.at (5, 0, 1) hSw.1.1
    obtain ⟨r0, r1, r2⟩ := P3.at (8, 0, 1) hSw.1.2.1
    have a0 := hSw.2.1.1.at0
    have a1 := hSw.2.1.1.at1
    have b0 := hSw.2.1.2.at0
    have b1 := hSw.2.1.2.at1
    dsimp only at m0 m1 m2 m3 m4 q0 q1 q2 r0 r1 r2
    go_simp
    (try with_reducible rfl)
  try simp only [List.getElem_toArray, List.getElem_cons_zero, List.getElem_cons_succ, Act.put, List.setIfInBounds_toArray, List.set_cons_zero, List.set_cons_succ]
  refine wpAnyE_take (i := 28) (v := Value.bool false) (A9.stays w g3 g4 g5) (fun _ h => h) rfl (by kernel_rfl) (by kernel_rfl) (by kernel_rfl) (by kernel_rfl) (fun _ _ _ h => h) (Or.inl ⟨by rfl, fun wq hSw => ?_⟩) ?_
  · refine RunB.of_calls (ex9b wq) (by go_simp) ?_
    rintro e wr ⟨rfl, hb⟩
    exact ⟨rfl, hb⟩
  try simp only [List.getElem_toArray, List.getElem_cons_zero, List.getElem_cons_succ, Act.put, List.setIfInBounds_toArray, List.set_cons_zero, List.set_cons_succ]
  refine wpAnyE_take (i := 29) (v := ?_) (A9.stays w g3 g4 g5) (fun _ h => h) rfl (by kernel_rfl) (by kernel_rfl) (by kernel_rfl) (by kernel_rfl) (fun _ _ _ h => h) (SteadyB.of_yields (Or.inl ⟨by rfl, ?_⟩)) ?_
  rotate_left
  · intro wq hSw
    go_simp
    (try with_reducible rfl)
  try simp only [List.getElem_toArray, List.getElem_cons_zero, List.getElem_cons_succ, Act.put, List.setIfInBounds_toArray, List.set_cons_zero, List.set_cons_succ]
  refine wpAnyE_take (i := 30) (v := ?_) (A9.stays w g3 g4 g5) (fun _ h => h) rfl (by kernel_rfl) (by kernel_rfl) (by kernel_rfl) (by kernel_rfl) (fun _ _ _ h => h) (SteadyB.of_yields (Or.inl ⟨by rfl, ?_⟩)) ?_
  rotate_left
  · intro wq hSw
    go_simp
    (try with_reducible rfl)
  try simp only [List.getElem_toArray, List.getElem_cons_zero, List.getElem_cons_succ, Act.put, List.setIfInBounds_toArray, List.set_cons_zero, List.set_cons_succ]
  refine wpAnyE_take (i := 31) (v := ?_) (A9.stays w g3 g4 g5) (fun _ h => h) rfl (by kernel_rfl) (by kernel_rfl) (by kernel_rfl) (by kernel_rfl) (fun _ _ _ h => h) (SteadyB.of_yields (Or.inl ⟨by rfl, ?_⟩)) ?_
  rotate_left
  · intro wq hSw
    go_simp
    (try with_reducible rfl)
  try simp only [List.getElem_toArray, List.getElem_cons_zero, List.getElem_cons_succ, Act.put, List.setIfInBounds_toArray, List.set_cons_zero, List.set_cons_succ]
  refine wpAnyE_done (by kernel_rfl) (fun wz hSz => ?_) _
  have HF := hid hSz.2.2
  clear hSz HA5
  go_wp2_with fail
  go_ret
  exact ⟨rfl, HF.out⟩
theorem Law9.Awake (w : World) (htab : Tab10 w.heap.size w) : Calls Tryz.prog 85 #[] w (Ans (.bool true) w) := by
  go_enter Tryz.func85, Tryz.ntmps85
  go_wp2_with (go_at_call 24; refine (Law9.awake _ htab).mono ?_; rintro e w' ⟨rfl, hb⟩)
  go_ret
  exact ⟨rfl, hb⟩
end

/- The laws of layer 10: the chapter's example; who is near. -/
section
open Go.RowKit
theorem RdP.new1 (w : World) (t : TypeId) (a b c : Int) : RdP (w.alloc (.cells #[.int .u64 a, .int .u32 b, .int .u32 c] t)) (some ⟨w.heap.size, 0, none⟩) 1 [(a, b, c)] :=
  ⟨rfl, fun _ _ => ⟨_, 0, rfl, by simp, fun j hj => by
    rcases j with _ | j
    · simp [go_sem]
    · omega⟩⟩
theorem ex10p : PIn (10, 0, 1) := ⟨⟨by decide, by decide⟩, ⟨by decide, by decide⟩, by decide, by decide⟩
theorem ex10 : Mu.of 0 [(10, 0, 1)] = (true, (Mu.mk 0 10 1 1)) := by
  rw [of_yes 0 (l := [(10, 0, 1)]) (fun p hp => by
    simp at hp
    subst hp
    exact ⟨by decide, ex10p⟩) (by decide)]
  rfl
theorem ex10in : (Mu.mk 0 10 1 1).In := by unfold Mu.In WR; refine ⟨⟨?_, ?_⟩, ⟨?_, ?_⟩, ⟨?_, ?_⟩, ?_, ?_⟩ <;> decide
theorem ex10pl : (Mu.mk 0 10 1 1).place 0 1 2 = (true, (6, 0, 1)) := by first | rfl | decide +kernel
set_option maxRecDepth 100000 in
set_option maxHeartbeats 4000000 in
theorem Law10.awake (w : World) (htab : Tab10 w.heap.size w) : Calls Tryz.prog 41 #[] w (Ans (.bool true) w) := by
  have HT := hid htab
  have HB0 := hid ((Below.refl w.heap.size w).alloc (Nat.le_refl _) (.cells #[.int .u64 10, .int .u32 0, .int .u32 1] 29))
  have HR := hid (RdP.new1 w 29 10 0 1)
  clear htab
  go_enter Tryz.func41, Tryz.ntmps41
  go_wp2_with fail
  generalize w.alloc (.cells #[.int .u64 10, .int .u32 0, .int .u32 1] 29) = W0 at HB0 HR ⊢
  refine (Mean.of 0 ⟨by decide, by decide⟩ (some ⟨w.heap.size, 0, none⟩) 1 1 [(10, 0, 1)] _ HR.out (fun p hp => by
    simp at hp
    subst hp
    exact ex10p) (by decide)).mono ?_
  rw [ex10]
  rintro e w1 ⟨rfl, hb⟩
  have HB1 := hid (below_on (below_on HB0.out hb) ((Below.refl w1.heap.size w1).alloc (Nat.le_refl _) (.cells #[.int .u64 0, .int .i64 (hiW 10), .int .u64 (loW 10), .int .u64 1, .int .i64 1] 36)))
  have HC1 : Hid (Cs (w1.alloc (.cells #[.int .u64 0, .int .i64 (hiW 10), .int .u64 (loW 10), .int .u64 1, .int .i64 1] 36)) w1.heap.size (Mu.mk 0 10 1 1).cells) := hid (Cs.alloc_new6 w1 _ (Mu.mk 0 10 1 1).cells)
  clear hb HB0 HR
  go_wp2_with fail
  generalize w1.alloc (.cells #[.int .u64 0, .int .i64 (hiW 10), .int .u64 (loW 10), .int .u64 1, .int .i64 1] 36) = W1 at HB1 HC1 ⊢
  generalize w1.heap.size = g at HC1 ⊢
  refine (Place.place (Mu.mk 0 10 1 1) 0 1 2 ex10in (by decide) (by decide) (by decide) (by decide) _).mono ?_
  rw [ex10pl]
  rintro e w2 ⟨rfl, hb⟩
  have HB2 := hid (below_on (below_on HB1.out hb) ((Below.refl w2.heap.size w2).alloc (Nat.le_refl _) (.cells #[.int .u64 6, .int .u32 0, .int .u32 1] 29)))
  have HC2 : Hid (Cs (w2.alloc (.cells #[.int .u64 6, .int .u32 0, .int .u32 1] 29)) w2.heap.size [.int .u64 6, .int .u32 0, .int .u32 1]) := hid (Cs.alloc_new6 w2 _ [.int .u64 6, .int .u32 0, .int .u32 1])
  clear hb HB1 HC1
  go_wp2_with fail
  generalize w2.alloc (.cells #[.int .u64 6, .int .u32 0, .int .u32 1] 29) = W2 at HB2 HC2 ⊢
  generalize w2.heap.size = g2 at HC2 ⊢
  refine (Law9.Awake _ (HT.out.at2 HB2.out)).mono ?_
  rintro e w3 ⟨rfl, hb⟩
  have HB3 := hid (below_on HB2.out hb)
  have HC3 := hid (HC2.out.below hb)
  obtain ⟨m0, m1, m2⟩ := HC3.out.three
  clear hb HB2 HC2
  go_wp2_with fail
  go_ret
  exact ⟨rfl, HB3.out⟩
end

/- The chapter's example of layer 11, as the laws ask it. -/
section
open Go.RowKit
theorem Law10.Awake (w : World) (htab : Tab10 w.heap.size w) : Calls Tryz.prog 89 #[] w (Ans (.bool true) w) := by
  go_enter Tryz.func89, Tryz.ntmps89
  go_wp2_with (go_at_call 41; refine (Law10.awake _ htab).mono ?_; rintro e w' ⟨rfl, hb⟩)
  go_ret
  exact ⟨rfl, hb⟩
theorem ex11 : (Mu.mk 5 3 2 2).weigh (8, 0, 1) 2 = (true, (7, 0, 2)) := by first | rfl | decide +kernel
section
attribute [local go_sem] Pos.eqB
set_option maxRecDepth 100000 in
set_option maxHeartbeats 4000000 in
theorem Law11.awake (w : World) (htab : Tab10 w.heap.size w) : Calls Tryz.prog 44 #[] w (Ans (.bool true) w) := by
  have HT := hid htab
  have HA0 : Hid ((Cs ((w.alloc (.cells #[.int .u64 8, .int .u32 0, .int .u32 1] 29)).alloc (.cells #[.int .u64 5, .int .u32 0, .int .u32 1, .int .u64 8, .int .u32 0, .int .u32 1] 29)) w.heap.size (pcells (8, 0, 1)) ∧ RdP ((w.alloc (.cells #[.int .u64 8, .int .u32 0, .int .u32 1] 29)).alloc (.cells #[.int .u64 5, .int .u32 0, .int .u32 1, .int .u64 8, .int .u32 0, .int .u32 1] 29)) (some ⟨w.heap.size + 1, 0, none⟩) 2 [(5, 0, 1), (8, 0, 1)]) ∧ Below w.heap.size w ((w.alloc (.cells #[.int .u64 8, .int .u32 0, .int .u32 1] 29)).alloc (.cells #[.int .u64 5, .int .u32 0, .int .u32 1, .int .u64 8, .int .u32 0, .int .u32 1] 29))) := hid (by
    have h2 := RdP.new2 (w.alloc (.cells #[.int .u64 8, .int .u32 0, .int .u32 1] 29)) 29 5 0 1 8 0 1
    simp only [World.size_alloc] at h2
    exact ⟨⟨(Cs.alloc_new6 w 29 (pcells (8, 0, 1))).alloc _, h2⟩, ((Below.refl w.heap.size w).alloc (Nat.le_refl _) _).alloc (by simp) _⟩)
  clear htab
  go_enter Tryz.func44, Tryz.ntmps44
  go_wp2_with fail
  generalize ((w.alloc (.cells #[.int .u64 8, .int .u32 0, .int .u32 1] 29)).alloc (.cells #[.int .u64 5, .int .u32 0, .int .u32 1, .int .u64 8, .int .u32 0, .int .u32 1] 29)) = W0 at HA0 ⊢
  refine (Mean.of 5 ⟨by decide, by decide⟩ (some ⟨w.heap.size + 1, 0, none⟩) 2 2 [(5, 0, 1), (8, 0, 1)] _ HA0.out.1.2 (fun p hp => by
    simp at hp
    rcases hp with rfl | rfl
    · exact ⟨⟨by decide, by decide⟩, ⟨by decide, by decide⟩, by decide, by decide⟩
    · exact ⟨⟨by decide, by decide⟩, ⟨by decide, by decide⟩, by decide, by decide⟩) (by decide)).mono ?_
  rw [ex8]
  rintro e w1 ⟨rfl, hb⟩
  have ha := (Below.refl w1.heap.size w1).alloc (Nat.le_refl _) (.cells #[.int .u64 5, .int .i64 (hiW 3), .int .u64 (loW 3), .int .u64 2, .int .i64 2] 36)
  have HB1 := hid (below_on (below_on HA0.out.2 hb) ha)
  have HC1 := hid ((HA0.out.1.1.below hb).below ha)
  obtain ⟨q0, q1, q2⟩ := P3.at _ HC1.out
  clear hb ha HA0
  go_wp2_with fail
  clear q0 q1 q2
  refine (Weigh.weigh ⟨5, 3, 2, 2⟩ (8, 0, 1) 2 ex9in ex9q (by decide) (by decide) _).mono ?_
  rw [ex11]
  rintro e w2 ⟨rfl, hb⟩
  have HB2 := hid (below_on (below_on HB1.out hb) ((Below.refl w2.heap.size w2).alloc (Nat.le_refl _) (.cells #[.int .u64 7, .int .u32 0, .int .u32 2] 29)))
  have HC2 : Hid (Cs (w2.alloc (.cells #[.int .u64 7, .int .u32 0, .int .u32 2] 29)) w2.heap.size [.int .u64 7, .int .u32 0, .int .u32 2]) := hid (Cs.alloc_new6 w2 _ [.int .u64 7, .int .u32 0, .int .u32 2])
  clear hb HB1 HC1
  go_wp2_with fail
  generalize w2.alloc (.cells #[.int .u64 7, .int .u32 0, .int .u32 2] 29) = W2 at HB2 HC2 ⊢
  generalize w2.heap.size = g2 at HC2 ⊢
  refine (Law10.Awake _ (HT.out.at2 HB2.out)).mono ?_
  rintro e w3 ⟨rfl, hb⟩
  have HB3 := hid (below_on HB2.out hb)
  have HC3 := hid (HC2.out.below hb)
  obtain ⟨m0, m1, m2⟩ := HC3.out.three
  clear hb HB2 HC2
  go_wp2_with fail
  go_ret
  exact ⟨rfl, HB3.out⟩
end
theorem Law11.Awake (w : World) (htab : Tab10 w.heap.size w) : Calls Tryz.prog 94 #[] w (Ans (.bool true) w) := by
  go_enter Tryz.func94, Tryz.ntmps94
  go_wp2_with (go_at_call 44; refine (Law11.awake _ htab).mono ?_; rintro e w' ⟨rfl, hb⟩)
  go_ret
  exact ⟨rfl, hb⟩
end

/- The chapter's examples of layer 12, as the laws ask them. -/
section
open Go.RowKit
theorem ex12w : winI 1 1 = 3145728 ∧ winOk 1 1 = true := by constructor <;> decide
theorem ex12c : carI [-5, 0] = 9 := by decide
section
attribute [local go_sem] Wide.eqB
set_option maxRecDepth 100000 in
set_option maxHeartbeats 4000000 in
theorem Law12.awake (w : World) (htab : Tab10 w.heap.size w) : Calls Tryz.prog 50 #[] w (Ans (.bool true) w) := by
  have HT := hid htab
  clear htab
  go_enter Tryz.func50, Tryz.ntmps50
  go_wp2_with fail
  refine (Clamp.window 1 1 ⟨by decide, by decide⟩ ⟨by decide, by decide⟩ _).mono ?_
  rw [ex12w.1, ex12w.2]
  rintro e w1 ⟨rfl, hb⟩
  have HB1 := hid hb
  clear hb
  go_wp2_with fail
  refine (Law11.Awake _ (HT.out.at2 HB1.out)).mono ?_
  rintro e w2 ⟨rfl, hb⟩
  have HB2 := hid (below_on HB1.out hb)
  clear hb HB1
  go_wp2_with fail
  refine (Wide.ofF (x := -5) (by decide) (by decide) _).mono ?_
  rintro e w3 ⟨rfl, hb⟩
  have HB3 := hid (below_on HB2.out hb)
  clear hb HB2
  go_wp2_with fail
  refine (Wide.ofF (x := 0) (by decide) (by decide) _).mono ?_
  rintro e w4 ⟨rfl, hb⟩
  have HB4 := hid (below_on HB3.out hb)
  have HR := hid (RdW.new2 w4 34 (-5) 0)
  have HB5 := hid (HB4.out.alloc HB4.out.size (.cells #[.int .i64 (hiW (-5)), .int .u64 (loW (-5)), .int .i64 (hiW 0), .int .u64 (loW 0)] 34))
  clear hb HB3 HB4
  go_wp2_with fail
  refine (Clamp.carried (some ⟨w4.heap.size, 0, none⟩) 2 2 [-5, 0] _ HR.out (fun x hx => by
    simp at hx
    rcases hx with rfl | rfl <;> (unfold WR; omega)) (by decide)).mono ?_
  rw [ex12c]
  rintro e w5 ⟨rfl, hb⟩
  have HB6 := hid (below_on HB5.out hb)
  clear hb HB5 HR
  go_wp2_with fail
  refine (Wide.ofF (x := 9) (by decide) (by decide) _).mono ?_
  rintro e w6 ⟨rfl, hb⟩
  have HB7 := hid (below_on HB6.out hb)
  clear hb HB6
  go_wp2_with fail
  go_ret
  exact ⟨rfl, HB7.out⟩
end
end

/- ClampOrders: the walk. -/
section
open Go.RowKit
theorem Wide.cmpF {a b : Int} (ha : WR a) (hb : WR b) (w : World) : Calls Tryz.prog 60 #[wv a, wv b] w (Ans (.int .i64 (cmpI a b)) w) :=
  (Wide.cmp _ _ _ _ a b (isW_of ha) (isW_of hb) w).mono (by rintro e w' ⟨c, rfl, hc, hb⟩; exact ⟨by rw [hc.eq], hb⟩)
theorem cmpI_ltz {a b : Int} : cmpI a b < 0 ↔ a < b := by unfold cmpI; split <;> (try split) <;> omega
theorem cmpI_gtz {a b : Int} : 0 < cmpI a b ↔ b < a := by unfold cmpI; split <;> (try split) <;> omega
end

/- ClampGrows: the walk. -/
section
open Go.RowKit
theorem least_words : hiW (-170141183460469231731687303715884105728) = -9223372036854775808 ∧ loW (-170141183460469231731687303715884105728) = 0 := by unfold hiW loW; decide
theorem RdW.take {w : World} {A : Option Addr} {n : Nat} {l : List Int} (h : RdW w A n (wds l)) {k : Nat} (hk : k ≤ n) : RdW w A k (wds (l.take k)) := by
  have hl : l.length = n := by rw [← wds_length]; exact h.1
  refine ⟨by rw [wds_length, List.length_take]; omega, fun i hi => ?_⟩
  obtain ⟨b, off, e, hb, hc⟩ := h.2 i (by omega)
  refine ⟨b, off, e, hb, fun j hj => ?_⟩
  have := hc j (by omega)
  rw [wds_get (by omega)] at this
  rw [wds_get (by rw [List.length_take]; omega)]
  have e2 : (l.take k).getD j 0 = l.getD j 0 := by simp [List.getD, hj]
  rw [e2]
  exact this
theorem grow_put {w w1 : World} {gw gn : Nat} {a b c d e f : Value} (h0 : w.heap.size ≤ gw) (h1 : gw < gn) (hn : Cs w1 gn [a, b]) (hc : Cs w1 gw [c, d]) (hb : Below w.heap.size w w1) {W : World} (hW : W = w1.setCells gw 0 [e, f]) : Cs W gw [e, f] ∧ Below w.heap.size w W := by
  rw [hW]; exact ⟨Cs.putL _ 0 hc (by simp), below_sets h0 _ _ hb⟩
section
attribute [local go_sem] Wide.eqB Wide.neB
set_option maxRecDepth 100000 in
set_option maxHeartbeats 4000000 in
theorem Cgrow.away (x a b : Int) (A : Option Addr) (n c : Nat) (w : World) (hn : 40 < n) (htab : Tab10 w.heap.size w) :
    Calls Tryz.prog 14 #[wv x, .int .i64 a, .int .i64 b, .slice A n c] w (Ans (.bool true) w) := by
  have HT := hid htab
  have HB0 := hid ((Below.refl w.heap.size w).alloc (Nat.le_refl _) (.cells #[.int .i64 (hiW x), .int .u64 (loW x)] 34))
  have h2 : (40 : Int) < (n : Int) := by omega
  clear htab hn
  unfold wv
  go_enter Tryz.func14, Tryz.ntmps14
  go_wp2_with fail
  refine (Law12.awake _ (HT.out.at2 HB0.out)).mono ?_
  rintro e w1 ⟨rfl, hb⟩
  have HB1 := hid (below_on HB0.out hb)
  clear hb HT HB0
  go_wp2_with fail
  go_ret
  exact ⟨rfl, HB1.out⟩
set_option maxRecDepth 100000 in
set_option maxHeartbeats 16000000 in
theorem Cgrow.core (x a b p q : Int) (hp : min a b = p) (hq : max a b = q) (hx : WR x) (hpb : -9223372036854775808 ≤ p ∧ p ≤ 9223372036854775807) (hqb : -9223372036854775808 ≤ q ∧ q ≤ 9223372036854775807) (A : Option Addr) (n c : Nat) (l : List Int) (w : World) (hr : RdW w A n (wds l)) (hl : ∀ z ∈ l, WR z) (hn : n ≤ 40) (hnc : n ≤ c) (htab : Tab10 w.heap.size w) :
    Calls Tryz.prog 14 #[wv x, .int .i64 a, .int .i64 b, .slice A n c] w (Ans (.bool true) w) := by
  have HT := hid htab
  have HX := hid hx
  have HPB := hid hpb
  have HQB := hid hqb
  have HR := hid hr
  have HL := hid hl
  have HNC := hid hnc
  have HLN : Hid (l.length = n) := hid (by rw [← wds_length]; exact hr.1)
  have HCA := hid (clI_bd (x := x) hpb.2)
  have HCB := hid (clI_bd (x := x) hqb.2)
  have HWA : Hid (WR (clI x p)) := hid (by have := HCA.out; unfold WR; omega)
  have HWB : Hid (WR (clI x q)) := hid (by have := HCB.out; unfold WR; omega)
  have HGR := hid (clI_grows (x := x) (a := p) (b := q) (by omega) hqb.2)
  have HLS : Hid (∀ wq, Calls Tryz.prog 55 #[.agg #[.int .i64 (-9223372036854775808), .int .u64 0]] wq (Ans (wv mxW) wq)) := hid (fun wq => by
    have h := Clamp.size (-170141183460469231731687303715884105728) (by unfold WR; omega) wq
    unfold wv at h
    rw [least_words.1, least_words.2] at h
    exact h)
  have h2 : ¬ (40 : Int) < (n : Int) := by omega
  have hn40 : (n : Int) ≤ 40 := by omega
  have HB0 := hid ((Below.refl w.heap.size w).alloc (Nat.le_refl _) (.cells #[.int .i64 (hiW x), .int .u64 (loW x)] 34))
  have HC0 : Hid (Cs (w.alloc (.cells #[.int .i64 (hiW x), .int .u64 (loW x)] 34)) w.heap.size [.int .i64 (hiW x), .int .u64 (loW x)]) := hid (Cs.new2 w _ _ _)
  clear htab hx hpb hqb hr hl hnc hn
  unfold wv
  go_enter Tryz.func14, Tryz.ntmps14
  go_wp2_with fail
  refine (Law12.awake _ (HT.out.at2 HB0.out)).mono ?_
  rintro e w1 ⟨rfl, hb⟩
  have HG1 := hid (And.intro (HC0.out.below hb) (below_on HB0.out hb))
  clear hb HT HB0 HC0
  go_wp2_with fail
  refine wp_region_grow (S := fun wx => Cs wx w.heap.size [.int .i64 (hiW x), .int .u64 (loW x)] ∧ Below w.heap.size w wx) 16 (by kernel_rfl) (((fun _ _ h hb => ⟨h.1.below hb, below_on h.2 hb⟩) : Stays (fun wx => Cs wx w.heap.size [.int .i64 (hiW x), .int .u64 (loW x)] ∧ Below w.heap.size w wx)) _ _ HG1.out (Below.refl _ _).drew) ?_
  refine wpAnyE_take (i := 0) (v := ?_) (((fun _ _ h hb => ⟨h.1.below hb, below_on h.2 hb⟩) : Stays (fun wx => Cs wx w.heap.size [.int .i64 (hiW x), .int .u64 (loW x)] ∧ Below w.heap.size w wx))) (fun _ h => h) rfl (by kernel_rfl) (by kernel_rfl) (by kernel_rfl) (by kernel_rfl) (fun _ _ _ h => h) (SteadyB.of_yields (Or.inl ⟨by rfl, ?_⟩)) ?_
  rotate_left
  · intro wq hSw
    obtain ⟨x0, x1⟩ := hSw.1.two
    go_simp
    (try with_reducible rfl)
  try simp only [List.getElem_toArray, List.getElem_cons_zero, List.getElem_cons_succ, Act.put, List.setIfInBounds_toArray, List.set_cons_zero, List.set_cons_succ]
  refine wpAnyE_take (i := 1) (v := ?_) (((fun _ _ h hb => ⟨h.1.below hb, below_on h.2 hb⟩) : Stays (fun wx => Cs wx w.heap.size [.int .i64 (hiW x), .int .u64 (loW x)] ∧ Below w.heap.size w wx))) (fun _ h => h) rfl (by kernel_rfl) (by kernel_rfl) (by kernel_rfl) (by kernel_rfl) (fun _ _ _ h => h) (SteadyB.of_yields (Or.inl ⟨by rfl, ?_⟩)) ?_
  rotate_left
  · intro wq hSw
    go_simp
    (try with_reducible rfl)
  try simp only [List.getElem_toArray, List.getElem_cons_zero, List.getElem_cons_succ, Act.put, List.setIfInBounds_toArray, List.set_cons_zero, List.set_cons_succ]
  refine wpAnyE_take (i := 2) (v := ?_) (((fun _ _ h hb => ⟨h.1.below hb, below_on h.2 hb⟩) : Stays (fun wx => Cs wx w.heap.size [.int .i64 (hiW x), .int .u64 (loW x)] ∧ Below w.heap.size w wx))) (fun _ h => h) rfl (by kernel_rfl) (by kernel_rfl) (by kernel_rfl) (by kernel_rfl) (fun _ _ _ h => h) (SteadyB.of_yields (Or.inl ⟨by rfl, ?_⟩)) ?_
  rotate_left
  · intro wq hSw
    go_simp
    (try with_reducible rfl)
  try simp only [List.getElem_toArray, List.getElem_cons_zero, List.getElem_cons_succ, Act.put, List.setIfInBounds_toArray, List.set_cons_zero, List.set_cons_succ]
  refine wpAnyE_take (i := 3) (v := ?_) (((fun _ _ h hb => ⟨h.1.below hb, below_on h.2 hb⟩) : Stays (fun wx => Cs wx w.heap.size [.int .i64 (hiW x), .int .u64 (loW x)] ∧ Below w.heap.size w wx))) (fun _ h => h) rfl (by kernel_rfl) (by kernel_rfl) (by kernel_rfl) (by kernel_rfl) (fun _ _ _ h => h) (SteadyB.of_yields (Or.inl ⟨by rfl, ?_⟩)) ?_
  rotate_left
  · intro wq hSw
    go_simp
    (try with_reducible rfl)
  try simp only [List.getElem_toArray, List.getElem_cons_zero, List.getElem_cons_succ, Act.put, List.setIfInBounds_toArray, List.set_cons_zero, List.set_cons_succ]
  refine wpAnyE_take (i := 6) (v := ?_) (((fun _ _ h hb => ⟨h.1.below hb, below_on h.2 hb⟩) : Stays (fun wx => Cs wx w.heap.size [.int .i64 (hiW x), .int .u64 (loW x)] ∧ Below w.heap.size w wx))) (fun _ h => h) rfl (by kernel_rfl) (by kernel_rfl) (by kernel_rfl) (by kernel_rfl) (fun _ _ _ h => h) (SteadyB.of_yields (Or.inl ⟨by rfl, ?_⟩)) ?_
  rotate_left
  · intro wq hSw
    obtain ⟨x0, x1⟩ := hSw.1.two
    go_simp
    (try with_reducible rfl)
  try simp only [List.getElem_toArray, List.getElem_cons_zero, List.getElem_cons_succ, Act.put, List.setIfInBounds_toArray, List.set_cons_zero, List.set_cons_succ]
  refine wpAnyE_take (i := 7) (v := ?_) (((fun _ _ h hb => ⟨h.1.below hb, below_on h.2 hb⟩) : Stays (fun wx => Cs wx w.heap.size [.int .i64 (hiW x), .int .u64 (loW x)] ∧ Below w.heap.size w wx))) (fun _ h => h) rfl (by kernel_rfl) (by kernel_rfl) (by kernel_rfl) (by kernel_rfl) (fun _ _ _ h => h) (SteadyB.of_yields (Or.inl ⟨by rfl, ?_⟩)) ?_
  rotate_left
  · intro wq hSw
    go_simp
    (try with_reducible rfl)
  try simp only [List.getElem_toArray, List.getElem_cons_zero, List.getElem_cons_succ, Act.put, List.setIfInBounds_toArray, List.set_cons_zero, List.set_cons_succ]
  refine wpAnyE_take (i := 8) (v := ?_) (((fun _ _ h hb => ⟨h.1.below hb, below_on h.2 hb⟩) : Stays (fun wx => Cs wx w.heap.size [.int .i64 (hiW x), .int .u64 (loW x)] ∧ Below w.heap.size w wx))) (fun _ h => h) rfl (by kernel_rfl) (by kernel_rfl) (by kernel_rfl) (by kernel_rfl) (fun _ _ _ h => h) (SteadyB.of_yields (Or.inl ⟨by rfl, ?_⟩)) ?_
  rotate_left
  · intro wq hSw
    go_simp
    (try with_reducible rfl)
  try simp only [List.getElem_toArray, List.getElem_cons_zero, List.getElem_cons_succ, Act.put, List.setIfInBounds_toArray, List.set_cons_zero, List.set_cons_succ]
  refine wpAnyE_take (i := 9) (v := ?_) (((fun _ _ h hb => ⟨h.1.below hb, below_on h.2 hb⟩) : Stays (fun wx => Cs wx w.heap.size [.int .i64 (hiW x), .int .u64 (loW x)] ∧ Below w.heap.size w wx))) (fun _ h => h) rfl (by kernel_rfl) (by kernel_rfl) (by kernel_rfl) (by kernel_rfl) (fun _ _ _ h => h) (SteadyB.of_yields (Or.inl ⟨by rfl, ?_⟩)) ?_
  rotate_left
  · intro wq hSw
    go_simp
    (try with_reducible rfl)
  try simp only [List.getElem_toArray, List.getElem_cons_zero, List.getElem_cons_succ, Act.put, List.setIfInBounds_toArray, List.set_cons_zero, List.set_cons_succ]
  refine wpAnyE_take (i := 4) (v := .int .i64 (clI x p)) (((fun _ _ h hb => ⟨h.1.below hb, below_on h.2 hb⟩) : Stays (fun wx => Cs wx w.heap.size [.int .i64 (hiW x), .int .u64 (loW x)] ∧ Below w.heap.size w wx))) (fun _ h => h) rfl (by kernel_rfl) (by kernel_rfl) (by kernel_rfl) (by kernel_rfl) (fun _ _ _ h => h) (Or.inl ⟨by rfl, fun wq hSw => ?_⟩) ?_
  · refine RunB.of_calls (Clamp.clamp x p HX.out HPB.out.1 HPB.out.2 wq) (by go_simp) ?_
    rintro e wr ⟨rfl, hb⟩
    exact ⟨rfl, hb⟩
  try simp only [List.getElem_toArray, List.getElem_cons_zero, List.getElem_cons_succ, Act.put, List.setIfInBounds_toArray, List.set_cons_zero, List.set_cons_succ]
  refine wpAnyE_take (i := 5) (v := wv (clI x p)) (((fun _ _ h hb => ⟨h.1.below hb, below_on h.2 hb⟩) : Stays (fun wx => Cs wx w.heap.size [.int .i64 (hiW x), .int .u64 (loW x)] ∧ Below w.heap.size w wx))) (fun _ h => h) rfl (by kernel_rfl) (by kernel_rfl) (by kernel_rfl) (by kernel_rfl) (fun _ _ _ h => h) (Or.inl ⟨by rfl, fun wq hSw => ?_⟩) ?_
  · refine RunB.of_calls (Wide.ofF (x := (clI x p)) (by have := HCA.out; omega) (by have := HCA.out; omega) wq) (by go_simp) ?_
    rintro e wr ⟨rfl, hb⟩
    exact ⟨rfl, hb⟩
  try simp only [List.getElem_toArray, List.getElem_cons_zero, List.getElem_cons_succ, Act.put, List.setIfInBounds_toArray, List.set_cons_zero, List.set_cons_succ]
  refine wpAnyE_take (i := 10) (v := .int .i64 (clI x q)) (((fun _ _ h hb => ⟨h.1.below hb, below_on h.2 hb⟩) : Stays (fun wx => Cs wx w.heap.size [.int .i64 (hiW x), .int .u64 (loW x)] ∧ Below w.heap.size w wx))) (fun _ h => h) rfl (by kernel_rfl) (by kernel_rfl) (by kernel_rfl) (by kernel_rfl) (fun _ _ _ h => h) (Or.inl ⟨by rfl, fun wq hSw => ?_⟩) ?_
  · refine RunB.of_calls (Clamp.clamp x q HX.out HQB.out.1 HQB.out.2 wq) (by go_simp) ?_
    rintro e wr ⟨rfl, hb⟩
    exact ⟨rfl, hb⟩
  try simp only [List.getElem_toArray, List.getElem_cons_zero, List.getElem_cons_succ, Act.put, List.setIfInBounds_toArray, List.set_cons_zero, List.set_cons_succ]
  refine wpAnyE_take (i := 11) (v := wv (clI x q)) (((fun _ _ h hb => ⟨h.1.below hb, below_on h.2 hb⟩) : Stays (fun wx => Cs wx w.heap.size [.int .i64 (hiW x), .int .u64 (loW x)] ∧ Below w.heap.size w wx))) (fun _ h => h) rfl (by kernel_rfl) (by kernel_rfl) (by kernel_rfl) (by kernel_rfl) (fun _ _ _ h => h) (Or.inl ⟨by rfl, fun wq hSw => ?_⟩) ?_
  · refine RunB.of_calls (Wide.ofF (x := (clI x q)) (by have := HCB.out; omega) (by have := HCB.out; omega) wq) (by go_simp) ?_
    rintro e wr ⟨rfl, hb⟩
    exact ⟨rfl, hb⟩
  try simp only [List.getElem_toArray, List.getElem_cons_zero, List.getElem_cons_succ, Act.put, List.setIfInBounds_toArray, List.set_cons_zero, List.set_cons_succ]
  refine wpAnyE_alloc2 (i := 12) (j := 13) (fun wx g => Cs wx g [.int .i64 0, .int .u64 0] ∧ w.heap.size < g) rfl rfl (by kernel_rfl) (by kernel_rfl) (by kernel_rfl) (by decide) (by decide) (by decide) (by kernel_rfl) (fun _ => rfl) (fun _ => rfl) (((fun _ _ h hb => ⟨h.1.below hb, below_on h.2 hb⟩) : Stays (fun wx => Cs wx w.heap.size [.int .i64 (hiW x), .int .u64 (loW x)] ∧ Below w.heap.size w wx))) (fun _ h => h) (fun g => (fun _ _ h hb => ⟨h.1.below hb, h.2⟩)) (fun _ _ h => h.1.lt) (fun aq wq hSw => ?_) (fun aq wq hSw => ?_) (fun gA gB gAB => ?_)
  · exact ⟨_, by go_simp; (try with_reducible rfl), (Below.refl _ _).alloc (Nat.le_refl _) _, Cs.new2 _ _ _ _, hSw.1.lt⟩
  · exact ⟨_, by go_simp; (try with_reducible rfl), (Below.refl _ _).alloc (Nat.le_refl _) _, Cs.new2 _ _ _ _, hSw.1.lt⟩
  try simp only [List.getElem_toArray, List.getElem_cons_zero, List.getElem_cons_succ, Act.put, List.setIfInBounds_toArray, List.set_cons_zero, List.set_cons_succ]
  refine wpAnyE_store (i := 14) (fun wx => (fun wx => Cs wx w.heap.size [.int .i64 (hiW x), .int .u64 (loW x)] ∧ Below w.heap.size w wx) wx ∧ ((Cs wx gA [.int .i64 (hiW (clI x p)), .int .u64 (loW (clI x p))] ∧ w.heap.size < gA) ∧ (Cs wx gB [.int .i64 0, .int .u64 0] ∧ w.heap.size < gB))) 34 [.int .i64 (hiW (clI x p)), .int .u64 (loW (clI x p))] [.int .i64 0, .int .u64 0] gA infoWide (.tmp 9) (.tmp 26) rfl rfl (by kernel_rfl) (by decide) (by rfl) ?st14_1a ?st14_1b ?st14_1c ?st14_1d ?st14_1e (fun _ h => h.1.2.1) (fun _ h => ⟨⟨h.1.1.1.fars (by have := h.1.2.2; omega) _ _, below_sets (by have := h.1.2.2; omega) _ _ h.1.1.2⟩, ⟨Cs.putL _ 0 h.1.2.1 (by simp), h.1.2.2⟩, ⟨h.2.1.fars (by omega) _ _, h.2.2⟩⟩) (fun _ h => h.1) ((Stays.and_ ((fun _ _ h hb => ⟨h.1.below hb, below_on h.2 hb⟩) : Stays (fun wx => Cs wx w.heap.size [.int .i64 (hiW x), .int .u64 (loW x)] ∧ Below w.heap.size w wx)) (fun _ _ h hb => ⟨⟨h.1.1.below hb, h.1.2⟩, h.2.1.below hb, h.2.2⟩))) ?st14_1f
  case st14_1a => rfl
  case st14_1b => rfl
  case st14_1c => rfl
  case st14_1d => rfl
  case st14_1e => rfl
  try simp only [List.getElem_toArray, List.getElem_cons_zero, List.getElem_cons_succ, Act.put, List.setIfInBounds_toArray, List.set_cons_zero, List.set_cons_succ]
  refine wpAnyE_store (i := 15) (fun wx => (fun wx => Cs wx w.heap.size [.int .i64 (hiW x), .int .u64 (loW x)] ∧ Below w.heap.size w wx) wx ∧ ((Cs wx gA [.int .i64 (hiW (clI x p)), .int .u64 (loW (clI x p))] ∧ w.heap.size < gA) ∧ (Cs wx gB [.int .i64 (hiW (clI x q)), .int .u64 (loW (clI x q))] ∧ w.heap.size < gB))) 34 [.int .i64 (hiW (clI x q)), .int .u64 (loW (clI x q))] [.int .i64 0, .int .u64 0] gB infoWide (.tmp 10) (.tmp 32) rfl rfl (by kernel_rfl) (by decide) (by rfl) ?st15_2a ?st15_2b ?st15_2c ?st15_2d ?st15_2e (fun _ h => h.2.2.1) (fun _ h => ⟨⟨h.1.1.fars (by have := h.2.2.2; omega) _ _, below_sets (by have := h.2.2.2; omega) _ _ h.1.2⟩, ⟨h.2.1.1.fars (by omega) _ _, h.2.1.2⟩, Cs.putL _ 0 h.2.2.1 (by simp), h.2.2.2⟩) (fun _ h => h.1) ((Stays.and_ ((fun _ _ h hb => ⟨h.1.below hb, below_on h.2 hb⟩) : Stays (fun wx => Cs wx w.heap.size [.int .i64 (hiW x), .int .u64 (loW x)] ∧ Below w.heap.size w wx)) (fun _ _ h hb => ⟨⟨h.1.1.below hb, h.1.2⟩, h.2.1.below hb, h.2.2⟩))) ?st15_2f
  case st15_2a => rfl
  case st15_2b => rfl
  case st15_2c => rfl
  case st15_2d => rfl
  case st15_2e => rfl
  try simp only [List.getElem_toArray, List.getElem_cons_zero, List.getElem_cons_succ, Act.put, List.setIfInBounds_toArray, List.set_cons_zero, List.set_cons_succ]
  refine wpAnyE_done (by kernel_rfl) (fun wz hSz => ?_) _
  have HG2 : Hid ((Cs wz w.heap.size [.int .i64 (hiW x), .int .u64 (loW x)] ∧ Cs wz gA [.int .i64 (hiW (clI x p)), .int .u64 (loW (clI x p))] ∧ Cs wz gB [.int .i64 (hiW (clI x q)), .int .u64 (loW (clI x q))]) ∧ Below w.heap.size w wz) := hid ⟨⟨hSz.1.1, hSz.2.1.1, hSz.2.2.1⟩, hSz.1.2⟩
  clear hSz HG1 hp hq
  have k1 : ¬ 0 < cmpI (szI (clI x p)) (szI (clI x q)) := fun h => by have := cmpI_gtz.1 h; have := HGR.out; omega
  have k2 : ¬ cmpI (szI x) 0 < 0 := fun h => by have := cmpI_lt0.1 h; have := (szI_bd HX.out).1; omega
  have k1d : decide (0 < cmpI (szI (clI x p)) (szI (clI x q))) = false := decide_eq_false k1
  have k2d : decide (cmpI (szI x) 0 < 0) = false := decide_eq_false k2
  go_wp2_with fail
  refine wp_region_grow (S := fun wx => (Cs wx w.heap.size [.int .i64 (hiW x), .int .u64 (loW x)] ∧ Cs wx gA [.int .i64 (hiW (clI x p)), .int .u64 (loW (clI x p))] ∧ Cs wx gB [.int .i64 (hiW (clI x q)), .int .u64 (loW (clI x q))]) ∧ Below w.heap.size w wx) 12 (by kernel_rfl) (((fun _ _ h hb => ⟨⟨h.1.1.below hb, h.1.2.1.below hb, h.1.2.2.below hb⟩, below_on h.2 hb⟩) : Stays (fun wx => (Cs wx w.heap.size [.int .i64 (hiW x), .int .u64 (loW x)] ∧ Cs wx gA [.int .i64 (hiW (clI x p)), .int .u64 (loW (clI x p))] ∧ Cs wx gB [.int .i64 (hiW (clI x q)), .int .u64 (loW (clI x q))]) ∧ Below w.heap.size w wx)) _ _ HG2.out (Below.refl _ _).drew) ?_
  refine wpAnyE_take (i := 0) (v := ?_) (((fun _ _ h hb => ⟨⟨h.1.1.below hb, h.1.2.1.below hb, h.1.2.2.below hb⟩, below_on h.2 hb⟩) : Stays (fun wx => (Cs wx w.heap.size [.int .i64 (hiW x), .int .u64 (loW x)] ∧ Cs wx gA [.int .i64 (hiW (clI x p)), .int .u64 (loW (clI x p))] ∧ Cs wx gB [.int .i64 (hiW (clI x q)), .int .u64 (loW (clI x q))]) ∧ Below w.heap.size w wx))) (fun _ h => h) rfl (by kernel_rfl) (by kernel_rfl) (by kernel_rfl) (by kernel_rfl) (fun _ _ _ h => h) (SteadyB.of_yields (Or.inl ⟨by rfl, ?_⟩)) ?_
  rotate_left
  · intro wq hSw
    obtain ⟨x0, x1⟩ := hSw.1.1.two
    obtain ⟨a0, a1⟩ := hSw.1.2.1.two
    obtain ⟨b0, b1⟩ := hSw.1.2.2.two
    go_simp
    (try with_reducible rfl)
  try simp only [List.getElem_toArray, List.getElem_cons_zero, List.getElem_cons_succ, Act.put, List.setIfInBounds_toArray, List.set_cons_zero, List.set_cons_succ]
  refine wpAnyE_take (i := 2) (v := ?_) (((fun _ _ h hb => ⟨⟨h.1.1.below hb, h.1.2.1.below hb, h.1.2.2.below hb⟩, below_on h.2 hb⟩) : Stays (fun wx => (Cs wx w.heap.size [.int .i64 (hiW x), .int .u64 (loW x)] ∧ Cs wx gA [.int .i64 (hiW (clI x p)), .int .u64 (loW (clI x p))] ∧ Cs wx gB [.int .i64 (hiW (clI x q)), .int .u64 (loW (clI x q))]) ∧ Below w.heap.size w wx))) (fun _ h => h) rfl (by kernel_rfl) (by kernel_rfl) (by kernel_rfl) (by kernel_rfl) (fun _ _ _ h => h) (SteadyB.of_yields (Or.inl ⟨by rfl, ?_⟩)) ?_
  rotate_left
  · intro wq hSw
    obtain ⟨x0, x1⟩ := hSw.1.1.two
    obtain ⟨a0, a1⟩ := hSw.1.2.1.two
    obtain ⟨b0, b1⟩ := hSw.1.2.2.two
    go_simp
    (try with_reducible rfl)
  try simp only [List.getElem_toArray, List.getElem_cons_zero, List.getElem_cons_succ, Act.put, List.setIfInBounds_toArray, List.set_cons_zero, List.set_cons_succ]
  refine wpAnyE_take (i := 1) (v := wv (szI (clI x p))) (((fun _ _ h hb => ⟨⟨h.1.1.below hb, h.1.2.1.below hb, h.1.2.2.below hb⟩, below_on h.2 hb⟩) : Stays (fun wx => (Cs wx w.heap.size [.int .i64 (hiW x), .int .u64 (loW x)] ∧ Cs wx gA [.int .i64 (hiW (clI x p)), .int .u64 (loW (clI x p))] ∧ Cs wx gB [.int .i64 (hiW (clI x q)), .int .u64 (loW (clI x q))]) ∧ Below w.heap.size w wx))) (fun _ h => h) rfl (by kernel_rfl) (by kernel_rfl) (by kernel_rfl) (by kernel_rfl) (fun _ _ _ h => h) (Or.inl ⟨by rfl, fun wq hSw => ?_⟩) ?_
  · refine RunB.of_calls (Clamp.size _ HWA.out wq) (by go_simp) ?_
    rintro e wr ⟨rfl, hb⟩
    exact ⟨rfl, hb⟩
  try simp only [List.getElem_toArray, List.getElem_cons_zero, List.getElem_cons_succ, Act.put, List.setIfInBounds_toArray, List.set_cons_zero, List.set_cons_succ]
  refine wpAnyE_take (i := 3) (v := wv (szI (clI x q))) (((fun _ _ h hb => ⟨⟨h.1.1.below hb, h.1.2.1.below hb, h.1.2.2.below hb⟩, below_on h.2 hb⟩) : Stays (fun wx => (Cs wx w.heap.size [.int .i64 (hiW x), .int .u64 (loW x)] ∧ Cs wx gA [.int .i64 (hiW (clI x p)), .int .u64 (loW (clI x p))] ∧ Cs wx gB [.int .i64 (hiW (clI x q)), .int .u64 (loW (clI x q))]) ∧ Below w.heap.size w wx))) (fun _ h => h) rfl (by kernel_rfl) (by kernel_rfl) (by kernel_rfl) (by kernel_rfl) (fun _ _ _ h => h) (Or.inl ⟨by rfl, fun wq hSw => ?_⟩) ?_
  · refine RunB.of_calls (Clamp.size _ HWB.out wq) (by go_simp) ?_
    rintro e wr ⟨rfl, hb⟩
    exact ⟨rfl, hb⟩
  try simp only [List.getElem_toArray, List.getElem_cons_zero, List.getElem_cons_succ, Act.put, List.setIfInBounds_toArray, List.set_cons_zero, List.set_cons_succ]
  refine wpAnyE_take (i := 4) (v := .int .i64 (cmpI (szI (clI x p)) (szI (clI x q)))) (((fun _ _ h hb => ⟨⟨h.1.1.below hb, h.1.2.1.below hb, h.1.2.2.below hb⟩, below_on h.2 hb⟩) : Stays (fun wx => (Cs wx w.heap.size [.int .i64 (hiW x), .int .u64 (loW x)] ∧ Cs wx gA [.int .i64 (hiW (clI x p)), .int .u64 (loW (clI x p))] ∧ Cs wx gB [.int .i64 (hiW (clI x q)), .int .u64 (loW (clI x q))]) ∧ Below w.heap.size w wx))) (fun _ h => h) rfl (by kernel_rfl) (by kernel_rfl) (by kernel_rfl) (by kernel_rfl) (fun _ _ _ h => h) (Or.inl ⟨by rfl, fun wq hSw => ?_⟩) ?_
  · refine RunB.of_calls (Wide.cmpF (szI_wr HWA.out) (szI_wr HWB.out) wq) (by go_simp) ?_
    rintro e wr ⟨rfl, hb⟩
    exact ⟨rfl, hb⟩
  try simp only [List.getElem_toArray, List.getElem_cons_zero, List.getElem_cons_succ, Act.put, List.setIfInBounds_toArray, List.set_cons_zero, List.set_cons_succ]
  refine wpAnyE_take (i := 5) (v := ?_) (((fun _ _ h hb => ⟨⟨h.1.1.below hb, h.1.2.1.below hb, h.1.2.2.below hb⟩, below_on h.2 hb⟩) : Stays (fun wx => (Cs wx w.heap.size [.int .i64 (hiW x), .int .u64 (loW x)] ∧ Cs wx gA [.int .i64 (hiW (clI x p)), .int .u64 (loW (clI x p))] ∧ Cs wx gB [.int .i64 (hiW (clI x q)), .int .u64 (loW (clI x q))]) ∧ Below w.heap.size w wx))) (fun _ h => h) rfl (by kernel_rfl) (by kernel_rfl) (by kernel_rfl) (by kernel_rfl) (fun _ _ _ h => h) (SteadyB.of_yields (Or.inl ⟨by rfl, ?_⟩)) ?_
  rotate_left
  · intro wq hSw
    go_simp
    (try with_reducible rfl)
  try simp only [List.getElem_toArray, List.getElem_cons_zero, List.getElem_cons_succ, Act.put, List.setIfInBounds_toArray, List.set_cons_zero, List.set_cons_succ]
  refine wpAnyE_take (i := 6) (v := ?_) (((fun _ _ h hb => ⟨⟨h.1.1.below hb, h.1.2.1.below hb, h.1.2.2.below hb⟩, below_on h.2 hb⟩) : Stays (fun wx => (Cs wx w.heap.size [.int .i64 (hiW x), .int .u64 (loW x)] ∧ Cs wx gA [.int .i64 (hiW (clI x p)), .int .u64 (loW (clI x p))] ∧ Cs wx gB [.int .i64 (hiW (clI x q)), .int .u64 (loW (clI x q))]) ∧ Below w.heap.size w wx))) (fun _ h => h) rfl (by kernel_rfl) (by kernel_rfl) (by kernel_rfl) (by kernel_rfl) (fun _ _ _ h => h) (SteadyB.of_yields (Or.inl ⟨by rfl, ?_⟩)) ?_
  rotate_left
  · intro wq hSw
    go_simp
    (try with_reducible rfl)
  try simp only [List.getElem_toArray, List.getElem_cons_zero, List.getElem_cons_succ, Act.put, List.setIfInBounds_toArray, List.set_cons_zero, List.set_cons_succ]
  refine wpAnyE_take (i := 7) (v := ?_) (((fun _ _ h hb => ⟨⟨h.1.1.below hb, h.1.2.1.below hb, h.1.2.2.below hb⟩, below_on h.2 hb⟩) : Stays (fun wx => (Cs wx w.heap.size [.int .i64 (hiW x), .int .u64 (loW x)] ∧ Cs wx gA [.int .i64 (hiW (clI x p)), .int .u64 (loW (clI x p))] ∧ Cs wx gB [.int .i64 (hiW (clI x q)), .int .u64 (loW (clI x q))]) ∧ Below w.heap.size w wx))) (fun _ h => h) rfl (by kernel_rfl) (by kernel_rfl) (by kernel_rfl) (by kernel_rfl) (fun _ _ _ h => h) (SteadyB.of_yields (Or.inl ⟨by rfl, ?_⟩)) ?_
  rotate_left
  · intro wq hSw
    obtain ⟨x0, x1⟩ := hSw.1.1.two
    obtain ⟨a0, a1⟩ := hSw.1.2.1.two
    obtain ⟨b0, b1⟩ := hSw.1.2.2.two
    go_simp
    (try with_reducible rfl)
  try simp only [List.getElem_toArray, List.getElem_cons_zero, List.getElem_cons_succ, Act.put, List.setIfInBounds_toArray, List.set_cons_zero, List.set_cons_succ]
  refine wpAnyE_take (i := 8) (v := wv (szI x)) (((fun _ _ h hb => ⟨⟨h.1.1.below hb, h.1.2.1.below hb, h.1.2.2.below hb⟩, below_on h.2 hb⟩) : Stays (fun wx => (Cs wx w.heap.size [.int .i64 (hiW x), .int .u64 (loW x)] ∧ Cs wx gA [.int .i64 (hiW (clI x p)), .int .u64 (loW (clI x p))] ∧ Cs wx gB [.int .i64 (hiW (clI x q)), .int .u64 (loW (clI x q))]) ∧ Below w.heap.size w wx))) (fun _ h => h) rfl (by kernel_rfl) (by kernel_rfl) (by kernel_rfl) (by kernel_rfl) (fun _ _ _ h => h) (Or.inl ⟨by rfl, fun wq hSw => ?_⟩) ?_
  · refine RunB.of_calls (Clamp.size x HX.out wq) (by go_simp) ?_
    rintro e wr ⟨rfl, hb⟩
    exact ⟨rfl, hb⟩
  try simp only [List.getElem_toArray, List.getElem_cons_zero, List.getElem_cons_succ, Act.put, List.setIfInBounds_toArray, List.set_cons_zero, List.set_cons_succ]
  refine wpAnyE_take (i := 9) (v := .int .i64 (cmpI (szI x) 0)) (((fun _ _ h hb => ⟨⟨h.1.1.below hb, h.1.2.1.below hb, h.1.2.2.below hb⟩, below_on h.2 hb⟩) : Stays (fun wx => (Cs wx w.heap.size [.int .i64 (hiW x), .int .u64 (loW x)] ∧ Cs wx gA [.int .i64 (hiW (clI x p)), .int .u64 (loW (clI x p))] ∧ Cs wx gB [.int .i64 (hiW (clI x q)), .int .u64 (loW (clI x q))]) ∧ Below w.heap.size w wx))) (fun _ h => h) rfl (by kernel_rfl) (by kernel_rfl) (by kernel_rfl) (by kernel_rfl) (fun _ _ _ h => h) (Or.inl ⟨by rfl, fun wq hSw => ?_⟩) ?_
  · refine RunB.of_calls (Wide.signF (szI_wr HX.out) wq) (by go_simp) ?_
    rintro e wr ⟨rfl, hb⟩
    exact ⟨rfl, hb⟩
  try simp only [List.getElem_toArray, List.getElem_cons_zero, List.getElem_cons_succ, Act.put, List.setIfInBounds_toArray, List.set_cons_zero, List.set_cons_succ]
  refine wpAnyE_take (i := 10) (v := ?_) (((fun _ _ h hb => ⟨⟨h.1.1.below hb, h.1.2.1.below hb, h.1.2.2.below hb⟩, below_on h.2 hb⟩) : Stays (fun wx => (Cs wx w.heap.size [.int .i64 (hiW x), .int .u64 (loW x)] ∧ Cs wx gA [.int .i64 (hiW (clI x p)), .int .u64 (loW (clI x p))] ∧ Cs wx gB [.int .i64 (hiW (clI x q)), .int .u64 (loW (clI x q))]) ∧ Below w.heap.size w wx))) (fun _ h => h) rfl (by kernel_rfl) (by kernel_rfl) (by kernel_rfl) (by kernel_rfl) (fun _ _ _ h => h) (SteadyB.of_yields (Or.inl ⟨by rfl, ?_⟩)) ?_
  rotate_left
  · intro wq hSw
    go_simp
    (try with_reducible rfl)
  try simp only [List.getElem_toArray, List.getElem_cons_zero, List.getElem_cons_succ, Act.put, List.setIfInBounds_toArray, List.set_cons_zero, List.set_cons_succ]
  refine wpAnyE_take (i := 11) (v := ?_) (((fun _ _ h hb => ⟨⟨h.1.1.below hb, h.1.2.1.below hb, h.1.2.2.below hb⟩, below_on h.2 hb⟩) : Stays (fun wx => (Cs wx w.heap.size [.int .i64 (hiW x), .int .u64 (loW x)] ∧ Cs wx gA [.int .i64 (hiW (clI x p)), .int .u64 (loW (clI x p))] ∧ Cs wx gB [.int .i64 (hiW (clI x q)), .int .u64 (loW (clI x q))]) ∧ Below w.heap.size w wx))) (fun _ h => h) rfl (by kernel_rfl) (by kernel_rfl) (by kernel_rfl) (by kernel_rfl) (fun _ _ _ h => h) (SteadyB.of_yields (Or.inl ⟨by rfl, ?_⟩)) ?_
  rotate_left
  · intro wq hSw
    go_simp
    (try with_reducible rfl)
  try simp only [List.getElem_toArray, List.getElem_cons_zero, List.getElem_cons_succ, Act.put, List.setIfInBounds_toArray, List.set_cons_zero, List.set_cons_succ]
  refine wpAnyE_done (by kernel_rfl) (fun wz hSz => ?_) _
  have HB3 := hid hSz.2
  clear hSz HG2 gAB k1 k2 k1d k2d
  go_wp2_with fail
  refine (Clamp.carried none 0 0 [] _ ⟨rfl, fun i hi => absurd hi (by omega)⟩ (by simp) (by decide)).mono ?_
  rw [carI_nil]
  rintro e w4 ⟨rfl, hb⟩
  have ha := (Below.refl w4.heap.size w4).alloc (Nat.le_refl _) (.cells #[.int .i64 (hiW 0), .int .u64 (loW 0)] 34)
  have HG4 : Hid ((Cs (w4.alloc (.cells #[.int .i64 (hiW 0), .int .u64 (loW 0)] 34)) w4.heap.size [.int .i64 (hiW (carI (l.take 0))), .int .u64 (loW (carI (l.take 0)))] ∧ w.heap.size ≤ w4.heap.size) ∧ Below w.heap.size w (w4.alloc (.cells #[.int .i64 (hiW 0), .int .u64 (loW 0)] 34))) := hid ⟨⟨by rw [List.take_zero, carI_nil]; exact Cs.new2 w4 _ _ _, (below_on HB3.out hb).size⟩, below_on (below_on HB3.out hb) ha⟩
  clear hb ha HB3
  go_wp2_with fail
  generalize w4.alloc (.cells #[.int .i64 (hiW 0), .int .u64 (loW 0)] 34) = W4 at HG4 ⊢
  generalize w4.heap.size = gw at HG4 ⊢
  go_loopg [48] n (fun s i wr => ∃ k : Nat, i = .int .i64 k ∧ k ≤ n ∧ s = n - k ∧ (Cs wr gw [.int .i64 (hiW (carI (l.take k))), .int .u64 (loW (carI (l.take k)))] ∧ w.heap.size ≤ gw) ∧ Below w.heap.size w wr)
  case atStart => exact ⟨0, rfl, Nat.zero_le _, by omega, HG4.out⟩
  case round =>
    obtain ⟨k, rfl, hk, hs, hg⟩ := hrel
    have HS := hid hs
    have HG := hid hg
    clear hs hg HG4
    by_cases hkn : k < n
    · obtain ⟨bb, off, hA, _, _⟩ := (HR.out.below HG.out.2).2 k hkn
      subst hA
      have hki : (k : Int) < n := by omega
      have hk1 : IntKind.i64.wrap ((k : Int) + 1) = (k : Int) + 1 := by rw [IntKind.wrap_i64]; omega
      have hk2 : wrap64 ((k : Int) + 1) = (k : Int) + 1 := by unfold wrap64; omega
      have hk3 : (k : Int) + 1 ≤ c := by have := HNC.out; omega
      have hk4 : ((k : Int) + 1).toNat = k + 1 := by omega
      have hk5 : k + 1 ≤ c := by have := HNC.out; omega
      have hkl : k < l.length := by have := HLN.out; omega
      have HCG := hid (carI_grows HL.out hkl)
      have HWT : Hid (∀ j, ∀ z ∈ l.take j, WR z) := hid (fun j z hz => HL.out z (List.mem_of_mem_take hz))
      have HBB := hid (carI_bd (HWT.out (k + 1)))
      have HAA := hid (carI_bd (HWT.out k))
      have HRT := hid (HR.out.take (k := k + 1) (by omega))
      go_wp2_with fail
      refine (Clamp.carried (some ⟨bb, off, none⟩) (k + 1) c (l.take (k + 1)) _ (HRT.out.below HG.out.2) (HWT.out _) (by omega)).mono ?_
      obtain ⟨B, hB⟩ : ∃ B, carI (l.take (k + 1)) = B := ⟨_, rfl⟩
      obtain ⟨Aw, hAw⟩ : ∃ Aw, carI (l.take k) = Aw := ⟨_, rfl⟩
      have HBE := hid hB
      rw [hB] at HCG HBB ⊢
      rw [hAw] at HCG HAA HG
      clear hB hAw hk3 hk4 hk5 hkl HRT HWT
      have HBW : Hid (WR B) := hid (by have := HBB.out; unfold mxW at this; unfold WR; omega)
      have HAW : Hid (WR Aw) := hid (by have := HAA.out; unfold mxW at this; unfold WR; omega)
      have HDW : Hid (WR (B - Aw)) := hid (by have := HBB.out; have := HAA.out; have := HCG.out.1; unfold mxW at *; unfold WR; omega)
      rintro e w5 ⟨rfl, hb⟩
      have ha := (Below.refl w5.heap.size w5).alloc (Nat.le_refl _) (.cells #[.int .i64 (hiW B), .int .u64 (loW B)] 34)
      have HG4 : Hid (((Cs (w5.alloc (.cells #[.int .i64 (hiW B), .int .u64 (loW B)] 34)) w5.heap.size [.int .i64 (hiW B), .int .u64 (loW B)] ∧ Cs (w5.alloc (.cells #[.int .i64 (hiW B), .int .u64 (loW B)] 34)) gw [.int .i64 (hiW Aw), .int .u64 (loW Aw)]) ∧ gw < w5.heap.size) ∧ Below w.heap.size w (w5.alloc (.cells #[.int .i64 (hiW B), .int .u64 (loW B)] 34))) := hid ⟨⟨⟨Cs.new2 w5 _ _ _, (HG.out.1.1.below hb).below ha⟩, (HG.out.1.1.below hb).lt⟩, below_on (below_on HG.out.2 hb) ha⟩
      have HGW := hid HG.out.1.2
      clear hb ha HG
      obtain ⟨a0, a1⟩ := HG4.out.1.1.2.two
      go_wp2_with fail
      clear a0 a1
      generalize w5.alloc (.cells #[.int .i64 (hiW B), .int .u64 (loW B)] 34) = W5 at HG4 ⊢
      generalize w5.heap.size = gn at HG4 ⊢
      refine (Wide.subF HBW.out HAW.out _).mono ?_
      rw [clW_ok (okW_iff.2 HDW.out), okW_iff.2 HDW.out]
      rintro e w6 ⟨rfl, hb⟩
      have ha := (Below.refl w6.heap.size w6).alloc (Nat.le_refl _) (.cells #[.int .i64 (hiW (B - Aw)), .int .u64 (loW (B - Aw))] 34)
      have HG5 : Hid ((Cs (w6.alloc (.cells #[.int .i64 (hiW (B - Aw)), .int .u64 (loW (B - Aw))] 34)) gn [.int .i64 (hiW B), .int .u64 (loW B)] ∧ Cs (w6.alloc (.cells #[.int .i64 (hiW (B - Aw)), .int .u64 (loW (B - Aw))] 34)) gw [.int .i64 (hiW Aw), .int .u64 (loW Aw)] ∧ Cs (w6.alloc (.cells #[.int .i64 (hiW (B - Aw)), .int .u64 (loW (B - Aw))] 34)) w6.heap.size [.int .i64 (hiW (B - Aw)), .int .u64 (loW (B - Aw))]) ∧ Below w.heap.size w (w6.alloc (.cells #[.int .i64 (hiW (B - Aw)), .int .u64 (loW (B - Aw))] 34))) := hid ⟨⟨(HG4.out.1.1.1.below hb).below ha, (HG4.out.1.1.2.below hb).below ha, Cs.new2 w6 _ _ _⟩, below_on (below_on HG4.out.2 hb) ha⟩
      have HGN := hid HG4.out.1.2
      clear hb ha HG4
      go_wp2_with fail
      generalize w6.alloc (.cells #[.int .i64 (hiW (B - Aw)), .int .u64 (loW (B - Aw))] 34) = W6 at HG5 ⊢
      generalize w6.heap.size = gd at HG5 ⊢
      have k1 : ¬ cmpI B Aw < 0 := fun h => by have := cmpI_ltz.1 h; have := HCG.out.1; omega
      have k1d : decide (cmpI B Aw < 0) = false := decide_eq_false k1
      by_cases c2 : cmpI (B - Aw) 2 < 0
      · have c2d : decide (cmpI (B - Aw) 2 < 0) = true := decide_eq_true c2
        have HBM : Hid (B = mxW) := hid (HCG.out.2 (cmpI_ltz.1 c2))
        have hbm : hiW B = hiW mxW := by rw [HBM.out]
        have lbm : loW B = loW mxW := by rw [HBM.out]
        refine wp_region_grow (S := fun wx => (Cs wx gn [.int .i64 (hiW B), .int .u64 (loW B)] ∧ Cs wx gw [.int .i64 (hiW Aw), .int .u64 (loW Aw)] ∧ Cs wx gd [.int .i64 (hiW (B - Aw)), .int .u64 (loW (B - Aw))]) ∧ Below w.heap.size w wx) 19 (by kernel_rfl) (((fun _ _ h hb => ⟨⟨h.1.1.below hb, h.1.2.1.below hb, h.1.2.2.below hb⟩, below_on h.2 hb⟩) : Stays (fun wx => (Cs wx gn [.int .i64 (hiW B), .int .u64 (loW B)] ∧ Cs wx gw [.int .i64 (hiW Aw), .int .u64 (loW Aw)] ∧ Cs wx gd [.int .i64 (hiW (B - Aw)), .int .u64 (loW (B - Aw))]) ∧ Below w.heap.size w wx)) _ _ HG5.out (Below.refl _ _).drew) ?_
        refine wpAnyE_take (i := 0) (v := ?_) (((fun _ _ h hb => ⟨⟨h.1.1.below hb, h.1.2.1.below hb, h.1.2.2.below hb⟩, below_on h.2 hb⟩) : Stays (fun wx => (Cs wx gn [.int .i64 (hiW B), .int .u64 (loW B)] ∧ Cs wx gw [.int .i64 (hiW Aw), .int .u64 (loW Aw)] ∧ Cs wx gd [.int .i64 (hiW (B - Aw)), .int .u64 (loW (B - Aw))]) ∧ Below w.heap.size w wx))) (fun _ h => h) rfl (by kernel_rfl) (by kernel_rfl) (by kernel_rfl) (by kernel_rfl) (fun _ _ _ h => h) (SteadyB.of_yields (Or.inl ⟨by rfl, ?_⟩)) ?_
        rotate_left
        · intro wq hSw
          obtain ⟨n0, n1⟩ := hSw.1.1.two
          obtain ⟨a0, a1⟩ := hSw.1.2.1.two
          obtain ⟨d0, d1⟩ := hSw.1.2.2.two
          go_simp
          (try with_reducible rfl)
        try simp only [List.getElem_toArray, List.getElem_cons_zero, List.getElem_cons_succ, Act.put, List.setIfInBounds_toArray, List.set_cons_zero, List.set_cons_succ]
        refine wpAnyE_take (i := 1) (v := ?_) (((fun _ _ h hb => ⟨⟨h.1.1.below hb, h.1.2.1.below hb, h.1.2.2.below hb⟩, below_on h.2 hb⟩) : Stays (fun wx => (Cs wx gn [.int .i64 (hiW B), .int .u64 (loW B)] ∧ Cs wx gw [.int .i64 (hiW Aw), .int .u64 (loW Aw)] ∧ Cs wx gd [.int .i64 (hiW (B - Aw)), .int .u64 (loW (B - Aw))]) ∧ Below w.heap.size w wx))) (fun _ h => h) rfl (by kernel_rfl) (by kernel_rfl) (by kernel_rfl) (by kernel_rfl) (fun _ _ _ h => h) (SteadyB.of_yields (Or.inl ⟨by rfl, ?_⟩)) ?_
        rotate_left
        · intro wq hSw
          obtain ⟨n0, n1⟩ := hSw.1.1.two
          obtain ⟨a0, a1⟩ := hSw.1.2.1.two
          obtain ⟨d0, d1⟩ := hSw.1.2.2.two
          go_simp
          (try with_reducible rfl)
        try simp only [List.getElem_toArray, List.getElem_cons_zero, List.getElem_cons_succ, Act.put, List.setIfInBounds_toArray, List.set_cons_zero, List.set_cons_succ]
        refine wpAnyE_take (i := 2) (v := .int .i64 (cmpI B Aw)) (((fun _ _ h hb => ⟨⟨h.1.1.below hb, h.1.2.1.below hb, h.1.2.2.below hb⟩, below_on h.2 hb⟩) : Stays (fun wx => (Cs wx gn [.int .i64 (hiW B), .int .u64 (loW B)] ∧ Cs wx gw [.int .i64 (hiW Aw), .int .u64 (loW Aw)] ∧ Cs wx gd [.int .i64 (hiW (B - Aw)), .int .u64 (loW (B - Aw))]) ∧ Below w.heap.size w wx))) (fun _ h => h) rfl (by kernel_rfl) (by kernel_rfl) (by kernel_rfl) (by kernel_rfl) (fun _ _ _ h => h) (Or.inl ⟨by rfl, fun wq hSw => ?_⟩) ?_
        · refine RunB.of_calls (Wide.cmpF HBW.out HAW.out wq) (by go_simp) ?_
          rintro e wr ⟨rfl, hb⟩
          exact ⟨rfl, hb⟩
        try simp only [List.getElem_toArray, List.getElem_cons_zero, List.getElem_cons_succ, Act.put, List.setIfInBounds_toArray, List.set_cons_zero, List.set_cons_succ]
        refine wpAnyE_take (i := 3) (v := ?_) (((fun _ _ h hb => ⟨⟨h.1.1.below hb, h.1.2.1.below hb, h.1.2.2.below hb⟩, below_on h.2 hb⟩) : Stays (fun wx => (Cs wx gn [.int .i64 (hiW B), .int .u64 (loW B)] ∧ Cs wx gw [.int .i64 (hiW Aw), .int .u64 (loW Aw)] ∧ Cs wx gd [.int .i64 (hiW (B - Aw)), .int .u64 (loW (B - Aw))]) ∧ Below w.heap.size w wx))) (fun _ h => h) rfl (by kernel_rfl) (by kernel_rfl) (by kernel_rfl) (by kernel_rfl) (fun _ _ _ h => h) (SteadyB.of_yields (Or.inl ⟨by rfl, ?_⟩)) ?_
        rotate_left
        · intro wq hSw
          go_simp
          (try with_reducible rfl)
        try simp only [List.getElem_toArray, List.getElem_cons_zero, List.getElem_cons_succ, Act.put, List.setIfInBounds_toArray, List.set_cons_zero, List.set_cons_succ]
        refine wpAnyE_take (i := 4) (v := ?_) (((fun _ _ h hb => ⟨⟨h.1.1.below hb, h.1.2.1.below hb, h.1.2.2.below hb⟩, below_on h.2 hb⟩) : Stays (fun wx => (Cs wx gn [.int .i64 (hiW B), .int .u64 (loW B)] ∧ Cs wx gw [.int .i64 (hiW Aw), .int .u64 (loW Aw)] ∧ Cs wx gd [.int .i64 (hiW (B - Aw)), .int .u64 (loW (B - Aw))]) ∧ Below w.heap.size w wx))) (fun _ h => h) rfl (by kernel_rfl) (by kernel_rfl) (by kernel_rfl) (by kernel_rfl) (fun _ _ _ h => h) (SteadyB.of_yields (Or.inl ⟨by rfl, ?_⟩)) ?_
        rotate_left
        · intro wq hSw
          go_simp
          (try with_reducible rfl)
        try simp only [List.getElem_toArray, List.getElem_cons_zero, List.getElem_cons_succ, Act.put, List.setIfInBounds_toArray, List.set_cons_zero, List.set_cons_succ]
        refine wpAnyE_take (i := 5) (v := ?_) (((fun _ _ h hb => ⟨⟨h.1.1.below hb, h.1.2.1.below hb, h.1.2.2.below hb⟩, below_on h.2 hb⟩) : Stays (fun wx => (Cs wx gn [.int .i64 (hiW B), .int .u64 (loW B)] ∧ Cs wx gw [.int .i64 (hiW Aw), .int .u64 (loW Aw)] ∧ Cs wx gd [.int .i64 (hiW (B - Aw)), .int .u64 (loW (B - Aw))]) ∧ Below w.heap.size w wx))) (fun _ h => h) rfl (by kernel_rfl) (by kernel_rfl) (by kernel_rfl) (by kernel_rfl) (fun _ _ _ h => h) (SteadyB.of_yields (Or.inl ⟨by rfl, ?_⟩)) ?_
        rotate_left
        · intro wq hSw
          go_simp
          (try with_reducible rfl)
        try simp only [List.getElem_toArray, List.getElem_cons_zero, List.getElem_cons_succ, Act.put, List.setIfInBounds_toArray, List.set_cons_zero, List.set_cons_succ]
        refine wpAnyE_take (i := 6) (v := ?_) (((fun _ _ h hb => ⟨⟨h.1.1.below hb, h.1.2.1.below hb, h.1.2.2.below hb⟩, below_on h.2 hb⟩) : Stays (fun wx => (Cs wx gn [.int .i64 (hiW B), .int .u64 (loW B)] ∧ Cs wx gw [.int .i64 (hiW Aw), .int .u64 (loW Aw)] ∧ Cs wx gd [.int .i64 (hiW (B - Aw)), .int .u64 (loW (B - Aw))]) ∧ Below w.heap.size w wx))) (fun _ h => h) rfl (by kernel_rfl) (by kernel_rfl) (by kernel_rfl) (by kernel_rfl) (fun _ _ _ h => h) (SteadyB.of_yields (Or.inl ⟨by rfl, ?_⟩)) ?_
        rotate_left
        · intro wq hSw
          go_simp
          (try with_reducible rfl)
        try simp only [List.getElem_toArray, List.getElem_cons_zero, List.getElem_cons_succ, Act.put, List.setIfInBounds_toArray, List.set_cons_zero, List.set_cons_succ]
        refine wpAnyE_take (i := 7) (v := ?_) (((fun _ _ h hb => ⟨⟨h.1.1.below hb, h.1.2.1.below hb, h.1.2.2.below hb⟩, below_on h.2 hb⟩) : Stays (fun wx => (Cs wx gn [.int .i64 (hiW B), .int .u64 (loW B)] ∧ Cs wx gw [.int .i64 (hiW Aw), .int .u64 (loW Aw)] ∧ Cs wx gd [.int .i64 (hiW (B - Aw)), .int .u64 (loW (B - Aw))]) ∧ Below w.heap.size w wx))) (fun _ h => h) rfl (by kernel_rfl) (by kernel_rfl) (by kernel_rfl) (by kernel_rfl) (fun _ _ _ h => h) (SteadyB.of_yields (Or.inl ⟨by rfl, ?_⟩)) ?_
        rotate_left
        · intro wq hSw
          obtain ⟨n0, n1⟩ := hSw.1.1.two
          obtain ⟨a0, a1⟩ := hSw.1.2.1.two
          obtain ⟨d0, d1⟩ := hSw.1.2.2.two
          go_simp
          (try with_reducible rfl)
        try simp only [List.getElem_toArray, List.getElem_cons_zero, List.getElem_cons_succ, Act.put, List.setIfInBounds_toArray, List.set_cons_zero, List.set_cons_succ]
        refine wpAnyE_take (i := 8) (v := wv 2) (((fun _ _ h hb => ⟨⟨h.1.1.below hb, h.1.2.1.below hb, h.1.2.2.below hb⟩, below_on h.2 hb⟩) : Stays (fun wx => (Cs wx gn [.int .i64 (hiW B), .int .u64 (loW B)] ∧ Cs wx gw [.int .i64 (hiW Aw), .int .u64 (loW Aw)] ∧ Cs wx gd [.int .i64 (hiW (B - Aw)), .int .u64 (loW (B - Aw))]) ∧ Below w.heap.size w wx))) (fun _ h => h) rfl (by kernel_rfl) (by kernel_rfl) (by kernel_rfl) (by kernel_rfl) (fun _ _ _ h => h) (Or.inl ⟨by rfl, fun wq hSw => ?_⟩) ?_
        · refine RunB.of_calls (Wide.ofF (x := 2) (by decide) (by decide) wq) (by go_simp) ?_
          rintro e wr ⟨rfl, hb⟩
          exact ⟨rfl, hb⟩
        try simp only [List.getElem_toArray, List.getElem_cons_zero, List.getElem_cons_succ, Act.put, List.setIfInBounds_toArray, List.set_cons_zero, List.set_cons_succ]
        refine wpAnyE_take (i := 9) (v := .int .i64 (cmpI (B - Aw) 2)) (((fun _ _ h hb => ⟨⟨h.1.1.below hb, h.1.2.1.below hb, h.1.2.2.below hb⟩, below_on h.2 hb⟩) : Stays (fun wx => (Cs wx gn [.int .i64 (hiW B), .int .u64 (loW B)] ∧ Cs wx gw [.int .i64 (hiW Aw), .int .u64 (loW Aw)] ∧ Cs wx gd [.int .i64 (hiW (B - Aw)), .int .u64 (loW (B - Aw))]) ∧ Below w.heap.size w wx))) (fun _ h => h) rfl (by kernel_rfl) (by kernel_rfl) (by kernel_rfl) (by kernel_rfl) (fun _ _ _ h => h) (Or.inl ⟨by rfl, fun wq hSw => ?_⟩) ?_
        · refine RunB.of_calls (Wide.cmpF (b := 2) HDW.out (by unfold WR; omega) wq) (by go_simp) ?_
          rintro e wr ⟨rfl, hb⟩
          exact ⟨rfl, hb⟩
        try simp only [List.getElem_toArray, List.getElem_cons_zero, List.getElem_cons_succ, Act.put, List.setIfInBounds_toArray, List.set_cons_zero, List.set_cons_succ]
        refine wpAnyE_take (i := 10) (v := ?_) (((fun _ _ h hb => ⟨⟨h.1.1.below hb, h.1.2.1.below hb, h.1.2.2.below hb⟩, below_on h.2 hb⟩) : Stays (fun wx => (Cs wx gn [.int .i64 (hiW B), .int .u64 (loW B)] ∧ Cs wx gw [.int .i64 (hiW Aw), .int .u64 (loW Aw)] ∧ Cs wx gd [.int .i64 (hiW (B - Aw)), .int .u64 (loW (B - Aw))]) ∧ Below w.heap.size w wx))) (fun _ h => h) rfl (by kernel_rfl) (by kernel_rfl) (by kernel_rfl) (by kernel_rfl) (fun _ _ _ h => h) (SteadyB.of_yields (Or.inl ⟨by rfl, ?_⟩)) ?_
        rotate_left
        · intro wq hSw
          go_simp
          (try with_reducible rfl)
        try simp only [List.getElem_toArray, List.getElem_cons_zero, List.getElem_cons_succ, Act.put, List.setIfInBounds_toArray, List.set_cons_zero, List.set_cons_succ]
        refine wpAnyE_take (i := 11) (v := ?_) (((fun _ _ h hb => ⟨⟨h.1.1.below hb, h.1.2.1.below hb, h.1.2.2.below hb⟩, below_on h.2 hb⟩) : Stays (fun wx => (Cs wx gn [.int .i64 (hiW B), .int .u64 (loW B)] ∧ Cs wx gw [.int .i64 (hiW Aw), .int .u64 (loW Aw)] ∧ Cs wx gd [.int .i64 (hiW (B - Aw)), .int .u64 (loW (B - Aw))]) ∧ Below w.heap.size w wx))) (fun _ h => h) rfl (by kernel_rfl) (by kernel_rfl) (by kernel_rfl) (by kernel_rfl) (fun _ _ _ h => h) (SteadyB.of_yields (Or.inl ⟨by rfl, ?_⟩)) ?_
        rotate_left
        · intro wq hSw
          go_simp
          (try with_reducible rfl)
        try simp only [List.getElem_toArray, List.getElem_cons_zero, List.getElem_cons_succ, Act.put, List.setIfInBounds_toArray, List.set_cons_zero, List.set_cons_succ]
        refine wpAnyE_take (i := 12) (v := ?_) (((fun _ _ h hb => ⟨⟨h.1.1.below hb, h.1.2.1.below hb, h.1.2.2.below hb⟩, below_on h.2 hb⟩) : Stays (fun wx => (Cs wx gn [.int .i64 (hiW B), .int .u64 (loW B)] ∧ Cs wx gw [.int .i64 (hiW Aw), .int .u64 (loW Aw)] ∧ Cs wx gd [.int .i64 (hiW (B - Aw)), .int .u64 (loW (B - Aw))]) ∧ Below w.heap.size w wx))) (fun _ h => h) rfl (by kernel_rfl) (by kernel_rfl) (by kernel_rfl) (by kernel_rfl) (fun _ _ _ h => h) (SteadyB.of_yields (Or.inl ⟨by rfl, ?_⟩)) ?_
        rotate_left
        · intro wq hSw
          go_simp
          (try with_reducible rfl)
        try simp only [List.getElem_toArray, List.getElem_cons_zero, List.getElem_cons_succ, Act.put, List.setIfInBounds_toArray, List.set_cons_zero, List.set_cons_succ]
        refine wpAnyE_take (i := 13) (v := ?_) (((fun _ _ h hb => ⟨⟨h.1.1.below hb, h.1.2.1.below hb, h.1.2.2.below hb⟩, below_on h.2 hb⟩) : Stays (fun wx => (Cs wx gn [.int .i64 (hiW B), .int .u64 (loW B)] ∧ Cs wx gw [.int .i64 (hiW Aw), .int .u64 (loW Aw)] ∧ Cs wx gd [.int .i64 (hiW (B - Aw)), .int .u64 (loW (B - Aw))]) ∧ Below w.heap.size w wx))) (fun _ h => h) rfl (by kernel_rfl) (by kernel_rfl) (by kernel_rfl) (by kernel_rfl) (fun _ _ _ h => h) (SteadyB.of_yields (Or.inl ⟨by rfl, ?_⟩)) ?_
        rotate_left
        · intro wq hSw
          obtain ⟨n0, n1⟩ := hSw.1.1.two
          obtain ⟨a0, a1⟩ := hSw.1.2.1.two
          obtain ⟨d0, d1⟩ := hSw.1.2.2.two
          go_simp
          (try with_reducible rfl)
        try simp only [List.getElem_toArray, List.getElem_cons_zero, List.getElem_cons_succ, Act.put, List.setIfInBounds_toArray, List.set_cons_zero, List.set_cons_succ]
        refine wpAnyE_take (i := 14) (v := ?_) (((fun _ _ h hb => ⟨⟨h.1.1.below hb, h.1.2.1.below hb, h.1.2.2.below hb⟩, below_on h.2 hb⟩) : Stays (fun wx => (Cs wx gn [.int .i64 (hiW B), .int .u64 (loW B)] ∧ Cs wx gw [.int .i64 (hiW Aw), .int .u64 (loW Aw)] ∧ Cs wx gd [.int .i64 (hiW (B - Aw)), .int .u64 (loW (B - Aw))]) ∧ Below w.heap.size w wx))) (fun _ h => h) rfl (by kernel_rfl) (by kernel_rfl) (by kernel_rfl) (by kernel_rfl) (fun _ _ _ h => h) (SteadyB.of_yields (Or.inl ⟨by rfl, ?_⟩)) ?_
        rotate_left
        · intro wq hSw
          go_simp
          (try with_reducible rfl)
        try simp only [List.getElem_toArray, List.getElem_cons_zero, List.getElem_cons_succ, Act.put, List.setIfInBounds_toArray, List.set_cons_zero, List.set_cons_succ]
        refine wpAnyE_take (i := 15) (v := wv mxW) (((fun _ _ h hb => ⟨⟨h.1.1.below hb, h.1.2.1.below hb, h.1.2.2.below hb⟩, below_on h.2 hb⟩) : Stays (fun wx => (Cs wx gn [.int .i64 (hiW B), .int .u64 (loW B)] ∧ Cs wx gw [.int .i64 (hiW Aw), .int .u64 (loW Aw)] ∧ Cs wx gd [.int .i64 (hiW (B - Aw)), .int .u64 (loW (B - Aw))]) ∧ Below w.heap.size w wx))) (fun _ h => h) rfl (by kernel_rfl) (by kernel_rfl) (by kernel_rfl) (by kernel_rfl) (fun _ _ _ h => h) (Or.inl ⟨by rfl, fun wq hSw => ?_⟩) ?_
        · refine RunB.of_calls (HLS.out wq) (by go_simp) ?_
          rintro e wr ⟨rfl, hb⟩
          exact ⟨rfl, hb⟩
        try simp only [List.getElem_toArray, List.getElem_cons_zero, List.getElem_cons_succ, Act.put, List.setIfInBounds_toArray, List.set_cons_zero, List.set_cons_succ]
        refine wpAnyE_take (i := 16) (v := ?_) (((fun _ _ h hb => ⟨⟨h.1.1.below hb, h.1.2.1.below hb, h.1.2.2.below hb⟩, below_on h.2 hb⟩) : Stays (fun wx => (Cs wx gn [.int .i64 (hiW B), .int .u64 (loW B)] ∧ Cs wx gw [.int .i64 (hiW Aw), .int .u64 (loW Aw)] ∧ Cs wx gd [.int .i64 (hiW (B - Aw)), .int .u64 (loW (B - Aw))]) ∧ Below w.heap.size w wx))) (fun _ h => h) rfl (by kernel_rfl) (by kernel_rfl) (by kernel_rfl) (by kernel_rfl) (fun _ _ _ h => h) (SteadyB.of_yields (Or.inl ⟨by rfl, ?_⟩)) ?_
        rotate_left
        · intro wq hSw
          go_simp
          (try with_reducible rfl)
        try simp only [List.getElem_toArray, List.getElem_cons_zero, List.getElem_cons_succ, Act.put, List.setIfInBounds_toArray, List.set_cons_zero, List.set_cons_succ]
        refine wpAnyE_take (i := 17) (v := ?_) (((fun _ _ h hb => ⟨⟨h.1.1.below hb, h.1.2.1.below hb, h.1.2.2.below hb⟩, below_on h.2 hb⟩) : Stays (fun wx => (Cs wx gn [.int .i64 (hiW B), .int .u64 (loW B)] ∧ Cs wx gw [.int .i64 (hiW Aw), .int .u64 (loW Aw)] ∧ Cs wx gd [.int .i64 (hiW (B - Aw)), .int .u64 (loW (B - Aw))]) ∧ Below w.heap.size w wx))) (fun _ h => h) rfl (by kernel_rfl) (by kernel_rfl) (by kernel_rfl) (by kernel_rfl) (fun _ _ _ h => h) (SteadyB.of_yields (Or.inl ⟨by rfl, ?_⟩)) ?_
        rotate_left
        · intro wq hSw
          go_simp
          (try with_reducible rfl)
        try simp only [List.getElem_toArray, List.getElem_cons_zero, List.getElem_cons_succ, Act.put, List.setIfInBounds_toArray, List.set_cons_zero, List.set_cons_succ]
        refine wpAnyE_take (i := 18) (v := ?_) (((fun _ _ h hb => ⟨⟨h.1.1.below hb, h.1.2.1.below hb, h.1.2.2.below hb⟩, below_on h.2 hb⟩) : Stays (fun wx => (Cs wx gn [.int .i64 (hiW B), .int .u64 (loW B)] ∧ Cs wx gw [.int .i64 (hiW Aw), .int .u64 (loW Aw)] ∧ Cs wx gd [.int .i64 (hiW (B - Aw)), .int .u64 (loW (B - Aw))]) ∧ Below w.heap.size w wx))) (fun _ h => h) rfl (by kernel_rfl) (by kernel_rfl) (by kernel_rfl) (by kernel_rfl) (fun _ _ _ h => h) (SteadyB.of_yields (Or.inl ⟨by rfl, ?_⟩)) ?_
        rotate_left
        · intro wq hSw
          go_simp
          (try with_reducible rfl)
        try simp only [List.getElem_toArray, List.getElem_cons_zero, List.getElem_cons_succ, Act.put, List.setIfInBounds_toArray, List.set_cons_zero, List.set_cons_succ]
        refine wpAnyE_done (by kernel_rfl) (fun wz hSz => ?_) _
        have HG6 : Hid ((Cs wz gn [.int .i64 (hiW B), .int .u64 (loW B)] ∧ Cs wz gw [.int .i64 (hiW Aw), .int .u64 (loW Aw)]) ∧ Below w.heap.size w wz) := hid ⟨⟨hSz.1.1, hSz.1.2.1⟩, hSz.2⟩
        clear hSz HG5 hbm lbm
        obtain ⟨n0, n1⟩ := HG6.out.1.1.two
        have HCr := hid HG6.out.1.2
        go_wp2_with (first | ((with_reducible refine wpList_put_cs 34 [.int .i64 (hiW B), .int .u64 (loW B)] infoWide rfl (.tmp 11) (.tmp 81) rfl gw _ HCr.out ?h70001_1 ?h70001_2 ?h70001_3 ?h70001_4 ?h70001_5 ?h70001_6); (case h70001_1 => rfl); (case h70001_2 => rfl); (case h70001_3 => rfl); (case h70001_4 => rfl); (case h70001_5 => rfl); (intro W2 hW2); (have HW := hid (grow_put HGW.out HGN.out HG6.out.1.1 HCr.out HG6.out.2 hW2)); (clear hW2)) | fail)
        go_wp2_with fail
        go_roundg (n - (k + 1))
        case measure => have := HS.out; omega
        case rel => exact ⟨k + 1, by go_num, by omega, rfl, ⟨by rw [HBE.out]; exact HW.out.1, HGW.out⟩, HW.out.2⟩
      · have c2d : decide (cmpI (B - Aw) 2 < 0) = false := decide_eq_false c2
        refine wp_region_grow (S := fun wx => (Cs wx gn [.int .i64 (hiW B), .int .u64 (loW B)] ∧ Cs wx gw [.int .i64 (hiW Aw), .int .u64 (loW Aw)] ∧ Cs wx gd [.int .i64 (hiW (B - Aw)), .int .u64 (loW (B - Aw))]) ∧ Below w.heap.size w wx) 19 (by kernel_rfl) (((fun _ _ h hb => ⟨⟨h.1.1.below hb, h.1.2.1.below hb, h.1.2.2.below hb⟩, below_on h.2 hb⟩) : Stays (fun wx => (Cs wx gn [.int .i64 (hiW B), .int .u64 (loW B)] ∧ Cs wx gw [.int .i64 (hiW Aw), .int .u64 (loW Aw)] ∧ Cs wx gd [.int .i64 (hiW (B - Aw)), .int .u64 (loW (B - Aw))]) ∧ Below w.heap.size w wx)) _ _ HG5.out (Below.refl _ _).drew) ?_
        refine wpAnyE_take (i := 0) (v := ?_) (((fun _ _ h hb => ⟨⟨h.1.1.below hb, h.1.2.1.below hb, h.1.2.2.below hb⟩, below_on h.2 hb⟩) : Stays (fun wx => (Cs wx gn [.int .i64 (hiW B), .int .u64 (loW B)] ∧ Cs wx gw [.int .i64 (hiW Aw), .int .u64 (loW Aw)] ∧ Cs wx gd [.int .i64 (hiW (B - Aw)), .int .u64 (loW (B - Aw))]) ∧ Below w.heap.size w wx))) (fun _ h => h) rfl (by kernel_rfl) (by kernel_rfl) (by kernel_rfl) (by kernel_rfl) (fun _ _ _ h => h) (SteadyB.of_yields (Or.inl ⟨by rfl, ?_⟩)) ?_
        rotate_left
        · intro wq hSw
          obtain ⟨n0, n1⟩ := hSw.1.1.two
          obtain ⟨a0, a1⟩ := hSw.1.2.1.two
          obtain ⟨d0, d1⟩ := hSw.1.2.2.two
          go_simp
          (try with_reducible rfl)
        try simp only [List.getElem_toArray, List.getElem_cons_zero, List.getElem_cons_succ, Act.put, List.setIfInBounds_toArray, List.set_cons_zero, List.set_cons_succ]
        refine wpAnyE_take (i := 1) (v := ?_) (((fun _ _ h hb => ⟨⟨h.1.1.below hb, h.1.2.1.below hb, h.1.2.2.below hb⟩, below_on h.2 hb⟩) : Stays (fun wx => (Cs wx gn [.int .i64 (hiW B), .int .u64 (loW B)] ∧ Cs wx gw [.int .i64 (hiW Aw), .int .u64 (loW Aw)] ∧ Cs wx gd [.int .i64 (hiW (B - Aw)), .int .u64 (loW (B - Aw))]) ∧ Below w.heap.size w wx))) (fun _ h => h) rfl (by kernel_rfl) (by kernel_rfl) (by kernel_rfl) (by kernel_rfl) (fun _ _ _ h => h) (SteadyB.of_yields (Or.inl ⟨by rfl, ?_⟩)) ?_
        rotate_left
        · intro wq hSw
          obtain ⟨n0, n1⟩ := hSw.1.1.two
          obtain ⟨a0, a1⟩ := hSw.1.2.1.two
          obtain ⟨d0, d1⟩ := hSw.1.2.2.two
          go_simp
          (try with_reducible rfl)
        try simp only [List.getElem_toArray, List.getElem_cons_zero, List.getElem_cons_succ, Act.put, List.setIfInBounds_toArray, List.set_cons_zero, List.set_cons_succ]
        refine wpAnyE_take (i := 2) (v := .int .i64 (cmpI B Aw)) (((fun _ _ h hb => ⟨⟨h.1.1.below hb, h.1.2.1.below hb, h.1.2.2.below hb⟩, below_on h.2 hb⟩) : Stays (fun wx => (Cs wx gn [.int .i64 (hiW B), .int .u64 (loW B)] ∧ Cs wx gw [.int .i64 (hiW Aw), .int .u64 (loW Aw)] ∧ Cs wx gd [.int .i64 (hiW (B - Aw)), .int .u64 (loW (B - Aw))]) ∧ Below w.heap.size w wx))) (fun _ h => h) rfl (by kernel_rfl) (by kernel_rfl) (by kernel_rfl) (by kernel_rfl) (fun _ _ _ h => h) (Or.inl ⟨by rfl, fun wq hSw => ?_⟩) ?_
        · refine RunB.of_calls (Wide.cmpF HBW.out HAW.out wq) (by go_simp) ?_
          rintro e wr ⟨rfl, hb⟩
          exact ⟨rfl, hb⟩
        try simp only [List.getElem_toArray, List.getElem_cons_zero, List.getElem_cons_succ, Act.put, List.setIfInBounds_toArray, List.set_cons_zero, List.set_cons_succ]
        refine wpAnyE_take (i := 3) (v := ?_) (((fun _ _ h hb => ⟨⟨h.1.1.below hb, h.1.2.1.below hb, h.1.2.2.below hb⟩, below_on h.2 hb⟩) : Stays (fun wx => (Cs wx gn [.int .i64 (hiW B), .int .u64 (loW B)] ∧ Cs wx gw [.int .i64 (hiW Aw), .int .u64 (loW Aw)] ∧ Cs wx gd [.int .i64 (hiW (B - Aw)), .int .u64 (loW (B - Aw))]) ∧ Below w.heap.size w wx))) (fun _ h => h) rfl (by kernel_rfl) (by kernel_rfl) (by kernel_rfl) (by kernel_rfl) (fun _ _ _ h => h) (SteadyB.of_yields (Or.inl ⟨by rfl, ?_⟩)) ?_
        rotate_left
        · intro wq hSw
          go_simp
          (try with_reducible rfl)
        try simp only [List.getElem_toArray, List.getElem_cons_zero, List.getElem_cons_succ, Act.put, List.setIfInBounds_toArray, List.set_cons_zero, List.set_cons_succ]
        refine wpAnyE_take (i := 4) (v := ?_) (((fun _ _ h hb => ⟨⟨h.1.1.below hb, h.1.2.1.below hb, h.1.2.2.below hb⟩, below_on h.2 hb⟩) : Stays (fun wx => (Cs wx gn [.int .i64 (hiW B), .int .u64 (loW B)] ∧ Cs wx gw [.int .i64 (hiW Aw), .int .u64 (loW Aw)] ∧ Cs wx gd [.int .i64 (hiW (B - Aw)), .int .u64 (loW (B - Aw))]) ∧ Below w.heap.size w wx))) (fun _ h => h) rfl (by kernel_rfl) (by kernel_rfl) (by kernel_rfl) (by kernel_rfl) (fun _ _ _ h => h) (SteadyB.of_yields (Or.inl ⟨by rfl, ?_⟩)) ?_
        rotate_left
        · intro wq hSw
          go_simp
          (try with_reducible rfl)
        try simp only [List.getElem_toArray, List.getElem_cons_zero, List.getElem_cons_succ, Act.put, List.setIfInBounds_toArray, List.set_cons_zero, List.set_cons_succ]
        refine wpAnyE_take (i := 5) (v := ?_) (((fun _ _ h hb => ⟨⟨h.1.1.below hb, h.1.2.1.below hb, h.1.2.2.below hb⟩, below_on h.2 hb⟩) : Stays (fun wx => (Cs wx gn [.int .i64 (hiW B), .int .u64 (loW B)] ∧ Cs wx gw [.int .i64 (hiW Aw), .int .u64 (loW Aw)] ∧ Cs wx gd [.int .i64 (hiW (B - Aw)), .int .u64 (loW (B - Aw))]) ∧ Below w.heap.size w wx))) (fun _ h => h) rfl (by kernel_rfl) (by kernel_rfl) (by kernel_rfl) (by kernel_rfl) (fun _ _ _ h => h) (SteadyB.of_yields (Or.inl ⟨by rfl, ?_⟩)) ?_
        rotate_left
        · intro wq hSw
          go_simp
          (try with_reducible rfl)
        try simp only [List.getElem_toArray, List.getElem_cons_zero, List.getElem_cons_succ, Act.put, List.setIfInBounds_toArray, List.set_cons_zero, List.set_cons_succ]
        refine wpAnyE_take (i := 6) (v := ?_) (((fun _ _ h hb => ⟨⟨h.1.1.below hb, h.1.2.1.below hb, h.1.2.2.below hb⟩, below_on h.2 hb⟩) : Stays (fun wx => (Cs wx gn [.int .i64 (hiW B), .int .u64 (loW B)] ∧ Cs wx gw [.int .i64 (hiW Aw), .int .u64 (loW Aw)] ∧ Cs wx gd [.int .i64 (hiW (B - Aw)), .int .u64 (loW (B - Aw))]) ∧ Below w.heap.size w wx))) (fun _ h => h) rfl (by kernel_rfl) (by kernel_rfl) (by kernel_rfl) (by kernel_rfl) (fun _ _ _ h => h) (SteadyB.of_yields (Or.inl ⟨by rfl, ?_⟩)) ?_
        rotate_left
        · intro wq hSw
          go_simp
          (try with_reducible rfl)
        try simp only [List.getElem_toArray, List.getElem_cons_zero, List.getElem_cons_succ, Act.put, List.setIfInBounds_toArray, List.set_cons_zero, List.set_cons_succ]
        refine wpAnyE_take (i := 7) (v := ?_) (((fun _ _ h hb => ⟨⟨h.1.1.below hb, h.1.2.1.below hb, h.1.2.2.below hb⟩, below_on h.2 hb⟩) : Stays (fun wx => (Cs wx gn [.int .i64 (hiW B), .int .u64 (loW B)] ∧ Cs wx gw [.int .i64 (hiW Aw), .int .u64 (loW Aw)] ∧ Cs wx gd [.int .i64 (hiW (B - Aw)), .int .u64 (loW (B - Aw))]) ∧ Below w.heap.size w wx))) (fun _ h => h) rfl (by kernel_rfl) (by kernel_rfl) (by kernel_rfl) (by kernel_rfl) (fun _ _ _ h => h) (SteadyB.of_yields (Or.inl ⟨by rfl, ?_⟩)) ?_
        rotate_left
        · intro wq hSw
          obtain ⟨n0, n1⟩ := hSw.1.1.two
          obtain ⟨a0, a1⟩ := hSw.1.2.1.two
          obtain ⟨d0, d1⟩ := hSw.1.2.2.two
          go_simp
          (try with_reducible rfl)
        try simp only [List.getElem_toArray, List.getElem_cons_zero, List.getElem_cons_succ, Act.put, List.setIfInBounds_toArray, List.set_cons_zero, List.set_cons_succ]
        refine wpAnyE_take (i := 8) (v := wv 2) (((fun _ _ h hb => ⟨⟨h.1.1.below hb, h.1.2.1.below hb, h.1.2.2.below hb⟩, below_on h.2 hb⟩) : Stays (fun wx => (Cs wx gn [.int .i64 (hiW B), .int .u64 (loW B)] ∧ Cs wx gw [.int .i64 (hiW Aw), .int .u64 (loW Aw)] ∧ Cs wx gd [.int .i64 (hiW (B - Aw)), .int .u64 (loW (B - Aw))]) ∧ Below w.heap.size w wx))) (fun _ h => h) rfl (by kernel_rfl) (by kernel_rfl) (by kernel_rfl) (by kernel_rfl) (fun _ _ _ h => h) (Or.inl ⟨by rfl, fun wq hSw => ?_⟩) ?_
        · refine RunB.of_calls (Wide.ofF (x := 2) (by decide) (by decide) wq) (by go_simp) ?_
          rintro e wr ⟨rfl, hb⟩
          exact ⟨rfl, hb⟩
        try simp only [List.getElem_toArray, List.getElem_cons_zero, List.getElem_cons_succ, Act.put, List.setIfInBounds_toArray, List.set_cons_zero, List.set_cons_succ]
        refine wpAnyE_take (i := 9) (v := .int .i64 (cmpI (B - Aw) 2)) (((fun _ _ h hb => ⟨⟨h.1.1.below hb, h.1.2.1.below hb, h.1.2.2.below hb⟩, below_on h.2 hb⟩) : Stays (fun wx => (Cs wx gn [.int .i64 (hiW B), .int .u64 (loW B)] ∧ Cs wx gw [.int .i64 (hiW Aw), .int .u64 (loW Aw)] ∧ Cs wx gd [.int .i64 (hiW (B - Aw)), .int .u64 (loW (B - Aw))]) ∧ Below w.heap.size w wx))) (fun _ h => h) rfl (by kernel_rfl) (by kernel_rfl) (by kernel_rfl) (by kernel_rfl) (fun _ _ _ h => h) (Or.inl ⟨by rfl, fun wq hSw => ?_⟩) ?_
        · refine RunB.of_calls (Wide.cmpF (b := 2) HDW.out (by unfold WR; omega) wq) (by go_simp) ?_
          rintro e wr ⟨rfl, hb⟩
          exact ⟨rfl, hb⟩
        try simp only [List.getElem_toArray, List.getElem_cons_zero, List.getElem_cons_succ, Act.put, List.setIfInBounds_toArray, List.set_cons_zero, List.set_cons_succ]
        refine wpAnyE_take (i := 10) (v := ?_) (((fun _ _ h hb => ⟨⟨h.1.1.below hb, h.1.2.1.below hb, h.1.2.2.below hb⟩, below_on h.2 hb⟩) : Stays (fun wx => (Cs wx gn [.int .i64 (hiW B), .int .u64 (loW B)] ∧ Cs wx gw [.int .i64 (hiW Aw), .int .u64 (loW Aw)] ∧ Cs wx gd [.int .i64 (hiW (B - Aw)), .int .u64 (loW (B - Aw))]) ∧ Below w.heap.size w wx))) (fun _ h => h) rfl (by kernel_rfl) (by kernel_rfl) (by kernel_rfl) (by kernel_rfl) (fun _ _ _ h => h) (SteadyB.of_yields (Or.inl ⟨by rfl, ?_⟩)) ?_
        rotate_left
        · intro wq hSw
          go_simp
          (try with_reducible rfl)
        try simp only [List.getElem_toArray, List.getElem_cons_zero, List.getElem_cons_succ, Act.put, List.setIfInBounds_toArray, List.set_cons_zero, List.set_cons_succ]
        refine wpAnyE_take (i := 11) (v := ?_) (((fun _ _ h hb => ⟨⟨h.1.1.below hb, h.1.2.1.below hb, h.1.2.2.below hb⟩, below_on h.2 hb⟩) : Stays (fun wx => (Cs wx gn [.int .i64 (hiW B), .int .u64 (loW B)] ∧ Cs wx gw [.int .i64 (hiW Aw), .int .u64 (loW Aw)] ∧ Cs wx gd [.int .i64 (hiW (B - Aw)), .int .u64 (loW (B - Aw))]) ∧ Below w.heap.size w wx))) (fun _ h => h) rfl (by kernel_rfl) (by kernel_rfl) (by kernel_rfl) (by kernel_rfl) (fun _ _ _ h => h) (SteadyB.of_yields (Or.inl ⟨by rfl, ?_⟩)) ?_
        rotate_left
        · intro wq hSw
          go_simp
          (try with_reducible rfl)
        try simp only [List.getElem_toArray, List.getElem_cons_zero, List.getElem_cons_succ, Act.put, List.setIfInBounds_toArray, List.set_cons_zero, List.set_cons_succ]
        refine wpAnyE_take (i := 12) (v := ?_) (((fun _ _ h hb => ⟨⟨h.1.1.below hb, h.1.2.1.below hb, h.1.2.2.below hb⟩, below_on h.2 hb⟩) : Stays (fun wx => (Cs wx gn [.int .i64 (hiW B), .int .u64 (loW B)] ∧ Cs wx gw [.int .i64 (hiW Aw), .int .u64 (loW Aw)] ∧ Cs wx gd [.int .i64 (hiW (B - Aw)), .int .u64 (loW (B - Aw))]) ∧ Below w.heap.size w wx))) (fun _ h => h) rfl (by kernel_rfl) (by kernel_rfl) (by kernel_rfl) (by kernel_rfl) (fun _ _ _ h => h) (SteadyB.of_yields (Or.inl ⟨by rfl, ?_⟩)) ?_
        rotate_left
        · intro wq hSw
          go_simp
          (try with_reducible rfl)
        try simp only [List.getElem_toArray, List.getElem_cons_zero, List.getElem_cons_succ, Act.put, List.setIfInBounds_toArray, List.set_cons_zero, List.set_cons_succ]
        refine wpAnyE_take (i := 13) (v := undef) (((fun _ _ h hb => ⟨⟨h.1.1.below hb, h.1.2.1.below hb, h.1.2.2.below hb⟩, below_on h.2 hb⟩) : Stays (fun wx => (Cs wx gn [.int .i64 (hiW B), .int .u64 (loW B)] ∧ Cs wx gw [.int .i64 (hiW Aw), .int .u64 (loW Aw)] ∧ Cs wx gd [.int .i64 (hiW (B - Aw)), .int .u64 (loW (B - Aw))]) ∧ Below w.heap.size w wx))) (fun _ h => h) rfl (by kernel_rfl) (by kernel_rfl) (by kernel_rfl) (by kernel_rfl) (fun _ _ _ h => h) (Or.inr ⟨by rfl, rfl⟩) ?_
        try simp only [List.getElem_toArray, List.getElem_cons_zero, List.getElem_cons_succ, Act.put, List.setIfInBounds_toArray, List.set_cons_zero, List.set_cons_succ]
        refine wpAnyE_take (i := 14) (v := undef) (((fun _ _ h hb => ⟨⟨h.1.1.below hb, h.1.2.1.below hb, h.1.2.2.below hb⟩, below_on h.2 hb⟩) : Stays (fun wx => (Cs wx gn [.int .i64 (hiW B), .int .u64 (loW B)] ∧ Cs wx gw [.int .i64 (hiW Aw), .int .u64 (loW Aw)] ∧ Cs wx gd [.int .i64 (hiW (B - Aw)), .int .u64 (loW (B - Aw))]) ∧ Below w.heap.size w wx))) (fun _ h => h) rfl (by kernel_rfl) (by kernel_rfl) (by kernel_rfl) (by kernel_rfl) (fun _ _ _ h => h) (Or.inr ⟨by rfl, rfl⟩) ?_
        try simp only [List.getElem_toArray, List.getElem_cons_zero, List.getElem_cons_succ, Act.put, List.setIfInBounds_toArray, List.set_cons_zero, List.set_cons_succ]
        refine wpAnyE_take (i := 15) (v := undef) (((fun _ _ h hb => ⟨⟨h.1.1.below hb, h.1.2.1.below hb, h.1.2.2.below hb⟩, below_on h.2 hb⟩) : Stays (fun wx => (Cs wx gn [.int .i64 (hiW B), .int .u64 (loW B)] ∧ Cs wx gw [.int .i64 (hiW Aw), .int .u64 (loW Aw)] ∧ Cs wx gd [.int .i64 (hiW (B - Aw)), .int .u64 (loW (B - Aw))]) ∧ Below w.heap.size w wx))) (fun _ h => h) rfl (by kernel_rfl) (by kernel_rfl) (by kernel_rfl) (by kernel_rfl) (fun _ _ _ h => h) (Or.inr ⟨by rfl, rfl⟩) ?_
        try simp only [List.getElem_toArray, List.getElem_cons_zero, List.getElem_cons_succ, Act.put, List.setIfInBounds_toArray, List.set_cons_zero, List.set_cons_succ]
        refine wpAnyE_take (i := 16) (v := undef) (((fun _ _ h hb => ⟨⟨h.1.1.below hb, h.1.2.1.below hb, h.1.2.2.below hb⟩, below_on h.2 hb⟩) : Stays (fun wx => (Cs wx gn [.int .i64 (hiW B), .int .u64 (loW B)] ∧ Cs wx gw [.int .i64 (hiW Aw), .int .u64 (loW Aw)] ∧ Cs wx gd [.int .i64 (hiW (B - Aw)), .int .u64 (loW (B - Aw))]) ∧ Below w.heap.size w wx))) (fun _ h => h) rfl (by kernel_rfl) (by kernel_rfl) (by kernel_rfl) (by kernel_rfl) (fun _ _ _ h => h) (Or.inr ⟨by rfl, rfl⟩) ?_
        try simp only [List.getElem_toArray, List.getElem_cons_zero, List.getElem_cons_succ, Act.put, List.setIfInBounds_toArray, List.set_cons_zero, List.set_cons_succ]
        refine wpAnyE_take (i := 17) (v := ?_) (((fun _ _ h hb => ⟨⟨h.1.1.below hb, h.1.2.1.below hb, h.1.2.2.below hb⟩, below_on h.2 hb⟩) : Stays (fun wx => (Cs wx gn [.int .i64 (hiW B), .int .u64 (loW B)] ∧ Cs wx gw [.int .i64 (hiW Aw), .int .u64 (loW Aw)] ∧ Cs wx gd [.int .i64 (hiW (B - Aw)), .int .u64 (loW (B - Aw))]) ∧ Below w.heap.size w wx))) (fun _ h => h) rfl (by kernel_rfl) (by kernel_rfl) (by kernel_rfl) (by kernel_rfl) (fun _ _ _ h => h) (SteadyB.of_yields (Or.inl ⟨by rfl, ?_⟩)) ?_
        rotate_left
        · intro wq hSw
          go_simp
          (try with_reducible rfl)
        try simp only [List.getElem_toArray, List.getElem_cons_zero, List.getElem_cons_succ, Act.put, List.setIfInBounds_toArray, List.set_cons_zero, List.set_cons_succ]
        refine wpAnyE_take (i := 18) (v := ?_) (((fun _ _ h hb => ⟨⟨h.1.1.below hb, h.1.2.1.below hb, h.1.2.2.below hb⟩, below_on h.2 hb⟩) : Stays (fun wx => (Cs wx gn [.int .i64 (hiW B), .int .u64 (loW B)] ∧ Cs wx gw [.int .i64 (hiW Aw), .int .u64 (loW Aw)] ∧ Cs wx gd [.int .i64 (hiW (B - Aw)), .int .u64 (loW (B - Aw))]) ∧ Below w.heap.size w wx))) (fun _ h => h) rfl (by kernel_rfl) (by kernel_rfl) (by kernel_rfl) (by kernel_rfl) (fun _ _ _ h => h) (SteadyB.of_yields (Or.inl ⟨by rfl, ?_⟩)) ?_
        rotate_left
        · intro wq hSw
          go_simp
          (try with_reducible rfl)
        try simp only [List.getElem_toArray, List.getElem_cons_zero, List.getElem_cons_succ, Act.put, List.setIfInBounds_toArray, List.set_cons_zero, List.set_cons_succ]
        refine wpAnyE_done (by kernel_rfl) (fun wz hSz => ?_) _
        have HG6 : Hid ((Cs wz gn [.int .i64 (hiW B), .int .u64 (loW B)] ∧ Cs wz gw [.int .i64 (hiW Aw), .int .u64 (loW Aw)]) ∧ Below w.heap.size w wz) := hid ⟨⟨hSz.1.1, hSz.1.2.1⟩, hSz.2⟩
        clear hSz HG5
        obtain ⟨n0, n1⟩ := HG6.out.1.1.two
        have HCr := hid HG6.out.1.2
        go_wp2_with (first | ((with_reducible refine wpList_put_cs 34 [.int .i64 (hiW B), .int .u64 (loW B)] infoWide rfl (.tmp 11) (.tmp 81) rfl gw _ HCr.out ?h70002_1 ?h70002_2 ?h70002_3 ?h70002_4 ?h70002_5 ?h70002_6); (case h70002_1 => rfl); (case h70002_2 => rfl); (case h70002_3 => rfl); (case h70002_4 => rfl); (case h70002_5 => rfl); (intro W2 hW2); (have HW := hid (grow_put HGW.out HGN.out HG6.out.1.1 HCr.out HG6.out.2 hW2)); (clear hW2)) | fail)
        go_wp2_with fail
        go_roundg (n - (k + 1))
        case measure => have := HS.out; omega
        case rel => exact ⟨k + 1, by go_num, by omega, rfl, ⟨by rw [HBE.out]; exact HW.out.1, HGW.out⟩, HW.out.2⟩
    · obtain rfl : k = n := by omega
      have hki : ¬ (k : Int) < k := by omega
      go_wp2_with fail
      refine (Clamp.carried none 0 0 [] _ ⟨rfl, fun i hi => absurd hi (by omega)⟩ (by simp) (by decide)).mono ?_
      rw [carI_nil]
      rintro e w7 ⟨rfl, hb⟩
      have HB7 := hid (below_on HG.out.2 hb)
      clear hb HG
      have z0 := hiW0
      have z1 := loW0
      go_wp2_with fail
      go_ret
      exact ⟨by first | rfl | simp [hiW0, loW0], HB7.out⟩
end
theorem Cgrow.law (h1 l1 a b : Int) (A : Option Addr) (n c : Nat) (ps : List (Int × Int)) (w : World) (w0 : IsWd h1 l1) (w1 : (Lit.int .i64 a).wf = true) (w2 : (Lit.int .i64 b).wf = true) (h : RdW w A n ps ∧ AllW ps ∧ n ≤ 9223372036854775807 ∧ n ≤ c) (htab : Tab10 w.heap.size w) :
    Calls Tryz.prog 14 #[.agg #[.int .i64 h1, .int .u64 l1], .int .i64 a, .int .i64 b, .slice A n c] w fun e w' => e = .returned (.bool true) ∧ Below w.heap.size w w' := by
  obtain ⟨e1, e2⟩ := IsW.words w0
  have hx := w0.wr
  have ha := bounds_i64 w1
  have hb := bounds_i64 w2
  generalize h1 * 18446744073709551616 + l1 = x at *
  rw [e1, e2]
  by_cases hn : 40 < n
  · exact Cgrow.away x a b A n c w hn htab
  · obtain ⟨g1, g2⟩ := wds_of h.2.1
    exact Cgrow.core x a b _ _ rfl rfl hx (by omega) (by omega) A n c (ps.map vW) w (by rw [g1]; exact h.1) g2 (by omega) h.2.2.2 htab
end

end Go.Proofs.YthmilhhihcmdhaaGreatDoor
