/- Texts of ClampWindows's proof, together. -/
import Derived.Test.YthmilhhihcmdhaaGreatDoorClampWindowsZ10
import Derived.Test.YthmilhhihcmdhaaGreatDoorClampWindowsZ25
import Derived.Test.YthmilhhihcmdhaaGreatDoorRbB
import Derived.Test.YthmilhhihcmdhaaGreatDoorClampWindowsZ27
import Derived.Test.YthmilhhihcmdhaaGreatDoorClampWindowsZ16
import Derived.Test.YthmilhhihcmdhaaGreatDoorClampWindowsZ32
import Derived.Test.YthmilhhihcmdhaaGreatDoorStr
import Derived.Test.YthmilhhihcmdhaaGreatDoorClampWindowsZ13
import Derived.Deep.AppendLies
import Derived.Test.YthmilhhihcmdhaaGreatDoorClC
import Derived.Test.YthmilhhihcmdhaaGreatDoorClampWindowsZ26
namespace Go.Proofs.YthmilhhihcmdhaaGreatDoor
/- The chapter's example of layer 8, as the laws ask it. -/
section
open Go.RowKit
theorem Law7.Awake (w : World) : Calls Tryz.prog 62 #[] w (Ans (.bool true) w) := by
  go_enter Tryz.func62, Tryz.ntmps62
  go_wp2_with (go_at_call 100; refine (Law7.awake _).mono ?_; rintro e w' ⟨rfl, hb⟩)
  go_ret
  exact ⟨rfl, hb⟩
theorem ex8 : Mu.of 5 [(5, 0, 1), (8, 0, 1)] = (true, ⟨5, 3, 2, 2⟩) := by
  rw [of_yes 5 (l := [(5, 0, 1), (8, 0, 1)]) (fun p hp => by
    simp at hp
    rcases hp with rfl | rfl
    · exact ⟨by decide, ⟨by decide, by decide⟩, ⟨by decide, by decide⟩, by decide, by decide⟩
    · exact ⟨by decide, ⟨by decide, by decide⟩, ⟨by decide, by decide⟩, by decide, by decide⟩) (by decide)]
  rfl
theorem ex8f : Mu.fl ⟨5, 3, 2, 2⟩ = (true, 6) := by first | rfl | decide +kernel
theorem ex8t : txtOf 3 = [51] := by first | decide +kernel | (unfold txtOf; rw [if_neg (by decide)]; simp [Lib.decDigits])
theorem Tab10.at2 {w0 w : World} (h : Tab10 w0.heap.size w0) (hb : Below w0.heap.size w0 w) : Tab10 w.heap.size w := Tab10.of (h.on hb).here
set_option maxRecDepth 100000 in
set_option maxHeartbeats 4000000 in
theorem Law8.awake (w : World) (htab : Tab10 w.heap.size w) : Calls Tryz.prog 16 #[] w (Ans (.bool true) w) := by
  have HT := hid htab
  have HB0 := hid ((Below.refl w.heap.size w).alloc (Nat.le_refl _) (.cells #[.int .u64 5, .int .u32 0, .int .u32 1, .int .u64 8, .int .u32 0, .int .u32 1] 29))
  have HR := hid (RdP.new2 w 29 5 0 1 8 0 1)
  clear htab
  go_enter Tryz.func16, Tryz.ntmps16
  go_wp2_with fail

  generalize (w.alloc (.cells #[.int .u64 5, .int .u32 0, .int .u32 1, .int .u64 8, .int .u32 0, .int .u32 1] 29)) = W0 at HB0 HR ⊢
  refine (Mean.of 5 ⟨by decide, by decide⟩ (some ⟨w.heap.size, 0, none⟩) 2 2 [(5, 0, 1), (8, 0, 1)] _ HR.out (fun p hp => by
    simp at hp
    rcases hp with rfl | rfl
    · exact ⟨⟨by decide, by decide⟩, ⟨by decide, by decide⟩, by decide, by decide⟩
    · exact ⟨⟨by decide, by decide⟩, ⟨by decide, by decide⟩, by decide, by decide⟩) (by decide)).mono ?_
  rw [ex8]
  rintro e w1 ⟨rfl, hb⟩
  have ha := (Below.refl w1.heap.size w1).alloc (Nat.le_refl _) (.cells #[.int .u64 5, .int .i64 (hiW 3), .int .u64 (loW 3), .int .u64 2, .int .i64 2] 36)
  have HB1 := hid (below_on (below_on HB0.out hb) ha)
  have HC1 : Hid (Cs (w1.alloc (.cells #[.int .u64 5, .int .i64 (hiW 3), .int .u64 (loW 3), .int .u64 2, .int .i64 2] 36)) w1.heap.size (Mu.mk 5 3 2 2).cells) := hid (Cs.alloc_new6 w1 _ (Mu.mk 5 3 2 2).cells)
  clear hb ha HB0 HR
  go_wp2_with fail
  generalize (w1.alloc (.cells #[.int .u64 5, .int .i64 (hiW 3), .int .u64 (loW 3), .int .u64 2, .int .i64 2] 36)) = W1 at HB1 HC1 ⊢
  generalize w1.heap.size = g at HC1 ⊢
  refine (Mean.floor ⟨5, 3, 2, 2⟩ (by unfold Mu.In WR; refine ⟨⟨?_, ?_⟩, ⟨?_, ?_⟩, ⟨?_, ?_⟩, ?_, ?_⟩ <;> decide) _).mono ?_
  rw [ex8f]
  rintro e w2 ⟨rfl, hb⟩
  have HB2 := hid (below_on HB1.out hb)
  have HC2 := hid (HC1.out.below hb)
  clear hb HB1 HC1
  go_wp2_with fail
  refine (Law7.Awake _).mono ?_
  rintro e w3 ⟨rfl, hb⟩
  have HB3 := hid (below_on HB2.out hb)
  have HC3 := hid (HC2.out.below hb)
  clear hb HB2 HC2
  obtain ⟨m0, m1, m2, m3, m4⟩ := Mu.at _ HC3.out
  go_wp2_with fail
  refine (Wide.string (hiW 3) (loW 3) 3 (isW_of (by unfold WR; omega)) _ (HT.out.at2 HB3.out)).mono ?_
  rw [ex8t]
  rintro e w4 ⟨rfl, hb⟩
  have HB4 := hid (below_on HB3.out hb)
  have HC4 := hid (HC3.out.below hb)
  clear hb HB3 HC3 m0 m1 m2 m3 m4
  obtain ⟨m0, m1, m2, m3, m4⟩ := Mu.at _ HC4.out
  go_wp2_with fail
  go_ret
  exact ⟨rfl, HB4.out⟩
theorem Law8.Awake (w : World) (htab : Tab10 w.heap.size w) : Calls Tryz.prog 68 #[] w (Ans (.bool true) w) := by
  go_enter Tryz.func68, Tryz.ntmps68
  go_wp2_with (go_at_call 16; refine (Law8.awake _ htab).mono ?_; rintro e w' ⟨rfl, hb⟩)
  go_ret
  exact ⟨rfl, hb⟩
end

/- The chapter's example of layer 9, as the laws ask it. -/
section
open Go.RowKit
theorem ex9in : (Mu.mk 5 3 2 2).In := by unfold Mu.In WR; refine ⟨⟨?_, ?_⟩, ⟨?_, ?_⟩, ⟨?_, ?_⟩, ?_, ?_⟩ <;> decide
theorem ex9p : PIn (5, 0, 1) := ⟨⟨by decide, by decide⟩, ⟨by decide, by decide⟩, by decide, by decide⟩
theorem ex9q : PIn (8, 0, 1) := ⟨⟨by decide, by decide⟩, ⟨by decide, by decide⟩, by decide, by decide⟩
theorem ex9a (w : World) : Calls Tryz.prog 25 #[(Mu.mk 5 3 2 2).val, pv (5, 0, 1)] w (Ans (.bool true) w) := by
  have h := Lag.eligible (Mu.mk 5 3 2 2) (5, 0, 1) ex9in ex9p w
  rwa [show (Mu.mk 5 3 2 2).elig (5, 0, 1) = true by first | rfl | decide +kernel] at h
theorem ex9b (w : World) : Calls Tryz.prog 25 #[(Mu.mk 5 3 2 2).val, pv (8, 0, 1)] w (Ans (.bool false) w) := by
  have h := Lag.eligible (Mu.mk 5 3 2 2) (8, 0, 1) ex9in ex9q w
  rwa [show (Mu.mk 5 3 2 2).elig (8, 0, 1) = false by first | rfl | decide +kernel] at h
theorem ex9c (w : World) : Calls Tryz.prog 27 #[(Mu.mk 5 3 2 2).val, pv (5, 0, 1)] w (Ans (.tuple #[wv 1, .bool true]) w) := by
  have h := Lag.read (Mu.mk 5 3 2 2) (5, 0, 1) ex9in ex9p w
  rwa [show (Mu.mk 5 3 2 2).lag (5, 0, 1) = (true, 1) by first | rfl | decide +kernel] at h
theorem ex9d (w : World) : Calls Tryz.prog 27 #[(Mu.mk 5 3 2 2).val, pv (8, 0, 1)] w (Ans (.tuple #[wv (-2), .bool true]) w) := by
  have h := Lag.read (Mu.mk 5 3 2 2) (8, 0, 1) ex9in ex9q w
  rwa [show (Mu.mk 5 3 2 2).lag (8, 0, 1) = (true, -2) by first | rfl | decide +kernel] at h
/-- The example's variables. -/
def A9 (w : World) (g3 g4 g5 : Nat) (W : World) : Prop := (Cs W w.heap.size (pcells (5, 0, 1)) ∧ Cs W (w.heap.size + 1) (pcells (8, 0, 1)) ∧ Cs W g3 (Mu.mk 5 3 2 2).cells) ∧ (Cs W g4 [.int .i64 (hiW 1), .int .u64 (loW 1)] ∧ Cs W g5 [.int .i64 (hiW (-2)), .int .u64 (loW (-2))]) ∧ Below w.heap.size w W
theorem A9.below {w w1 w2 : World} {g3 g4 g5 : Nat} (h : A9 w g3 g4 g5 w1) (hb : Below w1.heap.size w1 w2) : A9 w g3 g4 g5 w2 := ⟨⟨h.1.1.below hb, h.1.2.1.below hb, h.1.2.2.below hb⟩, ⟨h.2.1.1.below hb, h.2.1.2.below hb⟩, below_on h.2.2 hb⟩
theorem A9.stays (w : World) (g3 g4 g5 : Nat) : Stays (A9 w g3 g4 g5) := fun _ _ h hb => h.below hb
set_option maxRecDepth 100000 in
set_option maxHeartbeats 8000000 in
theorem Law9.awake (w : World) (htab : Tab10 w.heap.size w) : Calls Tryz.prog 24 #[] w (Ans (.bool true) w) := by
  have HT := hid htab
  have HA0 : Hid ((Cs (((w.alloc (.cells #[.int .u64 5, .int .u32 0, .int .u32 1] 29)).alloc (.cells #[.int .u64 8, .int .u32 0, .int .u32 1] 29)).alloc (.cells #[.int .u64 5, .int .u32 0, .int .u32 1, .int .u64 8, .int .u32 0, .int .u32 1] 29)) w.heap.size (pcells (5, 0, 1)) ∧ Cs (((w.alloc (.cells #[.int .u64 5, .int .u32 0, .int .u32 1] 29)).alloc (.cells #[.int .u64 8, .int .u32 0, .int .u32 1] 29)).alloc (.cells #[.int .u64 5, .int .u32 0, .int .u32 1, .int .u64 8, .int .u32 0, .int .u32 1] 29)) (w.heap.size + 1) (pcells (8, 0, 1))) ∧ RdP (((w.alloc (.cells #[.int .u64 5, .int .u32 0, .int .u32 1] 29)).alloc (.cells #[.int .u64 8, .int .u32 0, .int .u32 1] 29)).alloc (.cells #[.int .u64 5, .int .u32 0, .int .u32 1, .int .u64 8, .int .u32 0, .int .u32 1] 29)) (some ⟨w.heap.size + 2, 0, none⟩) 2 [(5, 0, 1), (8, 0, 1)] ∧ Below w.heap.size w (((w.alloc (.cells #[.int .u64 5, .int .u32 0, .int .u32 1] 29)).alloc (.cells #[.int .u64 8, .int .u32 0, .int .u32 1] 29)).alloc (.cells #[.int .u64 5, .int .u32 0, .int .u32 1, .int .u64 8, .int .u32 0, .int .u32 1] 29))) := hid (by
    have h1 := Cs.alloc_new6 w 29 (pcells (5, 0, 1))
    have h2 := Cs.alloc_new6 (w.alloc (.cells #[.int .u64 5, .int .u32 0, .int .u32 1] 29)) 29 (pcells (8, 0, 1))
    have h3 := RdP.new2 ((w.alloc (.cells #[.int .u64 5, .int .u32 0, .int .u32 1] 29)).alloc (.cells #[.int .u64 8, .int .u32 0, .int .u32 1] 29)) 29 5 0 1 8 0 1
    simp only [World.size_alloc] at h2 h3
    exact ⟨⟨(h1.alloc _).alloc _, h2.alloc _⟩, h3, (((Below.refl w.heap.size w).alloc (Nat.le_refl _) _).alloc (by simp) _).alloc (by simp; omega) _⟩)
  clear htab
  go_enter Tryz.func24, Tryz.ntmps24
  go_wp2_with fail
  generalize (((w.alloc (.cells #[.int .u64 5, .int .u32 0, .int .u32 1] 29)).alloc (.cells #[.int .u64 8, .int .u32 0, .int .u32 1] 29)).alloc (.cells #[.int .u64 5, .int .u32 0, .int .u32 1, .int .u64 8, .int .u32 0, .int .u32 1] 29)) = W3 at HA0 ⊢
  refine (Mean.of 5 ⟨by decide, by decide⟩ (some ⟨w.heap.size + 2, 0, none⟩) 2 2 [(5, 0, 1), (8, 0, 1)] _ HA0.out.2.1 (fun p hp => by
    simp at hp
    rcases hp with rfl | rfl
    · exact ex9p
    · exact ex9q) (by decide)).mono ?_
  rw [ex8]
  rintro e w1 ⟨rfl, hb⟩
  have ha := (Below.refl w1.heap.size w1).alloc (Nat.le_refl _) (.cells #[.int .u64 5, .int .i64 (hiW 3), .int .u64 (loW 3), .int .u64 2, .int .i64 2] 36)
  have HA1 : Hid (((Cs (w1.alloc (.cells #[.int .u64 5, .int .i64 (hiW 3), .int .u64 (loW 3), .int .u64 2, .int .i64 2] 36)) w.heap.size (pcells (5, 0, 1)) ∧ Cs (w1.alloc (.cells #[.int .u64 5, .int .i64 (hiW 3), .int .u64 (loW 3), .int .u64 2, .int .i64 2] 36)) (w.heap.size + 1) (pcells (8, 0, 1))) ∧ Cs (w1.alloc (.cells #[.int .u64 5, .int .i64 (hiW 3), .int .u64 (loW 3), .int .u64 2, .int .i64 2] 36)) w1.heap.size (Mu.mk 5 3 2 2).cells) ∧ Below w.heap.size w (w1.alloc (.cells #[.int .u64 5, .int .i64 (hiW 3), .int .u64 (loW 3), .int .u64 2, .int .i64 2] 36))) := hid ⟨⟨⟨(HA0.out.1.1.below hb).below ha, (HA0.out.1.2.below hb).below ha⟩, Cs.alloc_new6 w1 _ (Mu.mk 5 3 2 2).cells⟩, below_on (below_on HA0.out.2.2 hb) ha⟩
  clear hb ha HA0
  obtain ⟨m0, m1, m2, m3, m4⟩ := Mu.at (Mu.mk 5 3 2 2) HA1.out.1.2
  obtain ⟨q0, q1, q2⟩ := P3.at (5, 0, 1) HA1.out.1.1.1
  dsimp only at m0 m1 m2 m3 m4 q0 q1 q2
  go_wp2_with fail
  clear m0 m1 m2 m3 m4 q0 q1 q2
  generalize w1.alloc (.cells #[.int .u64 5, .int .i64 (hiW 3), .int .u64 (loW 3), .int .u64 2, .int .i64 2] 36) = W4 at HA1 ⊢
  generalize w1.heap.size = g3 at HA1 ⊢
  refine (ex9c _).mono ?_
  rintro e w2 ⟨rfl, hb⟩
  have ha := (Below.refl w2.heap.size w2).alloc (Nat.le_refl _) (.cells #[.int .i64 (hiW 1), .int .u64 (loW 1)] 34)
  have HA2 : Hid (((Cs (w2.alloc (.cells #[.int .i64 (hiW 1), .int .u64 (loW 1)] 34)) w.heap.size (pcells (5, 0, 1)) ∧ Cs (w2.alloc (.cells #[.int .i64 (hiW 1), .int .u64 (loW 1)] 34)) (w.heap.size + 1) (pcells (8, 0, 1))) ∧ Cs (w2.alloc (.cells #[.int .i64 (hiW 1), .int .u64 (loW 1)] 34)) g3 (Mu.mk 5 3 2 2).cells) ∧ Cs (w2.alloc (.cells #[.int .i64 (hiW 1), .int .u64 (loW 1)] 34)) w2.heap.size [.int .i64 (hiW 1), .int .u64 (loW 1)] ∧ Below w.heap.size w (w2.alloc (.cells #[.int .i64 (hiW 1), .int .u64 (loW 1)] 34))) := hid ⟨⟨⟨(HA1.out.1.1.1.below hb).below ha, (HA1.out.1.1.2.below hb).below ha⟩, (HA1.out.1.2.below hb).below ha⟩, Cs.new2 w2 _ _ _, below_on (below_on HA1.out.2 hb) ha⟩
  clear hb ha HA1
  obtain ⟨m0, m1, m2, m3, m4⟩ := Mu.at (Mu.mk 5 3 2 2) HA2.out.1.2
  obtain ⟨q0, q1, q2⟩ := P3.at (8, 0, 1) HA2.out.1.1.2
  dsimp only at m0 m1 m2 m3 m4 q0 q1 q2
  go_wp2_with fail
  clear m0 m1 m2 m3 m4 q0 q1 q2
  generalize w2.alloc (.cells #[.int .i64 (hiW 1), .int .u64 (loW 1)] 34) = W5 at HA2 ⊢
  generalize w2.heap.size = g4 at HA2 ⊢
  refine (ex9d _).mono ?_
  rintro e w3 ⟨rfl, hb⟩
  have ha := (Below.refl w3.heap.size w3).alloc (Nat.le_refl _) (.cells #[.int .i64 (hiW (-2)), .int .u64 (loW (-2))] 34)
  have HA5 : Hid (A9 w g3 g4 w3.heap.size (w3.alloc (.cells #[.int .i64 (hiW (-2)), .int .u64 (loW (-2))] 34))) := hid ⟨⟨(HA2.out.1.1.1.below hb).below ha, (HA2.out.1.1.2.below hb).below ha, (HA2.out.1.2.below hb).below ha⟩, ⟨(HA2.out.2.1.below hb).below ha, Cs.new2 w3 _ _ _⟩, below_on (below_on HA2.out.2.2 hb) ha⟩
  clear hb ha HA2
  go_wp2_with fail
  generalize w3.alloc (.cells #[.int .i64 (hiW (-2)), .int .u64 (loW (-2))] 34) = W6 at HA5 ⊢
  generalize w3.heap.size = g5 at HA5 ⊢
  refine wp_region_grow (S := A9 w g3 g4 g5) 32 (by kernel_rfl) (HA5.out.below (Below.refl _ _).drew) ?_
  refine wpAnyE_take (i := 0) (v := Value.bool true) (A9.stays w g3 g4 g5) (fun _ h => h) rfl (by kernel_rfl) (by kernel_rfl) (by kernel_rfl) (by kernel_rfl) (fun _ _ _ h => h) (Or.inl ⟨by rfl, fun wq hSw => ?_⟩) ?_
  · refine RunB.of_calls (Law8.Awake wq (HT.out.at2 hSw.2.2)) (by go_simp) ?_
    rintro e wr ⟨rfl, hb⟩
    exact ⟨rfl, hb⟩
  try simp only [List.getElem_toArray, List.getElem_cons_zero, List.getElem_cons_succ, Act.put, List.setIfInBounds_toArray, List.set_cons_zero, List.set_cons_succ]
  refine wpAnyE_take (i := 1) (v := ?_) (A9.stays w g3 g4 g5) (fun _ h => h) rfl (by kernel_rfl) (by kernel_rfl) (by kernel_rfl) (by kernel_rfl) (fun _ _ _ h => h) (SteadyB.of_yields (Or.inl ⟨by rfl, ?_⟩)) ?_
  rotate_left
  · intro wq hSw
    go_simp
    (try with_reducible rfl)
  try simp only [List.getElem_toArray, List.getElem_cons_zero, List.getElem_cons_succ, Act.put, List.setIfInBounds_toArray, List.set_cons_zero, List.set_cons_succ]
  refine wpAnyE_take (i := 2) (v := ?_) (A9.stays w g3 g4 g5) (fun _ h => h) rfl (by kernel_rfl) (by kernel_rfl) (by kernel_rfl) (by kernel_rfl) (fun _ _ _ h => h) (SteadyB.of_yields (Or.inl ⟨by rfl, ?_⟩)) ?_
  rotate_left
  · intro wq hSw
    go_simp
    (try with_reducible rfl)
  try simp only [List.getElem_toArray, List.getElem_cons_zero, List.getElem_cons_succ, Act.put, List.setIfInBounds_toArray, List.set_cons_zero, List.set_cons_succ]
  refine wpAnyE_take (i := 3) (v := ?_) (A9.stays w g3 g4 g5) (fun _ h => h) rfl (by kernel_rfl) (by kernel_rfl) (by kernel_rfl) (by kernel_rfl) (fun _ _ _ h => h) (SteadyB.of_yields (Or.inl ⟨by rfl, ?_⟩)) ?_
  rotate_left
  · intro wq hSw
    go_simp
    (try with_reducible rfl)
  try simp only [List.getElem_toArray, List.getElem_cons_zero, List.getElem_cons_succ, Act.put, List.setIfInBounds_toArray, List.set_cons_zero, List.set_cons_succ]
  refine wpAnyE_take (i := 4) (v := ?_) (A9.stays w g3 g4 g5) (fun _ h => h) rfl (by kernel_rfl) (by kernel_rfl) (by kernel_rfl) (by kernel_rfl) (fun _ _ _ h => h) (SteadyB.of_yields (Or.inl ⟨by rfl, ?_⟩)) ?_
  rotate_left
  · intro wq hSw
    go_simp
    (try with_reducible rfl)
  try simp only [List.getElem_toArray, List.getElem_cons_zero, List.getElem_cons_succ, Act.put, List.setIfInBounds_toArray, List.set_cons_zero, List.set_cons_succ]
  refine wpAnyE_take (i := 5) (v := ?_) (A9.stays w g3 g4 g5) (fun _ h => h) rfl (by kernel_rfl) (by kernel_rfl) (by kernel_rfl) (by kernel_rfl) (fun _ _ _ h => h) (SteadyB.of_yields (Or.inl ⟨by rfl, ?_⟩)) ?_
  rotate_left
  · intro wq hSw
    go_simp
    (try with_reducible rfl)
  try simp only [List.getElem_toArray, List.getElem_cons_zero, List.getElem_cons_succ, Act.put, List.setIfInBounds_toArray, List.set_cons_zero, List.set_cons_succ]
  refine wpAnyE_take (i := 6) (v := ?_) (A9.stays w g3 g4 g5) (fun _ h => h) rfl (by kernel_rfl) (by kernel_rfl) (by kernel_rfl) (by kernel_rfl) (fun _ _ _ h => h) (SteadyB.of_yields (Or.inl ⟨by rfl, ?_⟩)) ?_
  rotate_left
  · intro wq hSw
    go_simp
    (try with_reducible rfl)
  try simp only [List.getElem_toArray, List.getElem_cons_zero, List.getElem_cons_succ, Act.put, List.setIfInBounds_toArray, List.set_cons_zero, List.set_cons_succ]
  refine wpAnyE_take (i := 7) (v := ?_) (A9.stays w g3 g4 g5) (fun _ h => h) rfl (by kernel_rfl) (by kernel_rfl) (by kernel_rfl) (by kernel_rfl) (fun _ _ _ h => h) (SteadyB.of_yields (Or.inl ⟨by rfl, ?_⟩)) ?_
  rotate_left
  · intro wq hSw
    go_simp
    (try with_reducible rfl)
  try simp only [List.getElem_toArray, List.getElem_cons_zero, List.getElem_cons_succ, Act.put, List.setIfInBounds_toArray, List.set_cons_zero, List.set_cons_succ]
  refine wpAnyE_take (i := 8) (v := ?_) (A9.stays w g3 g4 g5) (fun _ h => h) rfl (by kernel_rfl) (by kernel_rfl) (by kernel_rfl) (by kernel_rfl) (fun _ _ _ h => h) (SteadyB.of_yields (Or.inl ⟨by rfl, ?_⟩)) ?_
  rotate_left
  · intro wq hSw
    go_simp
    (try with_reducible rfl)
  try simp only [List.getElem_toArray, List.getElem_cons_zero, List.getElem_cons_succ, Act.put, List.setIfInBounds_toArray, List.set_cons_zero, List.set_cons_succ]
  refine wpAnyE_take (i := 9) (v := ?_) (A9.stays w g3 g4 g5) (fun _ h => h) rfl (by kernel_rfl) (by kernel_rfl) (by kernel_rfl) (by kernel_rfl) (fun _ _ _ h => h) (SteadyB.of_yields (Or.inl ⟨by rfl, ?_⟩)) ?_
  rotate_left
  · intro wq hSw
    go_simp
    (try with_reducible rfl)
  try simp only [List.getElem_toArray, List.getElem_cons_zero, List.getElem_cons_succ, Act.put, List.setIfInBounds_toArray, List.set_cons_zero, List.set_cons_succ]
  refine wpAnyE_take (i := 10) (v := ?_) (A9.stays w g3 g4 g5) (fun _ h => h) rfl (by kernel_rfl) (by kernel_rfl) (by kernel_rfl) (by kernel_rfl) (fun _ _ _ h => h) (SteadyB.of_yields (Or.inl ⟨by rfl, ?_⟩)) ?_
  rotate_left
  · intro wq hSw
    go_simp
    (try with_reducible rfl)
  try simp only [List.getElem_toArray, List.getElem_cons_zero, List.getElem_cons_succ, Act.put, List.setIfInBounds_toArray, List.set_cons_zero, List.set_cons_succ]
  refine wpAnyE_take (i := 11) (v := ?_) (A9.stays w g3 g4 g5) (fun _ h => h) rfl (by kernel_rfl) (by kernel_rfl) (by kernel_rfl) (by kernel_rfl) (fun _ _ _ h => h) (SteadyB.of_yields (Or.inl ⟨by rfl, ?_⟩)) ?_
  rotate_left
  · intro wq hSw
    obtain ⟨m0, m1, m2, m3, m4⟩ := Mu.at (Mu.mk 5 3 2 2) hSw.1.2.2
    obtain ⟨q0, q1, q2⟩ := P3.at (5, 0, 1) hSw.1.1
    obtain ⟨r0, r1, r2⟩ := P3.at (8, 0, 1) hSw.1.2.1
    have a0 := hSw.2.1.1.at0
    have a1 := hSw.2.1.1.at1
    have b0 := hSw.2.1.2.at0
    have b1 := hSw.2.1.2.at1
    dsimp only at m0 m1 m2 m3 m4 q0 q1 q2 r0 r1 r2
    go_simp
    (try with_reducible rfl)
  try simp only [List.getElem_toArray, List.getElem_cons_zero, List.getElem_cons_succ, Act.put, List.setIfInBounds_toArray, List.set_cons_zero, List.set_cons_succ]
  refine wpAnyE_take (i := 12) (v := wv 1) (A9.stays w g3 g4 g5) (fun _ h => h) rfl (by kernel_rfl) (by kernel_rfl) (by kernel_rfl) (by kernel_rfl) (fun _ _ _ h => h) (Or.inl ⟨by rfl, fun wq hSw => ?_⟩) ?_
  · refine RunB.of_calls (Wide.ofF (x := 1) (by decide) (by decide) wq) (by go_simp) ?_
    rintro e wr ⟨rfl, hb⟩
    exact ⟨rfl, hb⟩
  try simp only [List.getElem_toArray, List.getElem_cons_zero, List.getElem_cons_succ, Act.put, List.setIfInBounds_toArray, List.set_cons_zero, List.set_cons_succ]
  refine wpAnyE_take (i := 13) (v := ?_) (A9.stays w g3 g4 g5) (fun _ h => h) rfl (by kernel_rfl) (by kernel_rfl) (by kernel_rfl) (by kernel_rfl) (fun _ _ _ h => h) (SteadyB.of_yields (Or.inl ⟨by rfl, ?_⟩)) ?_
  rotate_left
  · intro wq hSw
    go_simp
    (try with_reducible rfl)
  try simp only [List.getElem_toArray, List.getElem_cons_zero, List.getElem_cons_succ, Act.put, List.setIfInBounds_toArray, List.set_cons_zero, List.set_cons_succ]
  refine wpAnyE_take (i := 14) (v := ?_) (A9.stays w g3 g4 g5) (fun _ h => h) rfl (by kernel_rfl) (by kernel_rfl) (by kernel_rfl) (by kernel_rfl) (fun _ _ _ h => h) (SteadyB.of_yields (Or.inl ⟨by rfl, ?_⟩)) ?_
  rotate_left
  · intro wq hSw
    go_simp
    (try with_reducible rfl)
  try simp only [List.getElem_toArray, List.getElem_cons_zero, List.getElem_cons_succ, Act.put, List.setIfInBounds_toArray, List.set_cons_zero, List.set_cons_succ]
  refine wpAnyE_take (i := 15) (v := ?_) (A9.stays w g3 g4 g5) (fun _ h => h) rfl (by kernel_rfl) (by kernel_rfl) (by kernel_rfl) (by kernel_rfl) (fun _ _ _ h => h) (SteadyB.of_yields (Or.inl ⟨by rfl, ?_⟩)) ?_
  rotate_left
  · intro wq hSw
    go_simp
    (try with_reducible rfl)
  try simp only [List.getElem_toArray, List.getElem_cons_zero, List.getElem_cons_succ, Act.put, List.setIfInBounds_toArray, List.set_cons_zero, List.set_cons_succ]
  refine wpAnyE_take (i := 16) (v := ?_) (A9.stays w g3 g4 g5) (fun _ h => h) rfl (by kernel_rfl) (by kernel_rfl) (by kernel_rfl) (by kernel_rfl) (fun _ _ _ h => h) (SteadyB.of_yields (Or.inl ⟨by rfl, ?_⟩)) ?_
  rotate_left
  · intro wq hSw
    obtain ⟨m0, m1, m2, m3, m4⟩ := Mu.at (Mu.mk 5 3 2 2) hSw.1.2.2
    obtain ⟨q0, q1, q2⟩ := P3.at (5, 0, 1) hSw.1.1
    obtain ⟨r0, r1, r2⟩ := P3.at (8, 0, 1) hSw.1.2.1
    have a0 := hSw.2.1.1.at0
    have a1 := hSw.2.1.1.at1
    have b0 := hSw.2.1.2.at0
    have b1 := hSw.2.1.2.at1
    dsimp only at m0 m1 m2 m3 m4 q0 q1 q2 r0 r1 r2
    go_simp
    (try with_reducible rfl)
  try simp only [List.getElem_toArray, List.getElem_cons_zero, List.getElem_cons_succ, Act.put, List.setIfInBounds_toArray, List.set_cons_zero, List.set_cons_succ]
  refine wpAnyE_take (i := 17) (v := wv (-2)) (A9.stays w g3 g4 g5) (fun _ h => h) rfl (by kernel_rfl) (by kernel_rfl) (by kernel_rfl) (by kernel_rfl) (fun _ _ _ h => h) (Or.inl ⟨by rfl, fun wq hSw => ?_⟩) ?_
  · refine RunB.of_calls (Wide.ofF (x := -2) (by decide) (by decide) wq) (by go_simp) ?_
    rintro e wr ⟨rfl, hb⟩
    exact ⟨rfl, hb⟩
  try simp only [List.getElem_toArray, List.getElem_cons_zero, List.getElem_cons_succ, Act.put, List.setIfInBounds_toArray, List.set_cons_zero, List.set_cons_succ]
  refine wpAnyE_take (i := 18) (v := ?_) (A9.stays w g3 g4 g5) (fun _ h => h) rfl (by kernel_rfl) (by kernel_rfl) (by kernel_rfl) (by kernel_rfl) (fun _ _ _ h => h) (SteadyB.of_yields (Or.inl ⟨by rfl, ?_⟩)) ?_
  rotate_left
  · intro wq hSw
    go_simp
    (try with_reducible rfl)
  try simp only [List.getElem_toArray, List.getElem_cons_zero, List.getElem_cons_succ, Act.put, List.setIfInBounds_toArray, List.set_cons_zero, List.set_cons_succ]
  refine wpAnyE_take (i := 19) (v := ?_) (A9.stays w g3 g4 g5) (fun _ h => h) rfl (by kernel_rfl) (by kernel_rfl) (by kernel_rfl) (by kernel_rfl) (fun _ _ _ h => h) (SteadyB.of_yields (Or.inl ⟨by rfl, ?_⟩)) ?_
  rotate_left
  · intro wq hSw
    go_simp
    (try with_reducible rfl)
  try simp only [List.getElem_toArray, List.getElem_cons_zero, List.getElem_cons_succ, Act.put, List.setIfInBounds_toArray, List.set_cons_zero, List.set_cons_succ]
  refine wpAnyE_take (i := 20) (v := ?_) (A9.stays w g3 g4 g5) (fun _ h => h) rfl (by kernel_rfl) (by kernel_rfl) (by kernel_rfl) (by kernel_rfl) (fun _ _ _ h => h) (SteadyB.of_yields (Or.inl ⟨by rfl, ?_⟩)) ?_
  rotate_left
  · intro wq hSw
    go_simp
    (try with_reducible rfl)
  try simp only [List.getElem_toArray, List.getElem_cons_zero, List.getElem_cons_succ, Act.put, List.setIfInBounds_toArray, List.set_cons_zero, List.set_cons_succ]
  refine wpAnyE_take (i := 21) (v := ?_) (A9.stays w g3 g4 g5) (fun _ h => h) rfl (by kernel_rfl) (by kernel_rfl) (by kernel_rfl) (by kernel_rfl) (fun _ _ _ h => h) (SteadyB.of_yields (Or.inl ⟨by rfl, ?_⟩)) ?_
  rotate_left
  · intro wq hSw
    obtain ⟨m0, m1, m2, m3, m4⟩ := Mu.at (Mu.mk 5 3 2 2) hSw.1.2.2
    obtain ⟨q0, q1, q2⟩ := P3.at (5, 0, 1) hSw.1.1
    obtain ⟨r0, r1, r2⟩ := P3.at (8, 0, 1) hSw.1.2.1
    have a0 := hSw.2.1.1.at0
    have a1 := hSw.2.1.1.at1
    have b0 := hSw.2.1.2.at0
    have b1 := hSw.2.1.2.at1
    dsimp only at m0 m1 m2 m3 m4 q0 q1 q2 r0 r1 r2
    go_simp
    (try with_reducible rfl)
  try simp only [List.getElem_toArray, List.getElem_cons_zero, List.getElem_cons_succ, Act.put, List.setIfInBounds_toArray, List.set_cons_zero, List.set_cons_succ]
  refine wpAnyE_take (i := 22) (v := ?_) (A9.stays w g3 g4 g5) (fun _ h => h) rfl (by kernel_rfl) (by kernel_rfl) (by kernel_rfl) (by kernel_rfl) (fun _ _ _ h => h) (SteadyB.of_yields (Or.inl ⟨by rfl, ?_⟩)) ?_
  rotate_left
  · intro wq hSw
    obtain ⟨m0, m1, m2, m3, m4⟩ := Mu.at (Mu.mk 5 3 2 2) hSw.1.2.2
    obtain ⟨q0, q1, q2⟩ := P3.at (5, 0, 1) hSw.1.1
    obtain ⟨r0, r1, r2⟩ := P3.at (8, 0, 1) hSw.1.2.1
    have a0 := hSw.2.1.1.at0
    have a1 := hSw.2.1.1.at1
    have b0 := hSw.2.1.2.at0
    have b1 := hSw.2.1.2.at1
    dsimp only at m0 m1 m2 m3 m4 q0 q1 q2 r0 r1 r2
    go_simp
    (try with_reducible rfl)
  try simp only [List.getElem_toArray, List.getElem_cons_zero, List.getElem_cons_succ, Act.put, List.setIfInBounds_toArray, List.set_cons_zero, List.set_cons_succ]
  refine wpAnyE_take (i := 23) (v := Value.bool true) (A9.stays w g3 g4 g5) (fun _ h => h) rfl (by kernel_rfl) (by kernel_rfl) (by kernel_rfl) (by kernel_rfl) (fun _ _ _ h => h) (Or.inl ⟨by rfl, fun wq hSw => ?_⟩) ?_
  · refine RunB.of_calls (ex9a wq) (by go_simp) ?_
    rintro e wr ⟨rfl, hb⟩
    exact ⟨rfl, hb⟩
  try simp only [List.getElem_toArray, List.getElem_cons_zero, List.getElem_cons_succ, Act.put, List.setIfInBounds_toArray, List.set_cons_zero, List.set_cons_succ]
  refine wpAnyE_take (i := 24) (v := ?_) (A9.stays w g3 g4 g5) (fun _ h => h) rfl (by kernel_rfl) (by kernel_rfl) (by kernel_rfl) (by kernel_rfl) (fun _ _ _ h => h) (SteadyB.of_yields (Or.inl ⟨by rfl, ?_⟩)) ?_
  rotate_left
  · intro wq hSw
    go_simp
    (try with_reducible rfl)
  try simp only [List.getElem_toArray, List.getElem_cons_zero, List.getElem_cons_succ, Act.put, List.setIfInBounds_toArray, List.set_cons_zero, List.set_cons_succ]
  refine wpAnyE_take (i := 25) (v := ?_) (A9.stays w g3 g4 g5) (fun _ h => h) rfl (by kernel_rfl) (by kernel_rfl) (by kernel_rfl) (by kernel_rfl) (fun _ _ _ h => h) (SteadyB.of_yields (Or.inl ⟨by rfl, ?_⟩)) ?_
  rotate_left
  · intro wq hSw
    go_simp
    (try with_reducible rfl)
  try simp only [List.getElem_toArray, List.getElem_cons_zero, List.getElem_cons_succ, Act.put, List.setIfInBounds_toArray, List.set_cons_zero, List.set_cons_succ]
  refine wpAnyE_take (i := 26) (v := ?_) (A9.stays w g3 g4 g5) (fun _ h => h) rfl (by kernel_rfl) (by kernel_rfl) (by kernel_rfl) (by kernel_rfl) (fun _ _ _ h => h) (SteadyB.of_yields (Or.inl ⟨by rfl, ?_⟩)) ?_
  rotate_left
  · intro wq hSw
    obtain ⟨m0, m1, m2, m3, m4⟩ := Mu.at (Mu.mk 5 3 2 2) hSw.1.2.2
    obtain ⟨q0, q1, q2⟩ := P3.at (5, 0, 1) hSw.1.1
    obtain ⟨r0, r1, r2⟩ := P3.at (8, 0, 1) hSw.1.2.1
    have a0 := hSw.2.1.1.at0
    have a1 := hSw.2.1.1.at1
    have b0 := hSw.2.1.2.at0
    have b1 := hSw.2.1.2.at1
    dsimp only at m0 m1 m2 m3 m4 q0 q1 q2 r0 r1 r2
    go_simp
    (try with_reducible rfl)
  try simp only [List.getElem_toArray, List.getElem_cons_zero, List.getElem_cons_succ, Act.put, List.setIfInBounds_toArray, List.set_cons_zero, List.set_cons_succ]
  refine wpAnyE_take (i := 27) (v := ?_) (A9.stays w g3 g4 g5) (fun _ h => h) rfl (by kernel_rfl) (by kernel_rfl) (by kernel_rfl) (by kernel_rfl) (fun _ _ _ h => h) (SteadyB.of_yields (Or.inl ⟨by rfl, ?_⟩)) ?_
  rotate_left
  · intro wq hSw
    obtain ⟨m0, m1, m2, m3, m4⟩ := Mu.at (Mu.mk 5 3 2 2) hSw.1.2.2
    obtain ⟨q0, q1, q2⟩ := P3.at (5, 0, 1) hSw.1.1
    obtain ⟨r0, r1, r2⟩ := P3.at (8, 0, 1) hSw.1.2.1
    have a0 := hSw.2.1.1.at0
    have a1 := hSw.2.1.1.at1
    have b0 := hSw.2.1.2.at0
    have b1 := hSw.2.1.2.at1
    dsimp only at m0 m1 m2 m3 m4 q0 q1 q2 r0 r1 r2
    go_simp
    (try with_reducible rfl)
  try simp only [List.getElem_toArray, List.getElem_cons_zero, List.getElem_cons_succ, Act.put, List.setIfInBounds_toArray, List.set_cons_zero, List.set_cons_succ]
  refine wpAnyE_take (i := 28) (v := Value.bool false) (A9.stays w g3 g4 g5) (fun _ h => h) rfl (by kernel_rfl) (by kernel_rfl) (by kernel_rfl) (by kernel_rfl) (fun _ _ _ h => h) (Or.inl ⟨by rfl, fun wq hSw => ?_⟩) ?_
  · refine RunB.of_calls (ex9b wq) (by go_simp) ?_
    rintro e wr ⟨rfl, hb⟩
    exact ⟨rfl, hb⟩
  try simp only [List.getElem_toArray, List.getElem_cons_zero, List.getElem_cons_succ, Act.put, List.setIfInBounds_toArray, List.set_cons_zero, List.set_cons_succ]
  refine wpAnyE_take (i := 29) (v := ?_) (A9.stays w g3 g4 g5) (fun _ h => h) rfl (by kernel_rfl) (by kernel_rfl) (by kernel_rfl) (by kernel_rfl) (fun _ _ _ h => h) (SteadyB.of_yields (Or.inl ⟨by rfl, ?_⟩)) ?_
  rotate_left
  · intro wq hSw
    go_simp
    (try with_reducible rfl)
  try simp only [List.getElem_toArray, List.getElem_cons_zero, List.getElem_cons_succ, Act.put, List.setIfInBounds_toArray, List.set_cons_zero, List.set_cons_succ]
  refine wpAnyE_take (i := 30) (v := ?_) (A9.stays w g3 g4 g5) (fun _ h => h) rfl (by kernel_rfl) (by kernel_rfl) (by kernel_rfl) (by kernel_rfl) (fun _ _ _ h => h) (SteadyB.of_yields (Or.inl ⟨by rfl, ?_⟩)) ?_
  rotate_left
  · intro wq hSw
    go_simp
    (try with_reducible rfl)
  try simp only [List.getElem_toArray, List.getElem_cons_zero, List.getElem_cons_succ, Act.put, List.setIfInBounds_toArray, List.set_cons_zero, List.set_cons_succ]
  refine wpAnyE_take (i := 31) (v := ?_) (A9.stays w g3 g4 g5) (fun _ h => h) rfl (by kernel_rfl) (by kernel_rfl) (by kernel_rfl) (by kernel_rfl) (fun _ _ _ h => h) (SteadyB.of_yields (Or.inl ⟨by rfl, ?_⟩)) ?_
  rotate_left
  · intro wq hSw
    go_simp
    (try with_reducible rfl)
  try simp only [List.getElem_toArray, List.getElem_cons_zero, List.getElem_cons_succ, Act.put, List.setIfInBounds_toArray, List.set_cons_zero, List.set_cons_succ]
  refine wpAnyE_done (by kernel_rfl) (fun wz hSz => ?_) _
  have HF := hid hSz.2.2
  clear hSz HA5
  go_wp2_with fail
  go_ret
  exact ⟨rfl, HF.out⟩
theorem Law9.Awake (w : World) (htab : Tab10 w.heap.size w) : Calls Tryz.prog 85 #[] w (Ans (.bool true) w) := by
  go_enter Tryz.func85, Tryz.ntmps85
  go_wp2_with (go_at_call 24; refine (Law9.awake _ htab).mono ?_; rintro e w' ⟨rfl, hb⟩)
  go_ret
  exact ⟨rfl, hb⟩
end

/- The laws of layer 10: the chapter's example; who is near. -/
section
open Go.RowKit
theorem RdP.new1 (w : World) (t : TypeId) (a b c : Int) : RdP (w.alloc (.cells #[.int .u64 a, .int .u32 b, .int .u32 c] t)) (some ⟨w.heap.size, 0, none⟩) 1 [(a, b, c)] :=
  ⟨rfl, fun _ _ => ⟨_, 0, rfl, by simp, fun j hj => by
    rcases j with _ | j
    · simp [go_sem]
    · omega⟩⟩
theorem ex10p : PIn (10, 0, 1) := ⟨⟨by decide, by decide⟩, ⟨by decide, by decide⟩, by decide, by decide⟩
theorem ex10 : Mu.of 0 [(10, 0, 1)] = (true, (Mu.mk 0 10 1 1)) := by
  rw [of_yes 0 (l := [(10, 0, 1)]) (fun p hp => by
    simp at hp
    subst hp
    exact ⟨by decide, ex10p⟩) (by decide)]
  rfl
theorem ex10in : (Mu.mk 0 10 1 1).In := by unfold Mu.In WR; refine ⟨⟨?_, ?_⟩, ⟨?_, ?_⟩, ⟨?_, ?_⟩, ?_, ?_⟩ <;> decide
theorem ex10pl : (Mu.mk 0 10 1 1).place 0 1 2 = (true, (6, 0, 1)) := by first | rfl | decide +kernel
set_option maxRecDepth 100000 in
set_option maxHeartbeats 4000000 in
theorem Law10.awake (w : World) (htab : Tab10 w.heap.size w) : Calls Tryz.prog 41 #[] w (Ans (.bool true) w) := by
  have HT := hid htab
  have HB0 := hid ((Below.refl w.heap.size w).alloc (Nat.le_refl _) (.cells #[.int .u64 10, .int .u32 0, .int .u32 1] 29))
  have HR := hid (RdP.new1 w 29 10 0 1)
  clear htab
  go_enter Tryz.func41, Tryz.ntmps41
  go_wp2_with fail
  generalize w.alloc (.cells #[.int .u64 10, .int .u32 0, .int .u32 1] 29) = W0 at HB0 HR ⊢
  refine (Mean.of 0 ⟨by decide, by decide⟩ (some ⟨w.heap.size, 0, none⟩) 1 1 [(10, 0, 1)] _ HR.out (fun p hp => by
    simp at hp
    subst hp
    exact ex10p) (by decide)).mono ?_
  rw [ex10]
  rintro e w1 ⟨rfl, hb⟩
  have HB1 := hid (below_on (below_on HB0.out hb) ((Below.refl w1.heap.size w1).alloc (Nat.le_refl _) (.cells #[.int .u64 0, .int .i64 (hiW 10), .int .u64 (loW 10), .int .u64 1, .int .i64 1] 36)))
  have HC1 : Hid (Cs (w1.alloc (.cells #[.int .u64 0, .int .i64 (hiW 10), .int .u64 (loW 10), .int .u64 1, .int .i64 1] 36)) w1.heap.size (Mu.mk 0 10 1 1).cells) := hid (Cs.alloc_new6 w1 _ (Mu.mk 0 10 1 1).cells)
  clear hb HB0 HR
  go_wp2_with fail
  generalize w1.alloc (.cells #[.int .u64 0, .int .i64 (hiW 10), .int .u64 (loW 10), .int .u64 1, .int .i64 1] 36) = W1 at HB1 HC1 ⊢
  generalize w1.heap.size = g at HC1 ⊢
  refine (Place.place (Mu.mk 0 10 1 1) 0 1 2 ex10in (by decide) (by decide) (by decide) (by decide) _).mono ?_
  rw [ex10pl]
  rintro e w2 ⟨rfl, hb⟩
  have HB2 := hid (below_on (below_on HB1.out hb) ((Below.refl w2.heap.size w2).alloc (Nat.le_refl _) (.cells #[.int .u64 6, .int .u32 0, .int .u32 1] 29)))
  have HC2 : Hid (Cs (w2.alloc (.cells #[.int .u64 6, .int .u32 0, .int .u32 1] 29)) w2.heap.size [.int .u64 6, .int .u32 0, .int .u32 1]) := hid (Cs.alloc_new6 w2 _ [.int .u64 6, .int .u32 0, .int .u32 1])
  clear hb HB1 HC1
  go_wp2_with fail
  generalize w2.alloc (.cells #[.int .u64 6, .int .u32 0, .int .u32 1] 29) = W2 at HB2 HC2 ⊢
  generalize w2.heap.size = g2 at HC2 ⊢
  refine (Law9.Awake _ (HT.out.at2 HB2.out)).mono ?_
  rintro e w3 ⟨rfl, hb⟩
  have HB3 := hid (below_on HB2.out hb)
  have HC3 := hid (HC2.out.below hb)
  obtain ⟨m0, m1, m2⟩ := HC3.out.three
  clear hb HB2 HC2
  go_wp2_with fail
  go_ret
  exact ⟨rfl, HB3.out⟩
end

/- The chapter's example of layer 11, as the laws ask it. -/
section
open Go.RowKit
theorem Law10.Awake (w : World) (htab : Tab10 w.heap.size w) : Calls Tryz.prog 89 #[] w (Ans (.bool true) w) := by
  go_enter Tryz.func89, Tryz.ntmps89
  go_wp2_with (go_at_call 41; refine (Law10.awake _ htab).mono ?_; rintro e w' ⟨rfl, hb⟩)
  go_ret
  exact ⟨rfl, hb⟩
theorem ex11 : (Mu.mk 5 3 2 2).weigh (8, 0, 1) 2 = (true, (7, 0, 2)) := by first | rfl | decide +kernel
section
attribute [local go_sem] Pos.eqB
set_option maxRecDepth 100000 in
set_option maxHeartbeats 4000000 in
theorem Law11.awake (w : World) (htab : Tab10 w.heap.size w) : Calls Tryz.prog 44 #[] w (Ans (.bool true) w) := by
  have HT := hid htab
  have HA0 : Hid ((Cs ((w.alloc (.cells #[.int .u64 8, .int .u32 0, .int .u32 1] 29)).alloc (.cells #[.int .u64 5, .int .u32 0, .int .u32 1, .int .u64 8, .int .u32 0, .int .u32 1] 29)) w.heap.size (pcells (8, 0, 1)) ∧ RdP ((w.alloc (.cells #[.int .u64 8, .int .u32 0, .int .u32 1] 29)).alloc (.cells #[.int .u64 5, .int .u32 0, .int .u32 1, .int .u64 8, .int .u32 0, .int .u32 1] 29)) (some ⟨w.heap.size + 1, 0, none⟩) 2 [(5, 0, 1), (8, 0, 1)]) ∧ Below w.heap.size w ((w.alloc (.cells #[.int .u64 8, .int .u32 0, .int .u32 1] 29)).alloc (.cells #[.int .u64 5, .int .u32 0, .int .u32 1, .int .u64 8, .int .u32 0, .int .u32 1] 29))) := hid (by
    have h2 := RdP.new2 (w.alloc (.cells #[.int .u64 8, .int .u32 0, .int .u32 1] 29)) 29 5 0 1 8 0 1
    simp only [World.size_alloc] at h2
    exact ⟨⟨(Cs.alloc_new6 w 29 (pcells (8, 0, 1))).alloc _, h2⟩, ((Below.refl w.heap.size w).alloc (Nat.le_refl _) _).alloc (by simp) _⟩)
  clear htab
  go_enter Tryz.func44, Tryz.ntmps44
  go_wp2_with fail
  generalize ((w.alloc (.cells #[.int .u64 8, .int .u32 0, .int .u32 1] 29)).alloc (.cells #[.int .u64 5, .int .u32 0, .int .u32 1, .int .u64 8, .int .u32 0, .int .u32 1] 29)) = W0 at HA0 ⊢
  refine (Mean.of 5 ⟨by decide, by decide⟩ (some ⟨w.heap.size + 1, 0, none⟩) 2 2 [(5, 0, 1), (8, 0, 1)] _ HA0.out.1.2 (fun p hp => by
    simp at hp
    rcases hp with rfl | rfl
    · exact ⟨⟨by decide, by decide⟩, ⟨by decide, by decide⟩, by decide, by decide⟩
    · exact ⟨⟨by decide, by decide⟩, ⟨by decide, by decide⟩, by decide, by decide⟩) (by decide)).mono ?_
  rw [ex8]
  rintro e w1 ⟨rfl, hb⟩
  have ha := (Below.refl w1.heap.size w1).alloc (Nat.le_refl _) (.cells #[.int .u64 5, .int .i64 (hiW 3), .int .u64 (loW 3), .int .u64 2, .int .i64 2] 36)
  have HB1 := hid (below_on (below_on HA0.out.2 hb) ha)
  have HC1 := hid ((HA0.out.1.1.below hb).below ha)
  obtain ⟨q0, q1, q2⟩ := P3.at _ HC1.out
  clear hb ha HA0
  go_wp2_with fail
  clear q0 q1 q2
  refine (Weigh.weigh ⟨5, 3, 2, 2⟩ (8, 0, 1) 2 ex9in ex9q (by decide) (by decide) _).mono ?_
  rw [ex11]
  rintro e w2 ⟨rfl, hb⟩
  have HB2 := hid (below_on (below_on HB1.out hb) ((Below.refl w2.heap.size w2).alloc (Nat.le_refl _) (.cells #[.int .u64 7, .int .u32 0, .int .u32 2] 29)))
  have HC2 : Hid (Cs (w2.alloc (.cells #[.int .u64 7, .int .u32 0, .int .u32 2] 29)) w2.heap.size [.int .u64 7, .int .u32 0, .int .u32 2]) := hid (Cs.alloc_new6 w2 _ [.int .u64 7, .int .u32 0, .int .u32 2])
  clear hb HB1 HC1
  go_wp2_with fail
  generalize w2.alloc (.cells #[.int .u64 7, .int .u32 0, .int .u32 2] 29) = W2 at HB2 HC2 ⊢
  generalize w2.heap.size = g2 at HC2 ⊢
  refine (Law10.Awake _ (HT.out.at2 HB2.out)).mono ?_
  rintro e w3 ⟨rfl, hb⟩
  have HB3 := hid (below_on HB2.out hb)
  have HC3 := hid (HC2.out.below hb)
  obtain ⟨m0, m1, m2⟩ := HC3.out.three
  clear hb HB2 HC2
  go_wp2_with fail
  go_ret
  exact ⟨rfl, HB3.out⟩
end
theorem Law11.Awake (w : World) (htab : Tab10 w.heap.size w) : Calls Tryz.prog 94 #[] w (Ans (.bool true) w) := by
  go_enter Tryz.func94, Tryz.ntmps94
  go_wp2_with (go_at_call 44; refine (Law11.awake _ htab).mono ?_; rintro e w' ⟨rfl, hb⟩)
  go_ret
  exact ⟨rfl, hb⟩
end

/- The chapter's examples of layer 12, as the laws ask them. -/
section
open Go.RowKit
theorem ex12w : winI 1 1 = 3145728 ∧ winOk 1 1 = true := by constructor <;> decide
theorem ex12c : carI [-5, 0] = 9 := by decide
section
attribute [local go_sem] Wide.eqB
set_option maxRecDepth 100000 in
set_option maxHeartbeats 4000000 in
theorem Law12.awake (w : World) (htab : Tab10 w.heap.size w) : Calls Tryz.prog 50 #[] w (Ans (.bool true) w) := by
  have HT := hid htab
  clear htab
  go_enter Tryz.func50, Tryz.ntmps50
  go_wp2_with fail
  refine (Clamp.window 1 1 ⟨by decide, by decide⟩ ⟨by decide, by decide⟩ _).mono ?_
  rw [ex12w.1, ex12w.2]
  rintro e w1 ⟨rfl, hb⟩
  have HB1 := hid hb
  clear hb
  go_wp2_with fail
  refine (Law11.Awake _ (HT.out.at2 HB1.out)).mono ?_
  rintro e w2 ⟨rfl, hb⟩
  have HB2 := hid (below_on HB1.out hb)
  clear hb HB1
  go_wp2_with fail
  refine (Wide.ofF (x := -5) (by decide) (by decide) _).mono ?_
  rintro e w3 ⟨rfl, hb⟩
  have HB3 := hid (below_on HB2.out hb)
  clear hb HB2
  go_wp2_with fail
  refine (Wide.ofF (x := 0) (by decide) (by decide) _).mono ?_
  rintro e w4 ⟨rfl, hb⟩
  have HB4 := hid (below_on HB3.out hb)
  have HR := hid (RdW.new2 w4 34 (-5) 0)
  have HB5 := hid (HB4.out.alloc HB4.out.size (.cells #[.int .i64 (hiW (-5)), .int .u64 (loW (-5)), .int .i64 (hiW 0), .int .u64 (loW 0)] 34))
  clear hb HB3 HB4
  go_wp2_with fail
  refine (Clamp.carried (some ⟨w4.heap.size, 0, none⟩) 2 2 [-5, 0] _ HR.out (fun x hx => by
    simp at hx
    rcases hx with rfl | rfl <;> (unfold WR; omega)) (by decide)).mono ?_
  rw [ex12c]
  rintro e w5 ⟨rfl, hb⟩
  have HB6 := hid (below_on HB5.out hb)
  clear hb HB5 HR
  go_wp2_with fail
  refine (Wide.ofF (x := 9) (by decide) (by decide) _).mono ?_
  rintro e w6 ⟨rfl, hb⟩
  have HB7 := hid (below_on HB6.out hb)
  clear hb HB6
  go_wp2_with fail
  go_ret
  exact ⟨rfl, HB7.out⟩
end
end

/- The contracts of the document's answer for layer 12. -/
section
open Go.RowKit
theorem Var.fin {w W : World} {g : Nat} {s0 : Bool} {A0 : Option Addr} {n0 c0 : Nat} (hv : Var W g s0 A0 n0 c0) (hb : Below w.heap.size w W) (hg : w.heap.size ≤ g) {L : Nat} {s : Bool} {A : Option Addr} {n c : Nat} {z : Int} (h : IsB W L s A n c z) :
    IsB ((W.setCell ⟨g, 0, none⟩ (.bool s)).setCell ⟨g, 1, none⟩ (.slice A n c)) L s A n c z ∧ Below w.heap.size w ((W.setCell ⟨g, 0, none⟩ (.bool s)).setCell ⟨g, 1, none⟩ (.slice A n c)) :=
  ⟨h.storeV hv _ _ _ _, (hb.setCell hg _).setCell hg _⟩
theorem two127 : (2 : Int) ^ 127 - 1 = mxW := by unfold mxW; decide
set_option maxRecDepth 100000 in
set_option maxHeartbeats 2000000 in
theorem Ref12.greatest (w : World) : Calls Tryz.prog 98 #[] w (BAns 133 mxW w) := by
  have HVr := hid (Var.new w 41 false none 0 0)
  have HBW := hid ((Below.refl w.heap.size w).alloc (Nat.le_refl _) (.cells #[.bool false, .slice none 0 0] 41))
  go_enter Tryz.func98, Tryz.ntmps98
  go_wp2_with fail
  generalize w.alloc (.cells #[.bool false, .slice none 0 0] 41) = W0 at HVr HBW ⊢
  refine (Ref.power 127 (by decide) _).mono ?_
  rintro e w1 ⟨s1, A1, n1, c1, rfl, hB, hb⟩
  have H1 := hid (hB)
  clear hB
  replace HVr := hid (HVr.out.below hb)
  replace HBW := hid (below_keep HBW.out hb)
  clear hb
  obtain ⟨r0, r1, r2, r3, _⟩ := HVr.out
  have rl := HVr.out.lt
  go_wp2_with fail
  clear r0 r1 r2 r3 rl
  refine (Ref.N 1 (by decide) (by decide) _).mono ?_
  rintro e w2 ⟨s2, A2, n2, c2, rfl, hB, hb⟩
  have H2 := hid (hB.mono (show _ ≤ 132 by omega))
  clear hB
  replace H1 := hid (H1.out.below hb)
  replace HVr := hid (HVr.out.below hb)
  replace HBW := hid (below_keep HBW.out hb)
  clear hb
  obtain ⟨r0, r1, r2, r3, _⟩ := HVr.out
  have rl := HVr.out.lt
  go_wp2_with fail
  clear r0 r1 r2 r3 rl
  refine (Ref.sub 132 s1 s2 A1 A2 n1 c1 n2 c2 _ _ _ H1.out H2.out (by decide)).mono ?_
  rintro e w3 ⟨s3, A3, n3, c3, rfl, hB, hb⟩
  have H3 := hid (hB)
  clear hB
  replace H1 := hid (H1.out.below hb)
  replace H2 := hid (H2.out.below hb)
  replace HVr := hid (HVr.out.below hb)
  replace HBW := hid (below_keep HBW.out hb)
  clear hb
  rw [two127] at H3
  obtain ⟨r0, r1, r2, r3, _⟩ := HVr.out
  have rl := HVr.out.lt
  go_wp2_with fail
  have HFN := HVr.out.fin HBW.out (Nat.le_refl _) H3.out
  refine bodyPost_ret (v := .agg #[.bool s3, .slice A3 n3 c3]) (by simp [results, Tryz.results98, go_sem, r0, r1, rl]) rfl ⟨_, _, _, _, rfl, HFN.1, HFN.2⟩
/-- What a call that answers a Big and whether there is one leaves. -/
def BOk (L : Nat) (z : Int) (ok : Bool) (w : World) (e : Ending) (w' : World) : Prop :=
  ∃ (s : Bool) (A : Option Addr) (n c : Nat), e = .returned (.tuple #[.agg #[.bool s, .slice A n c], .bool ok]) ∧ IsB w' L s A n c z ∧ Below w.heap.size w w'
set_option maxRecDepth 100000 in
set_option maxHeartbeats 2000000 in
theorem Ref12.window_no1 (s t : Int) (h1 : s < 1) (w : World) : Calls Tryz.prog 52 #[.int .u64 s, .int .u64 t] w (BOk 17 0 false w) := by
  have HVr := hid (Var.new w 41 false none 0 0)
  have HBW := hid ((Below.refl w.heap.size w).alloc (Nat.le_refl _) (.cells #[.bool false, .slice none 0 0] 41))
  go_enter Tryz.func52, Tryz.ntmps52
  go_wp2_with fail
  refine bodyPost_ret (v := .tuple #[.agg #[.bool false, .slice none 0 0], .bool false]) (by simp [results, Tryz.results52, go_sem]) rfl ⟨_, _, _, _, rfl, IsB.zero _ _, ?_⟩
  exact (Below.refl w.heap.size w).alloc (Nat.le_refl _) _
set_option maxRecDepth 100000 in
set_option maxHeartbeats 2000000 in
theorem Ref12.window_no2 (s t : Int) (h1 : ¬ s < 1) (h2 : 1099511627776 < s) (w : World) : Calls Tryz.prog 52 #[.int .u64 s, .int .u64 t] w (BOk 17 0 false w) := by
  have HVr := hid (Var.new w 41 false none 0 0)
  have HBW := hid ((Below.refl w.heap.size w).alloc (Nat.le_refl _) (.cells #[.bool false, .slice none 0 0] 41))
  go_enter Tryz.func52, Tryz.ntmps52
  go_wp2_with fail
  refine bodyPost_ret (v := .tuple #[.agg #[.bool false, .slice none 0 0], .bool false]) (by simp [results, Tryz.results52, go_sem]) rfl ⟨_, _, _, _, rfl, IsB.zero _ _, ?_⟩
  exact (Below.refl w.heap.size w).alloc (Nat.le_refl _) _
set_option maxRecDepth 100000 in
set_option maxHeartbeats 2000000 in
theorem Ref12.window_no3 (s t : Int) (h1 : ¬ s < 1) (h2 : ¬ 1099511627776 < s) (h3 : t < 1) (w : World) : Calls Tryz.prog 52 #[.int .u64 s, .int .u64 t] w (BOk 17 0 false w) := by
  have HVr := hid (Var.new w 41 false none 0 0)
  have HBW := hid ((Below.refl w.heap.size w).alloc (Nat.le_refl _) (.cells #[.bool false, .slice none 0 0] 41))
  go_enter Tryz.func52, Tryz.ntmps52
  go_wp2_with fail
  refine bodyPost_ret (v := .tuple #[.agg #[.bool false, .slice none 0 0], .bool false]) (by simp [results, Tryz.results52, go_sem]) rfl ⟨_, _, _, _, rfl, IsB.zero _ _, ?_⟩
  exact (Below.refl w.heap.size w).alloc (Nat.le_refl _) _
set_option maxRecDepth 100000 in
set_option maxHeartbeats 2000000 in
theorem Ref12.window_no4 (s t : Int) (h1 : ¬ s < 1) (h2 : ¬ 1099511627776 < s) (h3 : ¬ t < 1) (h4 : 1099511627776 < t) (w : World) : Calls Tryz.prog 52 #[.int .u64 s, .int .u64 t] w (BOk 17 0 false w) := by
  have HVr := hid (Var.new w 41 false none 0 0)
  have HBW := hid ((Below.refl w.heap.size w).alloc (Nat.le_refl _) (.cells #[.bool false, .slice none 0 0] 41))
  go_enter Tryz.func52, Tryz.ntmps52
  go_wp2_with fail
  refine bodyPost_ret (v := .tuple #[.agg #[.bool false, .slice none 0 0], .bool false]) (by simp [results, Tryz.results52, go_sem]) rfl ⟨_, _, _, _, rfl, IsB.zero _ _, ?_⟩
  exact (Below.refl w.heap.size w).alloc (Nat.le_refl _) _
set_option maxRecDepth 100000 in
set_option maxHeartbeats 4000000 in
theorem Ref12.window_yes (s t : Int) (h1 : ¬ s < 1) (h2 : ¬ 1099511627776 < s) (h3 : ¬ t < 1) (h4 : ¬ 1099511627776 < t) (w : World) : Calls Tryz.prog 52 #[.int .u64 s, .int .u64 t] w (BOk 17 (winI s t) true w) := by
  have HVr := hid (Var.new w 41 false none 0 0)
  have HBW := hid ((Below.refl w.heap.size w).alloc (Nat.le_refl _) (.cells #[.bool false, .slice none 0 0] 41))
  have e1 : IntKind.u64.wrap (2 * s) = 2 * s := by rw [IntKind.wrap_u64]; omega
  have HD := hid (show (0 ≤ 2 * s ∧ 2 * s ≤ 18446744073709551615) ∧ (0 ≤ t ∧ t ≤ 18446744073709551615) by omega)
  have E : Hid (winI s t = (2 * s + t) * 1048576) := hid (by unfold winI; rw [if_pos (winOk_iff.2 (by omega))])
  go_enter Tryz.func52, Tryz.ntmps52
  go_wp2_with fail
  clear h1 h2 h3 h4
  generalize w.alloc (.cells #[.bool false, .slice none 0 0] 41) = W0 at HVr HBW ⊢
  refine (Ref.U (2 * s) HD.out.1.1 HD.out.1.2 _).mono ?_
  rintro e w1 ⟨s1, A1, n1, c1, rfl, hB, hb⟩
  have H1 := hid (hB)
  clear hB
  replace HVr := hid (HVr.out.below hb)
  replace HBW := hid (below_keep HBW.out hb)
  clear hb
  obtain ⟨r0, r1, r2, r3, _⟩ := HVr.out
  have rl := HVr.out.lt
  go_wp2_with fail
  clear r0 r1 r2 r3 rl
  refine (Ref.U t HD.out.2.1 HD.out.2.2 _).mono ?_
  rintro e w2 ⟨s2, A2, n2, c2, rfl, hB, hb⟩
  have H2 := hid (hB)
  clear hB
  replace H1 := hid (H1.out.below hb)
  replace HVr := hid (HVr.out.below hb)
  replace HBW := hid (below_keep HBW.out hb)
  clear hb
  obtain ⟨r0, r1, r2, r3, _⟩ := HVr.out
  have rl := HVr.out.lt
  go_wp2_with fail
  clear r0 r1 r2 r3 rl
  refine (Ref.add 5 s1 s2 A1 A2 n1 c1 n2 c2 _ _ _ H1.out H2.out (by decide)).mono ?_
  rintro e w3 ⟨s3, A3, n3, c3, rfl, hB, hb⟩
  have H3 := hid (hB)
  clear hB
  replace H1 := hid (H1.out.below hb)
  replace H2 := hid (H2.out.below hb)
  replace HVr := hid (HVr.out.below hb)
  replace HBW := hid (below_keep HBW.out hb)
  clear hb
  obtain ⟨r0, r1, r2, r3, _⟩ := HVr.out
  have rl := HVr.out.lt
  go_wp2_with fail
  clear r0 r1 r2 r3 rl
  refine (Ref.U 1048576 (by decide) (by decide) _).mono ?_
  rintro e w4 ⟨s4, A4, n4, c4, rfl, hB, hb⟩
  have H4 := hid (hB)
  clear hB
  replace H1 := hid (H1.out.below hb)
  replace H2 := hid (H2.out.below hb)
  replace H3 := hid (H3.out.below hb)
  replace HVr := hid (HVr.out.below hb)
  replace HBW := hid (below_keep HBW.out hb)
  clear hb
  obtain ⟨r0, r1, r2, r3, _⟩ := HVr.out
  have rl := HVr.out.lt
  go_wp2_with fail
  clear r0 r1 r2 r3 rl
  refine (Ref.mul 6 5 s3 s4 A3 A4 n3 c3 n4 c4 _ _ _ H3.out H4.out (by decide) (by decide)).mono ?_
  rintro e w5 ⟨s5, A5, n5, c5, rfl, hB, hb⟩
  have H5 := hid (hB)
  clear hB
  replace H1 := hid (H1.out.below hb)
  replace H2 := hid (H2.out.below hb)
  replace H3 := hid (H3.out.below hb)
  replace H4 := hid (H4.out.below hb)
  replace HVr := hid (HVr.out.below hb)
  replace HBW := hid (below_keep HBW.out hb)
  clear hb
  rw [← E.out] at H5
  obtain ⟨r0, r1, r2, r3, _⟩ := HVr.out
  have rl := HVr.out.lt
  go_wp2_with fail
  have HFN := HVr.out.fin HBW.out (Nat.le_refl _) H5.out
  refine bodyPost_ret (v := .tuple #[.agg #[.bool s5, .slice A5 n5 c5], .bool true]) (by simp [results, Tryz.results52, go_sem, r0, r1, rl]) rfl ⟨_, _, _, _, rfl, HFN.1.mono (by omega), HFN.2⟩
theorem Ref12.window (s t : Int) (w : World) : Calls Tryz.prog 52 #[.int .u64 s, .int .u64 t] w (BOk 17 (winI s t) (winOk s t) w) := by
  by_cases h1 : s < 1
  · rw [(winOk_no (by omega)).1, (winOk_no (by omega)).2]; exact Ref12.window_no1 s t h1 w
  · by_cases h2 : 1099511627776 < s
    · rw [(winOk_no (by omega)).1, (winOk_no (by omega)).2]; exact Ref12.window_no2 s t h1 h2 w
    · by_cases h3 : t < 1
      · rw [(winOk_no (by omega)).1, (winOk_no (by omega)).2]; exact Ref12.window_no3 s t h1 h2 h3 w
      · by_cases h4 : 1099511627776 < t
        · rw [(winOk_no (by omega)).1, (winOk_no (by omega)).2]; exact Ref12.window_no4 s t h1 h2 h3 h4 w
        · rw [winOk_iff.2 (by omega)]; exact Ref12.window_yes s t h1 h2 h3 h4 w
set_option maxRecDepth 100000 in
set_option maxHeartbeats 8000000 in
theorem Ref12.size (s0 : Bool) (A0 : Option Addr) (n0 c0 : Nat) (z : Int) (w : World) (hz : IsB w 18 s0 A0 n0 c0 z) (hw : WR z) : Calls Tryz.prog 56 #[.agg #[.bool s0, .slice A0 n0 c0]] w (BAns 133 (szI z) w) := by
  have HBW := hid (((Below.refl w.heap.size w).alloc (Nat.le_refl _) (.cells #[.bool s0, .slice A0 n0 c0] 41)).alloc (by simp) (.cells #[.bool false, .slice none 0 0] 41))
  have HVx := hid ((Var.new w 41 s0 A0 n0 c0).alloc (.cells #[.bool false, .slice none 0 0] 41))
  have HVr := hid (show Var _ (w.heap.size + 1) false none 0 0 by have := Var.new (w.alloc (.cells #[.bool s0, .slice A0 n0 c0] 41)) 41 false none 0 0; simpa using this)
  have H0 := hid ((hz.alloc (.cells #[.bool s0, .slice A0 n0 c0] 41)).alloc (.cells #[.bool false, .slice none 0 0] 41))
  have HW := hid hw
  unfold WR at hw
  by_cases c : z < 0
  · have c1 : cmpI z 0 < 0 := cmpI_lt0.2 c
    have HC := hid c
    by_cases d : z = -170141183460469231731687303715884105728
    · have E : Hid (szI z = mxW) := hid (by subst d; unfold szI; rw [if_neg (by omega), if_pos rfl])
      have HD : Hid (¬ (-170141183460469231731687303715884105728 ≤ 0 - z ∧ 0 - z < 170141183460469231731687303715884105728)) := hid (by omega)
      rw [E.out]
      clear hz hw d c
      go_enter Tryz.func56, Tryz.ntmps56
      go_wp2_with fail
      generalize ((w.alloc (.cells #[.bool s0, .slice A0 n0 c0] 41)).alloc (.cells #[.bool false, .slice none 0 0] 41)) = W0 at HVx HVr H0 HBW ⊢
      obtain ⟨x0, x1, x2, x3, _⟩ := HVx.out
      have xl := HVx.out.lt
      obtain ⟨r0, r1, r2, r3, _⟩ := HVr.out
      have rl := HVr.out.lt
      go_wp2_with fail
      clear x0 x1 x2 x3 xl r0 r1 r2 r3 rl
      refine (Ref.sign 18 s0 A0 n0 c0 z _ H0.out).mono ?_
      rintro e w1 ⟨rfl, hb⟩
      replace H0 := hid (H0.out.below hb)
      replace HVx := hid (HVx.out.below hb)
      replace HVr := hid (HVr.out.below hb)
      replace HBW := hid (below_keep HBW.out hb)
      clear hb
      obtain ⟨x0, x1, x2, x3, _⟩ := HVx.out
      have xl := HVx.out.lt
      obtain ⟨r0, r1, r2, r3, _⟩ := HVr.out
      have rl := HVr.out.lt
      go_wp2_with fail
      clear x0 x1 x2 x3 xl r0 r1 r2 r3 rl
      refine (Ref.neg 18 s0 A0 n0 c0 z _ H0.out (by decide)).mono ?_
      rintro e w2 ⟨s2, A2, n2, c2, rfl, hB, hb⟩
      have H2 := hid (hB)
      clear hB
      replace H0 := hid (H0.out.below hb)
      replace HVx := hid (HVx.out.below hb)
      replace HVr := hid (HVr.out.below hb)
      replace HBW := hid (below_keep HBW.out hb)
      clear hb
      obtain ⟨x0, x1, x2, x3, _⟩ := HVx.out
      have xl := HVx.out.lt
      obtain ⟨r0, r1, r2, r3, _⟩ := HVr.out
      have rl := HVr.out.lt
      go_wp2_with fail
      clear x0 x1 x2 x3 xl r0 r1 r2 r3 rl
      replace HVr := hid (HVr.out.far (b := w.heap.size) (by omega) 0 1 (.bool s2) (.slice A2 n2 c2))
      have H3 := hid (H2.out.storeV HVx.out 0 1 (.bool s2) (.slice A2 n2 c2))
      replace HBW := hid (show Below w.heap.size w ((w2.setCell ⟨w.heap.size, 0, none⟩ (.bool s2)).setCell ⟨w.heap.size, 1, none⟩ (.slice A2 n2 c2)) from (HBW.out.setCell (Nat.le_refl _) _).setCell (Nat.le_refl _) _)
      replace HVx := hid (HVx.out.store s2 A2 n2 c2)
      clear H2 H0
      obtain ⟨x0, x1, x2, x3, _⟩ := HVx.out
      have xl := HVx.out.lt
      obtain ⟨r0, r1, r2, r3, _⟩ := HVr.out
      have rl := HVr.out.lt
      skip
      clear x0 x1 x2 x3 xl r0 r1 r2 r3 rl
      refine (Ref.is 18 (by decide) s2 A2 n2 c2 _ _ H3.out false ⟨fun h => absurd h (by decide), fun h => absurd h HD.out⟩).mono ?_
      rintro e w4 ⟨rfl, hb⟩
      replace H3 := hid (H3.out.below hb)
      replace HVx := hid (HVx.out.below hb)
      replace HVr := hid (HVr.out.below hb)
      replace HBW := hid (below_keep HBW.out hb)
      clear hb
      obtain ⟨x0, x1, x2, x3, _⟩ := HVx.out
      have xl := HVx.out.lt
      obtain ⟨r0, r1, r2, r3, _⟩ := HVr.out
      have rl := HVr.out.lt
      go_wp2_with fail
      clear x0 x1 x2 x3 xl r0 r1 r2 r3 rl
      refine (Ref12.greatest _).mono ?_
      rintro e w5 ⟨s5, A5, n5, c5, rfl, hB, hb⟩
      have H5 := hid (hB)
      clear hB
      replace H3 := hid (H3.out.below hb)
      replace HVx := hid (HVx.out.below hb)
      replace HVr := hid (HVr.out.below hb)
      replace HBW := hid (below_keep HBW.out hb)
      clear hb
      obtain ⟨x0, x1, x2, x3, _⟩ := HVx.out
      have xl := HVx.out.lt
      obtain ⟨r0, r1, r2, r3, _⟩ := HVr.out
      have rl := HVr.out.lt
      go_wp2_with fail
      have HFN := HVr.out.fin HBW.out (Nat.le_succ _) H5.out
      refine bodyPost_ret (v := .agg #[.bool s5, .slice A5 n5 c5]) (by simp [results, Tryz.results56, go_sem, r0, r1, rl]) rfl ⟨_, _, _, _, rfl, HFN.1, HFN.2⟩
    · have E : Hid (szI z = 0 - z) := hid (by unfold szI; rw [if_neg (by omega), if_neg d]; omega)
      have HD : Hid (-170141183460469231731687303715884105728 ≤ 0 - z ∧ 0 - z < 170141183460469231731687303715884105728) := hid (by omega)
      rw [E.out]
      clear hz hw d c
      go_enter Tryz.func56, Tryz.ntmps56
      go_wp2_with fail
      generalize ((w.alloc (.cells #[.bool s0, .slice A0 n0 c0] 41)).alloc (.cells #[.bool false, .slice none 0 0] 41)) = W0 at HVx HVr H0 HBW ⊢
      obtain ⟨x0, x1, x2, x3, _⟩ := HVx.out
      have xl := HVx.out.lt
      obtain ⟨r0, r1, r2, r3, _⟩ := HVr.out
      have rl := HVr.out.lt
      go_wp2_with fail
      clear x0 x1 x2 x3 xl r0 r1 r2 r3 rl
      refine (Ref.sign 18 s0 A0 n0 c0 z _ H0.out).mono ?_
      rintro e w1 ⟨rfl, hb⟩
      replace H0 := hid (H0.out.below hb)
      replace HVx := hid (HVx.out.below hb)
      replace HVr := hid (HVr.out.below hb)
      replace HBW := hid (below_keep HBW.out hb)
      clear hb
      obtain ⟨x0, x1, x2, x3, _⟩ := HVx.out
      have xl := HVx.out.lt
      obtain ⟨r0, r1, r2, r3, _⟩ := HVr.out
      have rl := HVr.out.lt
      go_wp2_with fail
      clear x0 x1 x2 x3 xl r0 r1 r2 r3 rl
      refine (Ref.neg 18 s0 A0 n0 c0 z _ H0.out (by decide)).mono ?_
      rintro e w2 ⟨s2, A2, n2, c2, rfl, hB, hb⟩
      have H2 := hid (hB)
      clear hB
      replace H0 := hid (H0.out.below hb)
      replace HVx := hid (HVx.out.below hb)
      replace HVr := hid (HVr.out.below hb)
      replace HBW := hid (below_keep HBW.out hb)
      clear hb
      obtain ⟨x0, x1, x2, x3, _⟩ := HVx.out
      have xl := HVx.out.lt
      obtain ⟨r0, r1, r2, r3, _⟩ := HVr.out
      have rl := HVr.out.lt
      go_wp2_with fail
      clear x0 x1 x2 x3 xl r0 r1 r2 r3 rl
      replace HVr := hid (HVr.out.far (b := w.heap.size) (by omega) 0 1 (.bool s2) (.slice A2 n2 c2))
      have H3 := hid (H2.out.storeV HVx.out 0 1 (.bool s2) (.slice A2 n2 c2))
      replace HBW := hid (show Below w.heap.size w ((w2.setCell ⟨w.heap.size, 0, none⟩ (.bool s2)).setCell ⟨w.heap.size, 1, none⟩ (.slice A2 n2 c2)) from (HBW.out.setCell (Nat.le_refl _) _).setCell (Nat.le_refl _) _)
      replace HVx := hid (HVx.out.store s2 A2 n2 c2)
      clear H2 H0
      obtain ⟨x0, x1, x2, x3, _⟩ := HVx.out
      have xl := HVx.out.lt
      obtain ⟨r0, r1, r2, r3, _⟩ := HVr.out
      have rl := HVr.out.lt
      clear x0 x1 x2 x3 xl r0 r1 r2 r3 rl
      refine (Ref.is 18 (by decide) s2 A2 n2 c2 _ _ H3.out true ⟨fun _ => HD.out, fun _ => rfl⟩).mono ?_
      rintro e w4 ⟨rfl, hb⟩
      replace H3 := hid (H3.out.below hb)
      replace HVx := hid (HVx.out.below hb)
      replace HVr := hid (HVr.out.below hb)
      replace HBW := hid (below_keep HBW.out hb)
      clear hb
      obtain ⟨x0, x1, x2, x3, _⟩ := HVx.out
      have xl := HVx.out.lt
      obtain ⟨r0, r1, r2, r3, _⟩ := HVr.out
      have rl := HVr.out.lt
      go_wp2_with fail
      have HFN := HVr.out.fin HBW.out (Nat.le_succ _) H3.out
      refine bodyPost_ret (v := .agg #[.bool s2, .slice A2 n2 c2]) (by simp [results, Tryz.results56, go_sem, r0, r1, rl]) rfl ⟨_, _, _, _, rfl, HFN.1.mono (by omega), HFN.2⟩
  · have c1 : ¬ cmpI z 0 < 0 := fun h => c (cmpI_lt0.1 h)
    have E : Hid (szI z = z) := hid (by unfold szI; rw [if_pos (by omega)])
    have HD : Hid (-170141183460469231731687303715884105728 ≤ z ∧ z < 170141183460469231731687303715884105728) := hid (by omega)
    rw [E.out]
    clear hz hw c
    go_enter Tryz.func56, Tryz.ntmps56
    go_wp2_with fail
    generalize ((w.alloc (.cells #[.bool s0, .slice A0 n0 c0] 41)).alloc (.cells #[.bool false, .slice none 0 0] 41)) = W0 at HVx HVr H0 HBW ⊢
    obtain ⟨x0, x1, x2, x3, _⟩ := HVx.out
    have xl := HVx.out.lt
    obtain ⟨r0, r1, r2, r3, _⟩ := HVr.out
    have rl := HVr.out.lt
    go_wp2_with fail
    clear x0 x1 x2 x3 xl r0 r1 r2 r3 rl
    refine (Ref.sign 18 s0 A0 n0 c0 z _ H0.out).mono ?_
    rintro e w1 ⟨rfl, hb⟩
    replace H0 := hid (H0.out.below hb)
    replace HVx := hid (HVx.out.below hb)
    replace HVr := hid (HVr.out.below hb)
    replace HBW := hid (below_keep HBW.out hb)
    clear hb
    obtain ⟨x0, x1, x2, x3, _⟩ := HVx.out
    have xl := HVx.out.lt
    obtain ⟨r0, r1, r2, r3, _⟩ := HVr.out
    have rl := HVr.out.lt
    go_wp2_with fail
    clear x0 x1 x2 x3 xl r0 r1 r2 r3 rl
    refine (Ref.is 18 (by decide) s0 A0 n0 c0 _ _ H0.out true ⟨fun _ => HD.out, fun _ => rfl⟩).mono ?_
    rintro e w4 ⟨rfl, hb⟩
    replace H0 := hid (H0.out.below hb)
    replace HVx := hid (HVx.out.below hb)
    replace HVr := hid (HVr.out.below hb)
    replace HBW := hid (below_keep HBW.out hb)
    clear hb
    obtain ⟨x0, x1, x2, x3, _⟩ := HVx.out
    have xl := HVx.out.lt
    obtain ⟨r0, r1, r2, r3, _⟩ := HVr.out
    have rl := HVr.out.lt
    go_wp2_with fail
    have HFN := HVr.out.fin HBW.out (Nat.le_succ _) H0.out
    refine bodyPost_ret (v := .agg #[.bool s0, .slice A0 n0 c0]) (by simp [results, Tryz.results56, go_sem, r0, r1, rl]) rfl ⟨_, _, _, _, rfl, HFN.1.mono (by omega), HFN.2⟩
end

/- ClampOrders: the walk. -/
section
open Go.RowKit
theorem cmpI_ltz {a b : Int} : cmpI a b < 0 ↔ a < b := by unfold cmpI; split <;> (try split) <;> omega
theorem cmpI_gtz {a b : Int} : 0 < cmpI a b ↔ b < a := by unfold cmpI; split <;> (try split) <;> omega
end

/- The contract of the document's answer for a lag within a window. -/
section
open Go.RowKit
/-- What stands in memory while the window is turned. -/
def CQ (w : World) (s0 : Bool) (A0 : Option Addr) (n0 c0 : Nat) (x : Int) (s9 : Bool) (A9 : Option Addr) (n9 c9 : Nat) (V : Int) (W : World) : Prop :=
  (Var W w.heap.size s0 A0 n0 c0 ∧ Var W (w.heap.size + 1) s9 A9 n9 c9 ∧ Var W (w.heap.size + 1 + 1) false none 0 0) ∧ (IsB W 18 s0 A0 n0 c0 x ∧ IsB W 18 s9 A9 n9 c9 V) ∧ Below w.heap.size w W
theorem CQ.below {w : World} {s0 : Bool} {A0 : Option Addr} {n0 c0 : Nat} {x : Int} {s9 : Bool} {A9 : Option Addr} {n9 c9 : Nat} {V : Int} {W W' : World} (h : CQ w s0 A0 n0 c0 x s9 A9 n9 c9 V W) (hb : Below W.heap.size W W') : CQ w s0 A0 n0 c0 x s9 A9 n9 c9 V W' :=
  ⟨⟨h.1.1.below hb, h.1.2.1.below hb, h.1.2.2.below hb⟩, ⟨h.2.1.1.below hb, h.2.1.2.below hb⟩, below_keep h.2.2 hb⟩
theorem CQ.drew {w : World} {s0 : Bool} {A0 : Option Addr} {n0 c0 : Nat} {x : Int} {s9 : Bool} {A9 : Option Addr} {n9 c9 : Nat} {V : Int} {W : World} (h : CQ w s0 A0 n0 c0 x s9 A9 n9 c9 V W) : CQ w s0 A0 n0 c0 x s9 A9 n9 c9 V W.drew := h.below (Below.refl _ _).drew
theorem CQ.x {w : World} {s0 : Bool} {A0 : Option Addr} {n0 c0 : Nat} {x : Int} {s9 : Bool} {A9 : Option Addr} {n9 c9 : Nat} {V : Int} {W : World} (h : CQ w s0 A0 n0 c0 x s9 A9 n9 c9 V W) : IsB W 18 s0 A0 n0 c0 x := h.2.1.1
theorem CQ.n {w : World} {s0 : Bool} {A0 : Option Addr} {n0 c0 : Nat} {x : Int} {s9 : Bool} {A9 : Option Addr} {n9 c9 : Nat} {V : Int} {W : World} (h : CQ w s0 A0 n0 c0 x s9 A9 n9 c9 V W) : IsB W 18 s9 A9 n9 c9 V := h.2.1.2
theorem CQ.see {w : World} {s0 : Bool} {A0 : Option Addr} {n0 c0 : Nat} {x : Int} {s9 : Bool} {A9 : Option Addr} {n9 c9 : Nat} {V : Int} {W : World} (h : CQ w s0 A0 n0 c0 x s9 A9 n9 c9 V W) :
    (W.cell? ⟨w.heap.size, 0, none⟩ = some (.bool s0) ∧ W.cell? ⟨w.heap.size, 1, none⟩ = some (.slice A0 n0 c0) ∧ W.cell? ⟨w.heap.size + 1, 0, none⟩ = some (.bool s9) ∧ W.cell? ⟨w.heap.size + 1, 1, none⟩ = some (.slice A9 n9 c9)) ∧ CQ w s0 A0 n0 c0 x s9 A9 n9 c9 V W :=
  ⟨⟨h.1.1.1, h.1.1.2.1, h.1.2.1.1, h.1.2.1.2.1⟩, h⟩
set_option maxRecDepth 100000 in
set_option maxHeartbeats 16000000 in
theorem Ref12.clamp (s0 s9 : Bool) (A0 A9 : Option Addr) (n0 c0 n9 c9 : Nat) (x v : Int) (w : World) (hx : IsB w 18 s0 A0 n0 c0 x) (hv : IsB w 18 s9 A9 n9 c9 v) : Calls Tryz.prog 54 #[.agg #[.bool s0, .slice A0 n0 c0], .agg #[.bool s9, .slice A9 n9 c9]] w (BAns 18 (clI x v) w) := by
  have HBW := hid ((((Below.refl w.heap.size w).alloc (Nat.le_refl _) (.cells #[.bool s0, .slice A0 n0 c0] 41)).alloc (by simp) (.cells #[.bool s9, .slice A9 n9 c9] 41)).alloc (by simp; omega) (.cells #[.bool false, .slice none 0 0] 41))
  have HVx := hid (((Var.new w 41 s0 A0 n0 c0).alloc (.cells #[.bool s9, .slice A9 n9 c9] 41)).alloc (.cells #[.bool false, .slice none 0 0] 41))
  have HVy := hid (show Var (((w.alloc (.cells #[.bool s0, .slice A0 n0 c0] 41)).alloc (.cells #[.bool s9, .slice A9 n9 c9] 41)).alloc (.cells #[.bool false, .slice none 0 0] 41)) (w.heap.size + 1) s9 A9 n9 c9 by have := (Var.new (w.alloc (.cells #[.bool s0, .slice A0 n0 c0] 41)) 41 s9 A9 n9 c9).alloc (.cells #[.bool false, .slice none 0 0] 41); simpa using this)
  have HVr := hid (show Var (((w.alloc (.cells #[.bool s0, .slice A0 n0 c0] 41)).alloc (.cells #[.bool s9, .slice A9 n9 c9] 41)).alloc (.cells #[.bool false, .slice none 0 0] 41)) (w.heap.size + 1 + 1) false none 0 0 by have := Var.new ((w.alloc (.cells #[.bool s0, .slice A0 n0 c0] 41)).alloc (.cells #[.bool s9, .slice A9 n9 c9] 41)) 41 false none 0 0; simpa using this)
  have H0 := hid (((hx.alloc (.cells #[.bool s0, .slice A0 n0 c0] 41)).alloc (.cells #[.bool s9, .slice A9 n9 c9] 41)).alloc (.cells #[.bool false, .slice none 0 0] 41))
  have H9 := hid (((hv.alloc (.cells #[.bool s0, .slice A0 n0 c0] 41)).alloc (.cells #[.bool s9, .slice A9 n9 c9] 41)).alloc (.cells #[.bool false, .slice none 0 0] 41))
  obtain ⟨V, hV⟩ : ∃ V, max v 0 = V := ⟨_, rfl⟩
  have E := hid (show clI x v = min (max x (-V)) V by unfold clI; rw [hV])
  rw [E.out]
  have HVV := hid (show 0 ≤ V ∧ (0 ≤ v → v = V) ∧ (v < 0 → V = 0) by omega)
  clear hx hv hV E
  by_cases c : v < 0
  · have c1 : cmpI v 0 < 0 := cmpI_lt0.2 c
    have HC := hid c
    clear c
    by_cases d : V < x
    · have d1 : 0 < cmpI x V := cmpI_gtz.2 d
      have R : Hid (min (max x (-V)) V = V) := hid (by have := HVV.out; omega)
      rw [R.out]
      clear d R
      go_enter Tryz.func54, Tryz.ntmps54
      go_wp2_with fail
      generalize (((w.alloc (.cells #[.bool s0, .slice A0 n0 c0] 41)).alloc (.cells #[.bool s9, .slice A9 n9 c9] 41)).alloc (.cells #[.bool false, .slice none 0 0] 41)) = W0 at HVx HVy HVr H0 H9 HBW ⊢
      obtain ⟨x0, x1, x2, x3, _⟩ := HVx.out
      have xl := HVx.out.lt
      obtain ⟨y0, y1, y2, y3, _⟩ := HVy.out
      have yl := HVy.out.lt
      obtain ⟨r0, r1, r2, r3, _⟩ := HVr.out
      have rl := HVr.out.lt
      go_wp2_with fail
      clear x0 x1 x2 x3 xl y0 y1 y2 y3 yl r0 r1 r2 r3 rl
      refine (Ref.sign 18 s9 A9 n9 c9 v _ H9.out).mono ?_
      rintro e w1 ⟨rfl, hb⟩
      replace H0 := hid (H0.out.below hb)
      replace H9 := hid (H9.out.below hb)
      replace HVx := hid (HVx.out.below hb)
      replace HVy := hid (HVy.out.below hb)
      replace HVr := hid (HVr.out.below hb)
      replace HBW := hid (below_keep HBW.out hb)
      clear hb
      obtain ⟨x0, x1, x2, x3, _⟩ := HVx.out
      have xl := HVx.out.lt
      obtain ⟨y0, y1, y2, y3, _⟩ := HVy.out
      have yl := HVy.out.lt
      obtain ⟨r0, r1, r2, r3, _⟩ := HVr.out
      have rl := HVr.out.lt
      go_wp2_with fail
      clear x0 x1 x2 x3 xl y0 y1 y2 y3 yl r0 r1 r2 r3 rl
      replace HVr := hid (HVr.out.far (b := w.heap.size + 1) (by omega) 0 1 (.bool false) (.slice none 0 0))
      replace HVx := hid (HVx.out.far (b := w.heap.size + 1) (by omega) 0 1 (.bool false) (.slice none 0 0))
      replace H0 := hid (H0.out.storeV HVy.out 0 1 (.bool false) (.slice none 0 0))
      replace HBW := hid (show Below w.heap.size w ((w1.setCell ⟨w.heap.size + 1, 0, none⟩ (.bool false)).setCell ⟨w.heap.size + 1, 1, none⟩ (.slice none 0 0)) from (HBW.out.setCell (Nat.le_succ _) _).setCell (Nat.le_succ _) _)
      replace HVy := hid (HVy.out.store false none 0 0)
      replace H9 : Hid (IsB ((w1.setCell ⟨w.heap.size + 1, 0, none⟩ (.bool false)).setCell ⟨w.heap.size + 1, 1, none⟩ (.slice none 0 0)) 18 false none 0 0 V) := hid (by rw [HVV.out.2.2 HC.out]; exact IsB.zero _ _)
      generalize ((w1.setCell ⟨w.heap.size + 1, 0, none⟩ (.bool false)).setCell ⟨w.heap.size + 1, 1, none⟩ (.slice none 0 0)) = W1 at HVx HVy HVr H0 H9 HBW ⊢
      obtain ⟨x0, x1, x2, x3, _⟩ := HVx.out
      have xl := HVx.out.lt
      obtain ⟨y0, y1, y2, y3, _⟩ := HVy.out
      have yl := HVy.out.lt
      obtain ⟨r0, r1, r2, r3, _⟩ := HVr.out
      have rl := HVr.out.lt
      clear x0 x1 x2 x3 xl y0 y1 y2 y3 yl r0 r1 r2 r3 rl
      refine (Ref.cmp 18 s0 false A0 none n0 c0 0 0 x V _ H0.out H9.out (by decide)).mono ?_
      rintro e w2 ⟨rfl, hb⟩
      replace H0 := hid (H0.out.below hb)
      replace H9 := hid (H9.out.below hb)
      replace HVx := hid (HVx.out.below hb)
      replace HVy := hid (HVy.out.below hb)
      replace HVr := hid (HVr.out.below hb)
      replace HBW := hid (below_keep HBW.out hb)
      clear hb
      obtain ⟨x0, x1, x2, x3, _⟩ := HVx.out
      have xl := HVx.out.lt
      obtain ⟨y0, y1, y2, y3, _⟩ := HVy.out
      have yl := HVy.out.lt
      obtain ⟨r0, r1, r2, r3, _⟩ := HVr.out
      have rl := HVr.out.lt
      go_wp2_with fail
      have HFN := HVr.out.fin HBW.out (by omega) H9.out
      refine bodyPost_ret (v := .agg #[.bool false, .slice none 0 0]) (by simp [results, Tryz.results54, go_sem, r0, r1, rl]) rfl ⟨_, _, _, _, rfl, HFN.1, HFN.2⟩
    · have d1 : ¬ 0 < cmpI x V := fun h => d (cmpI_gtz.1 h)
      by_cases c3 : x < -V
      · have d2 : cmpI x (-V) < 0 := cmpI_ltz.2 c3
        have R : Hid (min (max x (-V)) V = 0 - V) := hid (by have := HVV.out; omega)
        rw [R.out]
        clear d c3 R
        go_enter Tryz.func54, Tryz.ntmps54
        go_wp2_with fail
        generalize (((w.alloc (.cells #[.bool s0, .slice A0 n0 c0] 41)).alloc (.cells #[.bool s9, .slice A9 n9 c9] 41)).alloc (.cells #[.bool false, .slice none 0 0] 41)) = W0 at HVx HVy HVr H0 H9 HBW ⊢
        obtain ⟨x0, x1, x2, x3, _⟩ := HVx.out
        have xl := HVx.out.lt
        obtain ⟨y0, y1, y2, y3, _⟩ := HVy.out
        have yl := HVy.out.lt
        obtain ⟨r0, r1, r2, r3, _⟩ := HVr.out
        have rl := HVr.out.lt
        go_wp2_with fail
        clear x0 x1 x2 x3 xl y0 y1 y2 y3 yl r0 r1 r2 r3 rl
        refine (Ref.sign 18 s9 A9 n9 c9 v _ H9.out).mono ?_
        rintro e w1 ⟨rfl, hb⟩
        replace H0 := hid (H0.out.below hb)
        replace H9 := hid (H9.out.below hb)
        replace HVx := hid (HVx.out.below hb)
        replace HVy := hid (HVy.out.below hb)
        replace HVr := hid (HVr.out.below hb)
        replace HBW := hid (below_keep HBW.out hb)
        clear hb
        obtain ⟨x0, x1, x2, x3, _⟩ := HVx.out
        have xl := HVx.out.lt
        obtain ⟨y0, y1, y2, y3, _⟩ := HVy.out
        have yl := HVy.out.lt
        obtain ⟨r0, r1, r2, r3, _⟩ := HVr.out
        have rl := HVr.out.lt
        go_wp2_with fail
        clear x0 x1 x2 x3 xl y0 y1 y2 y3 yl r0 r1 r2 r3 rl
        replace HVr := hid (HVr.out.far (b := w.heap.size + 1) (by omega) 0 1 (.bool false) (.slice none 0 0))
        replace HVx := hid (HVx.out.far (b := w.heap.size + 1) (by omega) 0 1 (.bool false) (.slice none 0 0))
        replace H0 := hid (H0.out.storeV HVy.out 0 1 (.bool false) (.slice none 0 0))
        replace HBW := hid (show Below w.heap.size w ((w1.setCell ⟨w.heap.size + 1, 0, none⟩ (.bool false)).setCell ⟨w.heap.size + 1, 1, none⟩ (.slice none 0 0)) from (HBW.out.setCell (Nat.le_succ _) _).setCell (Nat.le_succ _) _)
        replace HVy := hid (HVy.out.store false none 0 0)
        replace H9 : Hid (IsB ((w1.setCell ⟨w.heap.size + 1, 0, none⟩ (.bool false)).setCell ⟨w.heap.size + 1, 1, none⟩ (.slice none 0 0)) 18 false none 0 0 V) := hid (by rw [HVV.out.2.2 HC.out]; exact IsB.zero _ _)
        generalize ((w1.setCell ⟨w.heap.size + 1, 0, none⟩ (.bool false)).setCell ⟨w.heap.size + 1, 1, none⟩ (.slice none 0 0)) = W1 at HVx HVy HVr H0 H9 HBW ⊢
        obtain ⟨x0, x1, x2, x3, _⟩ := HVx.out
        have xl := HVx.out.lt
        obtain ⟨y0, y1, y2, y3, _⟩ := HVy.out
        have yl := HVy.out.lt
        obtain ⟨r0, r1, r2, r3, _⟩ := HVr.out
        have rl := HVr.out.lt
        clear x0 x1 x2 x3 xl y0 y1 y2 y3 yl r0 r1 r2 r3 rl
        refine (Ref.cmp 18 s0 false A0 none n0 c0 0 0 x V _ H0.out H9.out (by decide)).mono ?_
        rintro e w2 ⟨rfl, hb⟩
        replace H0 := hid (H0.out.below hb)
        replace H9 := hid (H9.out.below hb)
        replace HVx := hid (HVx.out.below hb)
        replace HVy := hid (HVy.out.below hb)
        replace HVr := hid (HVr.out.below hb)
        replace HBW := hid (below_keep HBW.out hb)
        clear hb
        obtain ⟨x0, x1, x2, x3, _⟩ := HVx.out
        have xl := HVx.out.lt
        obtain ⟨y0, y1, y2, y3, _⟩ := HVy.out
        have yl := HVy.out.lt
        obtain ⟨r0, r1, r2, r3, _⟩ := HVr.out
        have rl := HVr.out.lt
        go_wp2_with fail
        clear x0 x1 x2 x3 xl y0 y1 y2 y3 yl r0 r1 r2 r3 rl
        have HCQ : Hid (CQ w s0 A0 n0 c0 x false none 0 0 V w2) := hid ⟨⟨HVx.out, HVy.out, HVr.out⟩, ⟨H0.out, H9.out⟩, HBW.out⟩
        clear HVx HVy HVr H0 H9 HBW d1
        go_region_held3 (fun w' => (w'.cell? ⟨w.heap.size, 0, none⟩ = some (.bool s0) ∧ w'.cell? ⟨w.heap.size, 1, none⟩ = some (.slice A0 n0 c0) ∧ w'.cell? ⟨w.heap.size + 1, 0, none⟩ = some (.bool false) ∧ w'.cell? ⟨w.heap.size + 1, 1, none⟩ = some (.slice none 0 0)) ∧ CQ w s0 A0 n0 c0 x false none 0 0 V w')
            (first | with_reducible exact CQ.see HCQ.out.drew | with_reducible exact CQ.see (CQ.below (And.right (by assumption : _ ∧ CQ w s0 A0 n0 c0 x false none 0 0 V _)) hb3))
            (first
              | (go_at_call 95; refine (Ref.neg 18 false none 0 0 V _ (CQ.n HCQ.out.drew) (by decide)).mono ?_; rintro e w3 ⟨s3, A3, n3, c3, rfl, hB, hb3⟩; have H3 := hid hB; have HCQ3 := hid (CQ.below HCQ.out.drew hb3); clear hB)
              | (go_at_call 37; refine (Ref.cmp 18 s0 s3 A0 A3 n0 c0 n3 c3 x (0 - V) _ (CQ.x HCQ3.out) H3.out (by decide)).mono ?_; rintro e w4 ⟨rfl, hb3⟩))
        have HCQ4 := hid (And.right (by assumption : (_ ∧ _ ∧ _ ∧ _) ∧ CQ w s0 A0 n0 c0 x false none 0 0 V w4))
        have HVx := hid HCQ4.out.1.1
        have HVy := hid HCQ4.out.1.2.1
        have HVr := hid HCQ4.out.1.2.2
        have H0 := hid HCQ4.out.2.1.1
        have H9 := hid HCQ4.out.2.1.2
        have HBW := hid HCQ4.out.2.2
        clear HCQ HCQ3 HCQ4 H3
        obtain ⟨x0, x1, x2, x3, _⟩ := HVx.out
        have xl := HVx.out.lt
        obtain ⟨y0, y1, y2, y3, _⟩ := HVy.out
        have yl := HVy.out.lt
        obtain ⟨r0, r1, r2, r3, _⟩ := HVr.out
        have rl := HVr.out.lt
        go_wp2_with fail
        clear x0 x1 x2 x3 xl y0 y1 y2 y3 yl r0 r1 r2 r3 rl
        refine (Ref.neg 18 false none 0 0 V _ H9.out (by decide)).mono ?_
        rintro e w5 ⟨s5, A5, n5, c5, rfl, hB, hb⟩
        have H5 := hid (hB)
        clear hB
        replace H0 := hid (H0.out.below hb)
        replace H9 := hid (H9.out.below hb)
        replace HVx := hid (HVx.out.below hb)
        replace HVy := hid (HVy.out.below hb)
        replace HVr := hid (HVr.out.below hb)
        replace HBW := hid (below_keep HBW.out hb)
        clear hb
        obtain ⟨x0, x1, x2, x3, _⟩ := HVx.out
        have xl := HVx.out.lt
        obtain ⟨y0, y1, y2, y3, _⟩ := HVy.out
        have yl := HVy.out.lt
        obtain ⟨r0, r1, r2, r3, _⟩ := HVr.out
        have rl := HVr.out.lt
        go_wp2_with fail
        have HFN := HVr.out.fin HBW.out (by omega) H5.out
        refine bodyPost_ret (v := .agg #[.bool s5, .slice A5 n5 c5]) (by simp [results, Tryz.results54, go_sem, r0, r1, rl]) rfl ⟨_, _, _, _, rfl, HFN.1, HFN.2⟩
      · have d2 : ¬ cmpI x (-V) < 0 := fun h => c3 (cmpI_ltz.1 h)
        have R : Hid (min (max x (-V)) V = x) := hid (by have := HVV.out; omega)
        rw [R.out]
        clear d c3 R
        go_enter Tryz.func54, Tryz.ntmps54
        go_wp2_with fail
        generalize (((w.alloc (.cells #[.bool s0, .slice A0 n0 c0] 41)).alloc (.cells #[.bool s9, .slice A9 n9 c9] 41)).alloc (.cells #[.bool false, .slice none 0 0] 41)) = W0 at HVx HVy HVr H0 H9 HBW ⊢
        obtain ⟨x0, x1, x2, x3, _⟩ := HVx.out
        have xl := HVx.out.lt
        obtain ⟨y0, y1, y2, y3, _⟩ := HVy.out
        have yl := HVy.out.lt
        obtain ⟨r0, r1, r2, r3, _⟩ := HVr.out
        have rl := HVr.out.lt
        go_wp2_with fail
        clear x0 x1 x2 x3 xl y0 y1 y2 y3 yl r0 r1 r2 r3 rl
        refine (Ref.sign 18 s9 A9 n9 c9 v _ H9.out).mono ?_
        rintro e w1 ⟨rfl, hb⟩
        replace H0 := hid (H0.out.below hb)
        replace H9 := hid (H9.out.below hb)
        replace HVx := hid (HVx.out.below hb)
        replace HVy := hid (HVy.out.below hb)
        replace HVr := hid (HVr.out.below hb)
        replace HBW := hid (below_keep HBW.out hb)
        clear hb
        obtain ⟨x0, x1, x2, x3, _⟩ := HVx.out
        have xl := HVx.out.lt
        obtain ⟨y0, y1, y2, y3, _⟩ := HVy.out
        have yl := HVy.out.lt
        obtain ⟨r0, r1, r2, r3, _⟩ := HVr.out
        have rl := HVr.out.lt
        go_wp2_with fail
        clear x0 x1 x2 x3 xl y0 y1 y2 y3 yl r0 r1 r2 r3 rl
        replace HVr := hid (HVr.out.far (b := w.heap.size + 1) (by omega) 0 1 (.bool false) (.slice none 0 0))
        replace HVx := hid (HVx.out.far (b := w.heap.size + 1) (by omega) 0 1 (.bool false) (.slice none 0 0))
        replace H0 := hid (H0.out.storeV HVy.out 0 1 (.bool false) (.slice none 0 0))
        replace HBW := hid (show Below w.heap.size w ((w1.setCell ⟨w.heap.size + 1, 0, none⟩ (.bool false)).setCell ⟨w.heap.size + 1, 1, none⟩ (.slice none 0 0)) from (HBW.out.setCell (Nat.le_succ _) _).setCell (Nat.le_succ _) _)
        replace HVy := hid (HVy.out.store false none 0 0)
        replace H9 : Hid (IsB ((w1.setCell ⟨w.heap.size + 1, 0, none⟩ (.bool false)).setCell ⟨w.heap.size + 1, 1, none⟩ (.slice none 0 0)) 18 false none 0 0 V) := hid (by rw [HVV.out.2.2 HC.out]; exact IsB.zero _ _)
        generalize ((w1.setCell ⟨w.heap.size + 1, 0, none⟩ (.bool false)).setCell ⟨w.heap.size + 1, 1, none⟩ (.slice none 0 0)) = W1 at HVx HVy HVr H0 H9 HBW ⊢
        obtain ⟨x0, x1, x2, x3, _⟩ := HVx.out
        have xl := HVx.out.lt
        obtain ⟨y0, y1, y2, y3, _⟩ := HVy.out
        have yl := HVy.out.lt
        obtain ⟨r0, r1, r2, r3, _⟩ := HVr.out
        have rl := HVr.out.lt
        clear x0 x1 x2 x3 xl y0 y1 y2 y3 yl r0 r1 r2 r3 rl
        refine (Ref.cmp 18 s0 false A0 none n0 c0 0 0 x V _ H0.out H9.out (by decide)).mono ?_
        rintro e w2 ⟨rfl, hb⟩
        replace H0 := hid (H0.out.below hb)
        replace H9 := hid (H9.out.below hb)
        replace HVx := hid (HVx.out.below hb)
        replace HVy := hid (HVy.out.below hb)
        replace HVr := hid (HVr.out.below hb)
        replace HBW := hid (below_keep HBW.out hb)
        clear hb
        obtain ⟨x0, x1, x2, x3, _⟩ := HVx.out
        have xl := HVx.out.lt
        obtain ⟨y0, y1, y2, y3, _⟩ := HVy.out
        have yl := HVy.out.lt
        obtain ⟨r0, r1, r2, r3, _⟩ := HVr.out
        have rl := HVr.out.lt
        go_wp2_with fail
        clear x0 x1 x2 x3 xl y0 y1 y2 y3 yl r0 r1 r2 r3 rl
        have HCQ : Hid (CQ w s0 A0 n0 c0 x false none 0 0 V w2) := hid ⟨⟨HVx.out, HVy.out, HVr.out⟩, ⟨H0.out, H9.out⟩, HBW.out⟩
        clear HVx HVy HVr H0 H9 HBW d1
        go_region_held3 (fun w' => (w'.cell? ⟨w.heap.size, 0, none⟩ = some (.bool s0) ∧ w'.cell? ⟨w.heap.size, 1, none⟩ = some (.slice A0 n0 c0) ∧ w'.cell? ⟨w.heap.size + 1, 0, none⟩ = some (.bool false) ∧ w'.cell? ⟨w.heap.size + 1, 1, none⟩ = some (.slice none 0 0)) ∧ CQ w s0 A0 n0 c0 x false none 0 0 V w')
            (first | with_reducible exact CQ.see HCQ.out.drew | with_reducible exact CQ.see (CQ.below (And.right (by assumption : _ ∧ CQ w s0 A0 n0 c0 x false none 0 0 V _)) hb3))
            (first
              | (go_at_call 95; refine (Ref.neg 18 false none 0 0 V _ (CQ.n HCQ.out.drew) (by decide)).mono ?_; rintro e w3 ⟨s3, A3, n3, c3, rfl, hB, hb3⟩; have H3 := hid hB; have HCQ3 := hid (CQ.below HCQ.out.drew hb3); clear hB)
              | (go_at_call 37; refine (Ref.cmp 18 s0 s3 A0 A3 n0 c0 n3 c3 x (0 - V) _ (CQ.x HCQ3.out) H3.out (by decide)).mono ?_; rintro e w4 ⟨rfl, hb3⟩))
        have HCQ4 := hid (And.right (by assumption : (_ ∧ _ ∧ _ ∧ _) ∧ CQ w s0 A0 n0 c0 x false none 0 0 V w4))
        have HVx := hid HCQ4.out.1.1
        have HVy := hid HCQ4.out.1.2.1
        have HVr := hid HCQ4.out.1.2.2
        have H0 := hid HCQ4.out.2.1.1
        have H9 := hid HCQ4.out.2.1.2
        have HBW := hid HCQ4.out.2.2
        clear HCQ HCQ3 HCQ4 H3
        obtain ⟨x0, x1, x2, x3, _⟩ := HVx.out
        have xl := HVx.out.lt
        obtain ⟨y0, y1, y2, y3, _⟩ := HVy.out
        have yl := HVy.out.lt
        obtain ⟨r0, r1, r2, r3, _⟩ := HVr.out
        have rl := HVr.out.lt
        go_wp2_with fail
        have HFN := HVr.out.fin HBW.out (by omega) H0.out
        refine bodyPost_ret (v := .agg #[.bool s0, .slice A0 n0 c0]) (by simp [results, Tryz.results54, go_sem, r0, r1, rl]) rfl ⟨_, _, _, _, rfl, HFN.1, HFN.2⟩
  · have c1 : ¬ cmpI v 0 < 0 := fun h => c (cmpI_lt0.1 h)
    have HC := hid c
    clear c
    by_cases d : V < x
    · have d1 : 0 < cmpI x V := cmpI_gtz.2 d
      have R : Hid (min (max x (-V)) V = V) := hid (by have := HVV.out; omega)
      rw [R.out]
      clear d R
      go_enter Tryz.func54, Tryz.ntmps54
      go_wp2_with fail
      generalize (((w.alloc (.cells #[.bool s0, .slice A0 n0 c0] 41)).alloc (.cells #[.bool s9, .slice A9 n9 c9] 41)).alloc (.cells #[.bool false, .slice none 0 0] 41)) = W0 at HVx HVy HVr H0 H9 HBW ⊢
      obtain ⟨x0, x1, x2, x3, _⟩ := HVx.out
      have xl := HVx.out.lt
      obtain ⟨y0, y1, y2, y3, _⟩ := HVy.out
      have yl := HVy.out.lt
      obtain ⟨r0, r1, r2, r3, _⟩ := HVr.out
      have rl := HVr.out.lt
      go_wp2_with fail
      clear x0 x1 x2 x3 xl y0 y1 y2 y3 yl r0 r1 r2 r3 rl
      refine (Ref.sign 18 s9 A9 n9 c9 v _ H9.out).mono ?_
      rintro e w1 ⟨rfl, hb⟩
      replace H0 := hid (H0.out.below hb)
      replace H9 := hid (H9.out.below hb)
      replace HVx := hid (HVx.out.below hb)
      replace HVy := hid (HVy.out.below hb)
      replace HVr := hid (HVr.out.below hb)
      replace HBW := hid (below_keep HBW.out hb)
      clear hb
      rw [HVV.out.2.1 (by have := HC.out; omega)] at H9
      obtain ⟨x0, x1, x2, x3, _⟩ := HVx.out
      have xl := HVx.out.lt
      obtain ⟨y0, y1, y2, y3, _⟩ := HVy.out
      have yl := HVy.out.lt
      obtain ⟨r0, r1, r2, r3, _⟩ := HVr.out
      have rl := HVr.out.lt
      go_wp2_with fail
      clear x0 x1 x2 x3 xl y0 y1 y2 y3 yl r0 r1 r2 r3 rl
      refine (Ref.cmp 18 s0 s9 A0 A9 n0 c0 n9 c9 x V _ H0.out H9.out (by decide)).mono ?_
      rintro e w2 ⟨rfl, hb⟩
      replace H0 := hid (H0.out.below hb)
      replace H9 := hid (H9.out.below hb)
      replace HVx := hid (HVx.out.below hb)
      replace HVy := hid (HVy.out.below hb)
      replace HVr := hid (HVr.out.below hb)
      replace HBW := hid (below_keep HBW.out hb)
      clear hb
      obtain ⟨x0, x1, x2, x3, _⟩ := HVx.out
      have xl := HVx.out.lt
      obtain ⟨y0, y1, y2, y3, _⟩ := HVy.out
      have yl := HVy.out.lt
      obtain ⟨r0, r1, r2, r3, _⟩ := HVr.out
      have rl := HVr.out.lt
      go_wp2_with fail
      have HFN := HVr.out.fin HBW.out (by omega) H9.out
      refine bodyPost_ret (v := .agg #[.bool s9, .slice A9 n9 c9]) (by simp [results, Tryz.results54, go_sem, r0, r1, rl]) rfl ⟨_, _, _, _, rfl, HFN.1, HFN.2⟩
    · have d1 : ¬ 0 < cmpI x V := fun h => d (cmpI_gtz.1 h)
      by_cases c3 : x < -V
      · have d2 : cmpI x (-V) < 0 := cmpI_ltz.2 c3
        have R : Hid (min (max x (-V)) V = 0 - V) := hid (by have := HVV.out; omega)
        rw [R.out]
        clear d c3 R
        go_enter Tryz.func54, Tryz.ntmps54
        go_wp2_with fail
        generalize (((w.alloc (.cells #[.bool s0, .slice A0 n0 c0] 41)).alloc (.cells #[.bool s9, .slice A9 n9 c9] 41)).alloc (.cells #[.bool false, .slice none 0 0] 41)) = W0 at HVx HVy HVr H0 H9 HBW ⊢
        obtain ⟨x0, x1, x2, x3, _⟩ := HVx.out
        have xl := HVx.out.lt
        obtain ⟨y0, y1, y2, y3, _⟩ := HVy.out
        have yl := HVy.out.lt
        obtain ⟨r0, r1, r2, r3, _⟩ := HVr.out
        have rl := HVr.out.lt
        go_wp2_with fail
        clear x0 x1 x2 x3 xl y0 y1 y2 y3 yl r0 r1 r2 r3 rl
        refine (Ref.sign 18 s9 A9 n9 c9 v _ H9.out).mono ?_
        rintro e w1 ⟨rfl, hb⟩
        replace H0 := hid (H0.out.below hb)
        replace H9 := hid (H9.out.below hb)
        replace HVx := hid (HVx.out.below hb)
        replace HVy := hid (HVy.out.below hb)
        replace HVr := hid (HVr.out.below hb)
        replace HBW := hid (below_keep HBW.out hb)
        clear hb
        rw [HVV.out.2.1 (by have := HC.out; omega)] at H9
        obtain ⟨x0, x1, x2, x3, _⟩ := HVx.out
        have xl := HVx.out.lt
        obtain ⟨y0, y1, y2, y3, _⟩ := HVy.out
        have yl := HVy.out.lt
        obtain ⟨r0, r1, r2, r3, _⟩ := HVr.out
        have rl := HVr.out.lt
        go_wp2_with fail
        clear x0 x1 x2 x3 xl y0 y1 y2 y3 yl r0 r1 r2 r3 rl
        refine (Ref.cmp 18 s0 s9 A0 A9 n0 c0 n9 c9 x V _ H0.out H9.out (by decide)).mono ?_
        rintro e w2 ⟨rfl, hb⟩
        replace H0 := hid (H0.out.below hb)
        replace H9 := hid (H9.out.below hb)
        replace HVx := hid (HVx.out.below hb)
        replace HVy := hid (HVy.out.below hb)
        replace HVr := hid (HVr.out.below hb)
        replace HBW := hid (below_keep HBW.out hb)
        clear hb
        obtain ⟨x0, x1, x2, x3, _⟩ := HVx.out
        have xl := HVx.out.lt
        obtain ⟨y0, y1, y2, y3, _⟩ := HVy.out
        have yl := HVy.out.lt
        obtain ⟨r0, r1, r2, r3, _⟩ := HVr.out
        have rl := HVr.out.lt
        go_wp2_with fail
        clear x0 x1 x2 x3 xl y0 y1 y2 y3 yl r0 r1 r2 r3 rl
        have HCQ : Hid (CQ w s0 A0 n0 c0 x s9 A9 n9 c9 V w2) := hid ⟨⟨HVx.out, HVy.out, HVr.out⟩, ⟨H0.out, H9.out⟩, HBW.out⟩
        clear HVx HVy HVr H0 H9 HBW d1
        go_region_held3 (fun w' => (w'.cell? ⟨w.heap.size, 0, none⟩ = some (.bool s0) ∧ w'.cell? ⟨w.heap.size, 1, none⟩ = some (.slice A0 n0 c0) ∧ w'.cell? ⟨w.heap.size + 1, 0, none⟩ = some (.bool s9) ∧ w'.cell? ⟨w.heap.size + 1, 1, none⟩ = some (.slice A9 n9 c9)) ∧ CQ w s0 A0 n0 c0 x s9 A9 n9 c9 V w')
            (first | with_reducible exact CQ.see HCQ.out.drew | with_reducible exact CQ.see (CQ.below (And.right (by assumption : _ ∧ CQ w s0 A0 n0 c0 x s9 A9 n9 c9 V _)) hb3))
            (first
              | (go_at_call 95; refine (Ref.neg 18 s9 A9 n9 c9 V _ (CQ.n HCQ.out.drew) (by decide)).mono ?_; rintro e w3 ⟨s3, A3, n3, c3, rfl, hB, hb3⟩; have H3 := hid hB; have HCQ3 := hid (CQ.below HCQ.out.drew hb3); clear hB)
              | (go_at_call 37; refine (Ref.cmp 18 s0 s3 A0 A3 n0 c0 n3 c3 x (0 - V) _ (CQ.x HCQ3.out) H3.out (by decide)).mono ?_; rintro e w4 ⟨rfl, hb3⟩))
        have HCQ4 := hid (And.right (by assumption : (_ ∧ _ ∧ _ ∧ _) ∧ CQ w s0 A0 n0 c0 x s9 A9 n9 c9 V w4))
        have HVx := hid HCQ4.out.1.1
        have HVy := hid HCQ4.out.1.2.1
        have HVr := hid HCQ4.out.1.2.2
        have H0 := hid HCQ4.out.2.1.1
        have H9 := hid HCQ4.out.2.1.2
        have HBW := hid HCQ4.out.2.2
        clear HCQ HCQ3 HCQ4 H3
        obtain ⟨x0, x1, x2, x3, _⟩ := HVx.out
        have xl := HVx.out.lt
        obtain ⟨y0, y1, y2, y3, _⟩ := HVy.out
        have yl := HVy.out.lt
        obtain ⟨r0, r1, r2, r3, _⟩ := HVr.out
        have rl := HVr.out.lt
        go_wp2_with fail
        clear x0 x1 x2 x3 xl y0 y1 y2 y3 yl r0 r1 r2 r3 rl
        refine (Ref.neg 18 s9 A9 n9 c9 V _ H9.out (by decide)).mono ?_
        rintro e w5 ⟨s5, A5, n5, c5, rfl, hB, hb⟩
        have H5 := hid (hB)
        clear hB
        replace H0 := hid (H0.out.below hb)
        replace H9 := hid (H9.out.below hb)
        replace HVx := hid (HVx.out.below hb)
        replace HVy := hid (HVy.out.below hb)
        replace HVr := hid (HVr.out.below hb)
        replace HBW := hid (below_keep HBW.out hb)
        clear hb
        obtain ⟨x0, x1, x2, x3, _⟩ := HVx.out
        have xl := HVx.out.lt
        obtain ⟨y0, y1, y2, y3, _⟩ := HVy.out
        have yl := HVy.out.lt
        obtain ⟨r0, r1, r2, r3, _⟩ := HVr.out
        have rl := HVr.out.lt
        go_wp2_with fail
        have HFN := HVr.out.fin HBW.out (by omega) H5.out
        refine bodyPost_ret (v := .agg #[.bool s5, .slice A5 n5 c5]) (by simp [results, Tryz.results54, go_sem, r0, r1, rl]) rfl ⟨_, _, _, _, rfl, HFN.1, HFN.2⟩
      · have d2 : ¬ cmpI x (-V) < 0 := fun h => c3 (cmpI_ltz.1 h)
        have R : Hid (min (max x (-V)) V = x) := hid (by have := HVV.out; omega)
        rw [R.out]
        clear d c3 R
        go_enter Tryz.func54, Tryz.ntmps54
        go_wp2_with fail
        generalize (((w.alloc (.cells #[.bool s0, .slice A0 n0 c0] 41)).alloc (.cells #[.bool s9, .slice A9 n9 c9] 41)).alloc (.cells #[.bool false, .slice none 0 0] 41)) = W0 at HVx HVy HVr H0 H9 HBW ⊢
        obtain ⟨x0, x1, x2, x3, _⟩ := HVx.out
        have xl := HVx.out.lt
        obtain ⟨y0, y1, y2, y3, _⟩ := HVy.out
        have yl := HVy.out.lt
        obtain ⟨r0, r1, r2, r3, _⟩ := HVr.out
        have rl := HVr.out.lt
        go_wp2_with fail
        clear x0 x1 x2 x3 xl y0 y1 y2 y3 yl r0 r1 r2 r3 rl
        refine (Ref.sign 18 s9 A9 n9 c9 v _ H9.out).mono ?_
        rintro e w1 ⟨rfl, hb⟩
        replace H0 := hid (H0.out.below hb)
        replace H9 := hid (H9.out.below hb)
        replace HVx := hid (HVx.out.below hb)
        replace HVy := hid (HVy.out.below hb)
        replace HVr := hid (HVr.out.below hb)
        replace HBW := hid (below_keep HBW.out hb)
        clear hb
        rw [HVV.out.2.1 (by have := HC.out; omega)] at H9
        obtain ⟨x0, x1, x2, x3, _⟩ := HVx.out
        have xl := HVx.out.lt
        obtain ⟨y0, y1, y2, y3, _⟩ := HVy.out
        have yl := HVy.out.lt
        obtain ⟨r0, r1, r2, r3, _⟩ := HVr.out
        have rl := HVr.out.lt
        go_wp2_with fail
        clear x0 x1 x2 x3 xl y0 y1 y2 y3 yl r0 r1 r2 r3 rl
        refine (Ref.cmp 18 s0 s9 A0 A9 n0 c0 n9 c9 x V _ H0.out H9.out (by decide)).mono ?_
        rintro e w2 ⟨rfl, hb⟩
        replace H0 := hid (H0.out.below hb)
        replace H9 := hid (H9.out.below hb)
        replace HVx := hid (HVx.out.below hb)
        replace HVy := hid (HVy.out.below hb)
        replace HVr := hid (HVr.out.below hb)
        replace HBW := hid (below_keep HBW.out hb)
        clear hb
        obtain ⟨x0, x1, x2, x3, _⟩ := HVx.out
        have xl := HVx.out.lt
        obtain ⟨y0, y1, y2, y3, _⟩ := HVy.out
        have yl := HVy.out.lt
        obtain ⟨r0, r1, r2, r3, _⟩ := HVr.out
        have rl := HVr.out.lt
        go_wp2_with fail
        clear x0 x1 x2 x3 xl y0 y1 y2 y3 yl r0 r1 r2 r3 rl
        have HCQ : Hid (CQ w s0 A0 n0 c0 x s9 A9 n9 c9 V w2) := hid ⟨⟨HVx.out, HVy.out, HVr.out⟩, ⟨H0.out, H9.out⟩, HBW.out⟩
        clear HVx HVy HVr H0 H9 HBW d1
        go_region_held3 (fun w' => (w'.cell? ⟨w.heap.size, 0, none⟩ = some (.bool s0) ∧ w'.cell? ⟨w.heap.size, 1, none⟩ = some (.slice A0 n0 c0) ∧ w'.cell? ⟨w.heap.size + 1, 0, none⟩ = some (.bool s9) ∧ w'.cell? ⟨w.heap.size + 1, 1, none⟩ = some (.slice A9 n9 c9)) ∧ CQ w s0 A0 n0 c0 x s9 A9 n9 c9 V w')
            (first | with_reducible exact CQ.see HCQ.out.drew | with_reducible exact CQ.see (CQ.below (And.right (by assumption : _ ∧ CQ w s0 A0 n0 c0 x s9 A9 n9 c9 V _)) hb3))
            (first
              | (go_at_call 95; refine (Ref.neg 18 s9 A9 n9 c9 V _ (CQ.n HCQ.out.drew) (by decide)).mono ?_; rintro e w3 ⟨s3, A3, n3, c3, rfl, hB, hb3⟩; have H3 := hid hB; have HCQ3 := hid (CQ.below HCQ.out.drew hb3); clear hB)
              | (go_at_call 37; refine (Ref.cmp 18 s0 s3 A0 A3 n0 c0 n3 c3 x (0 - V) _ (CQ.x HCQ3.out) H3.out (by decide)).mono ?_; rintro e w4 ⟨rfl, hb3⟩))
        have HCQ4 := hid (And.right (by assumption : (_ ∧ _ ∧ _ ∧ _) ∧ CQ w s0 A0 n0 c0 x s9 A9 n9 c9 V w4))
        have HVx := hid HCQ4.out.1.1
        have HVy := hid HCQ4.out.1.2.1
        have HVr := hid HCQ4.out.1.2.2
        have H0 := hid HCQ4.out.2.1.1
        have H9 := hid HCQ4.out.2.1.2
        have HBW := hid HCQ4.out.2.2
        clear HCQ HCQ3 HCQ4 H3
        obtain ⟨x0, x1, x2, x3, _⟩ := HVx.out
        have xl := HVx.out.lt
        obtain ⟨y0, y1, y2, y3, _⟩ := HVy.out
        have yl := HVy.out.lt
        obtain ⟨r0, r1, r2, r3, _⟩ := HVr.out
        have rl := HVr.out.lt
        go_wp2_with fail
        have HFN := HVr.out.fin HBW.out (by omega) H0.out
        refine bodyPost_ret (v := .agg #[.bool s0, .slice A0 n0 c0]) (by simp [results, Tryz.results54, go_sem, r0, r1, rl]) rfl ⟨_, _, _, _, rfl, HFN.1, HFN.2⟩
end

/- ClampWindows: the walk. -/
section
open Go.RowKit
theorem Ref.cmpE (K : Nat) (s t : Bool) (A B : Option Addr) (n c m d : Nat) (x : Int) (w : World) (hx : IsB w K s A n c x) (hy : IsB w K t B m d x) (hK : K ≤ 1000000) :
    Calls Tryz.prog 37 #[.agg #[.bool s, .slice A n c], .agg #[.bool t, .slice B m d]] w fun e w' => e = .returned (.int .i64 0) ∧ Below w.heap.size w w' := by
  have h := Ref.cmp K s t A B n c m d x x w hx hy hK
  rwa [(cmpI_zero x x).2 rfl] at h
def CW (w : World) (x : Int) (gv : Nat) (s1 : Bool) (A1 : Option Addr) (n1 c1 : Nat) (z : Int) (W : World) : Prop := (Cs W w.heap.size [.int .i64 (hiW x), .int .u64 (loW x)] ∧ Var W gv s1 A1 n1 c1) ∧ IsB W 17 s1 A1 n1 c1 z ∧ Below w.heap.size w W
theorem CW.below {w : World} {x : Int} {gv : Nat} {s1 : Bool} {A1 : Option Addr} {n1 c1 : Nat} {z : Int} {W W' : World} (h : CW w x gv s1 A1 n1 c1 z W) (hb : Below W.heap.size W W') : CW w x gv s1 A1 n1 c1 z W' := ⟨⟨h.1.1.below hb, h.1.2.below hb⟩, h.2.1.below hb, below_keep h.2.2 hb⟩
theorem CW.drew {w : World} {x : Int} {gv : Nat} {s1 : Bool} {A1 : Option Addr} {n1 c1 : Nat} {z : Int} {W : World} (h : CW w x gv s1 A1 n1 c1 z W) : CW w x gv s1 A1 n1 c1 z W.drew := h.below (Below.refl _ _).drew
theorem CW.see {w : World} {x : Int} {gv : Nat} {s1 : Bool} {A1 : Option Addr} {n1 c1 : Nat} {z : Int} {W : World} (h : CW w x gv s1 A1 n1 c1 z W) :
    (W.cell? ⟨w.heap.size, 0, none⟩ = some (.int .i64 (hiW x)) ∧ W.cell? ⟨w.heap.size, 1, none⟩ = some (.int .u64 (loW x)) ∧ W.cell? ⟨gv, 0, none⟩ = some (.bool s1) ∧ W.cell? ⟨gv, 1, none⟩ = some (.slice A1 n1 c1)) ∧ CW w x gv s1 A1 n1 c1 z W :=
  ⟨⟨h.1.1.at0, h.1.1.at1, h.1.2.1, h.1.2.2.1⟩, h⟩
set_option maxRecDepth 100000 in
set_option maxHeartbeats 16000000 in
theorem Cwin.core (s t x v z : Int) (k : Bool) (hz : winI s t = z) (hk : winOk s t = k) (hs : IsT s) (ht : IsT t) (hx : WR x) (v0 : -9223372036854775808 ≤ v) (v1 : v ≤ 9223372036854775807) (w : World) (htab : Tab10 w.heap.size w) :
    Calls Tryz.prog 11 #[.int .u64 s, .int .u64 t, wv x, .int .i64 v] w (Ans (.bool true) w) := by
  have HT := hid htab
  have HS := hid hs
  have HTT := hid ht
  have HX := hid hx
  have HV := hid (And.intro v0 v1)
  have HZ := hid hz
  have HK := hid hk
  have HZB : Hid (-9223372036854775808 ≤ z ∧ z ≤ 9223372036854775807) := hid (by have := winI_bd s t; omega)
  have HCB := hid (clI_bd (x := x) v1)
  have HB0 := hid ((Below.refl w.heap.size w).alloc (Nat.le_refl _) (.cells #[.int .i64 (hiW x), .int .u64 (loW x)] 34))
  have HC0 : Hid (Cs (w.alloc (.cells #[.int .i64 (hiW x), .int .u64 (loW x)] 34)) w.heap.size [.int .i64 (hiW x), .int .u64 (loW x)]) := hid (Cs.new2 w _ _ _)
  clear htab hs ht hx v0 v1 hz hk
  cases k
  case false =>
    go_enter Tryz.func11, Tryz.ntmps11
    go_wp2_with fail
    refine (Law12.awake _ (HT.out.at2 HB0.out)).mono ?_
    rintro e w1 ⟨rfl, hb⟩
    have HG1 := hid (And.intro (HC0.out.below hb) (below_on HB0.out hb))
    clear hb HT HB0 HC0
    go_wp2_with fail
    refine (Clamp.window s t HS.out HTT.out _).mono ?_
    rw [HZ.out, HK.out]
    rintro e w2 ⟨rfl, hb⟩
    have HG2 := hid (And.intro (HG1.out.1.below hb) (below_on HG1.out.2 hb))
    clear hb HG1
    go_wp2_with fail
    refine (Ref12.window s t _).mono ?_
    rw [HZ.out, HK.out]
    rintro e w3 ⟨s1, A1, n1, c1, rfl, hB, hb⟩
    have ha := (Below.refl w3.heap.size w3).alloc (Nat.le_refl _) (.cells #[.bool s1, .slice A1 n1 c1] 41)
    have HCW : Hid (CW w x w3.heap.size s1 A1 n1 c1 z (w3.alloc (.cells #[.bool s1, .slice A1 n1 c1] 41))) := hid ⟨⟨(HG2.out.1.below hb).below ha, Var.new w3 _ _ _ _ _⟩, hB.alloc _, below_on (below_on HG2.out.2 hb) ha⟩
    clear hb ha hB HG2
    go_wp2_with fail
    generalize w3.alloc (.cells #[.bool s1, .slice A1 n1 c1] 41) = W3 at HCW ⊢
    generalize w3.heap.size = gv at HCW ⊢
    go_region_held3 (fun w' => (w'.cell? ⟨w.heap.size, 0, none⟩ = some (.int .i64 (hiW x)) ∧ w'.cell? ⟨w.heap.size, 1, none⟩ = some (.int .u64 (loW x)) ∧ w'.cell? ⟨gv, 0, none⟩ = some (.bool s1) ∧ w'.cell? ⟨gv, 1, none⟩ = some (.slice A1 n1 c1)) ∧ CW w x gv s1 A1 n1 c1 z w')
      (first | with_reducible exact CW.see HCW.out.drew | with_reducible exact CW.see (CW.below (And.right (by assumption : _ ∧ CW w x gv s1 A1 n1 c1 z _)) hb3))
      (first
        | (go_at_call_of 38 (Value.int .i64 z); refine (Ref.N z HZB.out.1 HZB.out.2 _).mono ?_; rintro e w4 ⟨s4, A4, n4, c4, rfl, hB, hb3⟩; have H4 := hid (hB.mono (show 5 ≤ 17 by decide)); have HC4 := hid (HCW.out.drew.below hb3); clear hB)
        | (go_at_call_of 37 (Value.agg #[Value.bool s1, Value.slice A1 n1 c1]); refine (Ref.cmpE 17 s4 s1 A4 A1 n4 c4 n1 c1 z _ H4.out HC4.out.2.1 (by decide)).mono ?_; rintro e w5 ⟨rfl, hb3⟩)
        | (go_at_call 53; refine (Clamp.clamp x v HX.out HV.out.1 HV.out.2 _).mono ?_; rintro e w6 ⟨rfl, hb3⟩)
        | (go_at_call_of 38 (Value.int .i64 (clI x v)); refine (Ref.N (clI x v) (by have := HCB.out; omega) (by have := HCB.out; omega) _).mono ?_; rintro e w7 ⟨s7, A7, n7, c7, rfl, hB, hb3⟩; have H7 := hid (hB.mono (show 5 ≤ 18 by decide)); clear hB)
        | (go_at_call 36; refine (Law.of _ _ _ (isW_of HX.out) _).mono ?_; rintro e w8 ⟨s8, A8, n8, c8, rfl, hB, hb3⟩; have H8 := hid hB; have H78 := hid (H7.out.below hb3); clear hB)
        | (go_at_call_of 38 (Value.int .i64 v); refine (Ref.N v HV.out.1 HV.out.2 _).mono ?_; rintro e w9 ⟨s9, A9, n9, c9, rfl, hB, hb3⟩; have H9 := hid (hB.mono (show 5 ≤ 18 by decide)); have H89 := hid (H8.out.below hb3); have H79 := hid (H78.out.below hb3); clear hB)
        | (go_at_call 54; refine (Ref12.clamp s8 s9 A8 A9 n8 c8 n9 c9 x v _ H89.out H9.out).mono ?_; rintro e w10 ⟨s10, A10, n10, c10, rfl, hB, hb3⟩; have H10 := hid hB; have H710 := hid (H79.out.below hb3); clear hB)
        | (go_at_call_of 37 (Value.agg #[Value.bool s10, Value.slice A10 n10 c10]); refine (Ref.cmpE 18 s7 s10 A7 A10 n7 c7 n10 c10 (clI x v) _ H710.out H10.out (by decide)).mono ?_; rintro e w11 ⟨rfl, hb3⟩))
    have HFIN := hid (And.right (by assumption : (_ ∧ _ ∧ _ ∧ _) ∧ CW w x gv s1 A1 n1 c1 z w11)).2.2
    go_wp2_with fail
    go_ret
    exact ⟨rfl, HFIN.out⟩
  case true =>
    go_enter Tryz.func11, Tryz.ntmps11
    go_wp2_with fail
    refine (Law12.awake _ (HT.out.at2 HB0.out)).mono ?_
    rintro e w1 ⟨rfl, hb⟩
    have HG1 := hid (And.intro (HC0.out.below hb) (below_on HB0.out hb))
    clear hb HT HB0 HC0
    go_wp2_with fail
    refine (Clamp.window s t HS.out HTT.out _).mono ?_
    rw [HZ.out, HK.out]
    rintro e w2 ⟨rfl, hb⟩
    have HG2 := hid (And.intro (HG1.out.1.below hb) (below_on HG1.out.2 hb))
    clear hb HG1
    go_wp2_with fail
    refine (Ref12.window s t _).mono ?_
    rw [HZ.out, HK.out]
    rintro e w3 ⟨s1, A1, n1, c1, rfl, hB, hb⟩
    have ha := (Below.refl w3.heap.size w3).alloc (Nat.le_refl _) (.cells #[.bool s1, .slice A1 n1 c1] 41)
    have HCW : Hid (CW w x w3.heap.size s1 A1 n1 c1 z (w3.alloc (.cells #[.bool s1, .slice A1 n1 c1] 41))) := hid ⟨⟨(HG2.out.1.below hb).below ha, Var.new w3 _ _ _ _ _⟩, hB.alloc _, below_on (below_on HG2.out.2 hb) ha⟩
    clear hb ha hB HG2
    go_wp2_with fail
    generalize w3.alloc (.cells #[.bool s1, .slice A1 n1 c1] 41) = W3 at HCW ⊢
    generalize w3.heap.size = gv at HCW ⊢
    go_region_held3 (fun w' => (w'.cell? ⟨w.heap.size, 0, none⟩ = some (.int .i64 (hiW x)) ∧ w'.cell? ⟨w.heap.size, 1, none⟩ = some (.int .u64 (loW x)) ∧ w'.cell? ⟨gv, 0, none⟩ = some (.bool s1) ∧ w'.cell? ⟨gv, 1, none⟩ = some (.slice A1 n1 c1)) ∧ CW w x gv s1 A1 n1 c1 z w')
      (first | with_reducible exact CW.see HCW.out.drew | with_reducible exact CW.see (CW.below (And.right (by assumption : _ ∧ CW w x gv s1 A1 n1 c1 z _)) hb3))
      (first
        | (go_at_call_of 38 (Value.int .i64 z); refine (Ref.N z HZB.out.1 HZB.out.2 _).mono ?_; rintro e w4 ⟨s4, A4, n4, c4, rfl, hB, hb3⟩; have H4 := hid (hB.mono (show 5 ≤ 17 by decide)); have HC4 := hid (HCW.out.drew.below hb3); clear hB)
        | (go_at_call_of 37 (Value.agg #[Value.bool s1, Value.slice A1 n1 c1]); refine (Ref.cmpE 17 s4 s1 A4 A1 n4 c4 n1 c1 z _ H4.out HC4.out.2.1 (by decide)).mono ?_; rintro e w5 ⟨rfl, hb3⟩)
        | (go_at_call 53; refine (Clamp.clamp x v HX.out HV.out.1 HV.out.2 _).mono ?_; rintro e w6 ⟨rfl, hb3⟩)
        | (go_at_call_of 38 (Value.int .i64 (clI x v)); refine (Ref.N (clI x v) (by have := HCB.out; omega) (by have := HCB.out; omega) _).mono ?_; rintro e w7 ⟨s7, A7, n7, c7, rfl, hB, hb3⟩; have H7 := hid (hB.mono (show 5 ≤ 18 by decide)); clear hB)
        | (go_at_call 36; refine (Law.of _ _ _ (isW_of HX.out) _).mono ?_; rintro e w8 ⟨s8, A8, n8, c8, rfl, hB, hb3⟩; have H8 := hid hB; have H78 := hid (H7.out.below hb3); clear hB)
        | (go_at_call_of 38 (Value.int .i64 v); refine (Ref.N v HV.out.1 HV.out.2 _).mono ?_; rintro e w9 ⟨s9, A9, n9, c9, rfl, hB, hb3⟩; have H9 := hid (hB.mono (show 5 ≤ 18 by decide)); have H89 := hid (H8.out.below hb3); have H79 := hid (H78.out.below hb3); clear hB)
        | (go_at_call 54; refine (Ref12.clamp s8 s9 A8 A9 n8 c8 n9 c9 x v _ H89.out H9.out).mono ?_; rintro e w10 ⟨s10, A10, n10, c10, rfl, hB, hb3⟩; have H10 := hid hB; have H710 := hid (H79.out.below hb3); clear hB)
        | (go_at_call_of 37 (Value.agg #[Value.bool s10, Value.slice A10 n10 c10]); refine (Ref.cmpE 18 s7 s10 A7 A10 n7 c7 n10 c10 (clI x v) _ H710.out H10.out (by decide)).mono ?_; rintro e w11 ⟨rfl, hb3⟩))
    have HFIN := hid (And.right (by assumption : (_ ∧ _ ∧ _ ∧ _) ∧ CW w x gv s1 A1 n1 c1 z w11)).2.2
    go_wp2_with fail
    go_ret
    exact ⟨rfl, HFIN.out⟩
theorem Cwin.law (s t h l v : Int) (w : World) (w0 : (Lit.int .u64 s).wf = true) (w1 : (Lit.int .u64 t).wf = true) (w2 : IsWd h l) (w3 : (Lit.int .i64 v).wf = true) (htab : Tab10 w.heap.size w) :
    Calls Tryz.prog 11 #[.int .u64 s, .int .u64 t, .agg #[.int .i64 h, .int .u64 l], .int .i64 v] w fun e w' => e = .returned (.bool true) ∧ Below w.heap.size w w' := by
  obtain ⟨e1, e2⟩ := IsW.words w2
  have hx := w2.wr
  obtain ⟨v0, v1⟩ := bounds_i64 w3
  generalize h * 18446744073709551616 + l = x at *
  rw [e1, e2]
  exact Cwin.core s t x v _ _ rfl rfl (bounds_u64 w0) (bounds_u64 w1) hx v0 v1 w htab
end

end Go.Proofs.YthmilhhihcmdhaaGreatDoor
