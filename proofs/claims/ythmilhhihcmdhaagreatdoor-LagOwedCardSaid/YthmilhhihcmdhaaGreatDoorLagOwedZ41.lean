/- Texts of LagOwed's proof, together. -/
import Derived.Test.YthmilhhihcmdhaaGreatDoorLagOwedZ10
import Derived.Test.YthmilhhihcmdhaaGreatDoorLagOwedZ32
import Derived.Test.YthmilhhihcmdhaaGreatDoorRbB
import Derived.Test.YthmilhhihcmdhaaGreatDoorLagOwedZ24
import Derived.Test.YthmilhhihcmdhaaGreatDoorLagOwedZ18
import Derived.Test.YthmilhhihcmdhaaGreatDoorLagOwedZ36
import Derived.Test.YthmilhhihcmdhaaGreatDoorStr
import Derived.Test.YthmilhhihcmdhaaGreatDoorLagOwedZ13
import Derived.Deep.AppendLies
import Derived.Test.YthmilhhihcmdhaaGreatDoorLagOwedZ26
namespace Go.Proofs.YthmilhhihcmdhaaGreatDoor
/- The chapter's example of layer 8, as the laws ask it. -/
section
open Go.RowKit
theorem Law7.Awake (w : World) : Calls Tryz.prog 62 #[] w (Ans (.bool true) w) := by
  go_enter Tryz.func62, Tryz.ntmps62
  go_wp2_with (go_at_call 100; refine (Law7.awake _).mono ?_; rintro e w' ⟨rfl, hb⟩)
  go_ret
  exact ⟨rfl, hb⟩
theorem ex8 : Mu.of 5 [(5, 0, 1), (8, 0, 1)] = (true, ⟨5, 3, 2, 2⟩) := by
  rw [of_yes 5 (l := [(5, 0, 1), (8, 0, 1)]) (fun p hp => by
    simp at hp
    rcases hp with rfl | rfl
    · exact ⟨by decide, ⟨by decide, by decide⟩, ⟨by decide, by decide⟩, by decide, by decide⟩
    · exact ⟨by decide, ⟨by decide, by decide⟩, ⟨by decide, by decide⟩, by decide, by decide⟩) (by decide)]
  rfl
theorem ex8f : Mu.fl ⟨5, 3, 2, 2⟩ = (true, 6) := by first | rfl | decide +kernel
theorem ex8t : txtOf 3 = [51] := by first | decide +kernel | (unfold txtOf; rw [if_neg (by decide)]; simp [Lib.decDigits])
theorem Tab10.at2 {w0 w : World} (h : Tab10 w0.heap.size w0) (hb : Below w0.heap.size w0 w) : Tab10 w.heap.size w := Tab10.of (h.on hb).here
set_option maxRecDepth 100000 in
set_option maxHeartbeats 4000000 in
theorem Law8.awake (w : World) (htab : Tab10 w.heap.size w) : Calls Tryz.prog 16 #[] w (Ans (.bool true) w) := by
  have HT := hid htab
  have HB0 := hid ((Below.refl w.heap.size w).alloc (Nat.le_refl _) (.cells #[.int .u64 5, .int .u32 0, .int .u32 1, .int .u64 8, .int .u32 0, .int .u32 1] 29))
  have HR := hid (RdP.new2 w 29 5 0 1 8 0 1)
  clear htab
  go_enter Tryz.func16, Tryz.ntmps16
  go_wp2_with fail

  generalize (w.alloc (.cells #[.int .u64 5, .int .u32 0, .int .u32 1, .int .u64 8, .int .u32 0, .int .u32 1] 29)) = W0 at HB0 HR ⊢
  refine (Mean.of 5 ⟨by decide, by decide⟩ (some ⟨w.heap.size, 0, none⟩) 2 2 [(5, 0, 1), (8, 0, 1)] _ HR.out (fun p hp => by
    simp at hp
    rcases hp with rfl | rfl
    · exact ⟨⟨by decide, by decide⟩, ⟨by decide, by decide⟩, by decide, by decide⟩
    · exact ⟨⟨by decide, by decide⟩, ⟨by decide, by decide⟩, by decide, by decide⟩) (by decide)).mono ?_
  rw [ex8]
  rintro e w1 ⟨rfl, hb⟩
  have ha := (Below.refl w1.heap.size w1).alloc (Nat.le_refl _) (.cells #[.int .u64 5, .int .i64 (hiW 3), .int .u64 (loW 3), .int .u64 2, .int .i64 2] 36)
  have HB1 := hid (below_on (below_on HB0.out hb) ha)
  have HC1 : Hid (Cs (w1.alloc (.cells #[.int .u64 5, .int .i64 (hiW 3), .int .u64 (loW 3), .int .u64 2, .int .i64 2] 36)) w1.heap.size (Mu.mk 5 3 2 2).cells) := hid (Cs.alloc_new6 w1 _ (Mu.mk 5 3 2 2).cells)
  clear hb ha HB0 HR
  go_wp2_with fail
  generalize (w1.alloc (.cells #[.int .u64 5, .int .i64 (hiW 3), .int .u64 (loW 3), .int .u64 2, .int .i64 2] 36)) = W1 at HB1 HC1 ⊢
  generalize w1.heap.size = g at HC1 ⊢
  refine (Mean.floor ⟨5, 3, 2, 2⟩ (by unfold Mu.In WR; refine ⟨⟨?_, ?_⟩, ⟨?_, ?_⟩, ⟨?_, ?_⟩, ?_, ?_⟩ <;> decide) _).mono ?_
  rw [ex8f]
  rintro e w2 ⟨rfl, hb⟩
  have HB2 := hid (below_on HB1.out hb)
  have HC2 := hid (HC1.out.below hb)
  clear hb HB1 HC1
  go_wp2_with fail
  refine (Law7.Awake _).mono ?_
  rintro e w3 ⟨rfl, hb⟩
  have HB3 := hid (below_on HB2.out hb)
  have HC3 := hid (HC2.out.below hb)
  clear hb HB2 HC2
  obtain ⟨m0, m1, m2, m3, m4⟩ := Mu.at _ HC3.out
  go_wp2_with fail
  refine (Wide.string (hiW 3) (loW 3) 3 (isW_of (by unfold WR; omega)) _ (HT.out.at2 HB3.out)).mono ?_
  rw [ex8t]
  rintro e w4 ⟨rfl, hb⟩
  have HB4 := hid (below_on HB3.out hb)
  have HC4 := hid (HC3.out.below hb)
  clear hb HB3 HC3 m0 m1 m2 m3 m4
  obtain ⟨m0, m1, m2, m3, m4⟩ := Mu.at _ HC4.out
  go_wp2_with fail
  go_ret
  exact ⟨rfl, HB4.out⟩
theorem Law8.Awake (w : World) (htab : Tab10 w.heap.size w) : Calls Tryz.prog 68 #[] w (Ans (.bool true) w) := by
  go_enter Tryz.func68, Tryz.ntmps68
  go_wp2_with (go_at_call 16; refine (Law8.awake _ htab).mono ?_; rintro e w' ⟨rfl, hb⟩)
  go_ret
  exact ⟨rfl, hb⟩
end

/- The chapter's example of layer 9, as the laws ask it. -/
section
open Go.RowKit
theorem ex9in : (Mu.mk 5 3 2 2).In := by unfold Mu.In WR; refine ⟨⟨?_, ?_⟩, ⟨?_, ?_⟩, ⟨?_, ?_⟩, ?_, ?_⟩ <;> decide
theorem ex9p : PIn (5, 0, 1) := ⟨⟨by decide, by decide⟩, ⟨by decide, by decide⟩, by decide, by decide⟩
theorem ex9q : PIn (8, 0, 1) := ⟨⟨by decide, by decide⟩, ⟨by decide, by decide⟩, by decide, by decide⟩
theorem ex9a (w : World) : Calls Tryz.prog 25 #[(Mu.mk 5 3 2 2).val, pv (5, 0, 1)] w (Ans (.bool true) w) := by
  have h := Lag.eligible (Mu.mk 5 3 2 2) (5, 0, 1) ex9in ex9p w
  rwa [show (Mu.mk 5 3 2 2).elig (5, 0, 1) = true by first | rfl | decide +kernel] at h
theorem ex9b (w : World) : Calls Tryz.prog 25 #[(Mu.mk 5 3 2 2).val, pv (8, 0, 1)] w (Ans (.bool false) w) := by
  have h := Lag.eligible (Mu.mk 5 3 2 2) (8, 0, 1) ex9in ex9q w
  rwa [show (Mu.mk 5 3 2 2).elig (8, 0, 1) = false by first | rfl | decide +kernel] at h
theorem ex9c (w : World) : Calls Tryz.prog 27 #[(Mu.mk 5 3 2 2).val, pv (5, 0, 1)] w (Ans (.tuple #[wv 1, .bool true]) w) := by
  have h := Lag.read (Mu.mk 5 3 2 2) (5, 0, 1) ex9in ex9p w
  rwa [show (Mu.mk 5 3 2 2).lag (5, 0, 1) = (true, 1) by first | rfl | decide +kernel] at h
theorem ex9d (w : World) : Calls Tryz.prog 27 #[(Mu.mk 5 3 2 2).val, pv (8, 0, 1)] w (Ans (.tuple #[wv (-2), .bool true]) w) := by
  have h := Lag.read (Mu.mk 5 3 2 2) (8, 0, 1) ex9in ex9q w
  rwa [show (Mu.mk 5 3 2 2).lag (8, 0, 1) = (true, -2) by first | rfl | decide +kernel] at h
/-- The example's variables. -/
def A9 (w : World) (g3 g4 g5 : Nat) (W : World) : Prop := (Cs W w.heap.size (pcells (5, 0, 1)) ∧ Cs W (w.heap.size + 1) (pcells (8, 0, 1)) ∧ Cs W g3 (Mu.mk 5 3 2 2).cells) ∧ (Cs W g4 [.int .i64 (hiW 1), .int .u64 (loW 1)] ∧ Cs W g5 [.int .i64 (hiW (-2)), .int .u64 (loW (-2))]) ∧ Below w.heap.size w W
theorem A9.below {w w1 w2 : World} {g3 g4 g5 : Nat} (h : A9 w g3 g4 g5 w1) (hb : Below w1.heap.size w1 w2) : A9 w g3 g4 g5 w2 := ⟨⟨h.1.1.below hb, h.1.2.1.below hb, h.1.2.2.below hb⟩, ⟨h.2.1.1.below hb, h.2.1.2.below hb⟩, below_on h.2.2 hb⟩
theorem A9.stays (w : World) (g3 g4 g5 : Nat) : Stays (A9 w g3 g4 g5) := fun _ _ h hb => h.below hb
set_option maxRecDepth 100000 in
set_option maxHeartbeats 8000000 in
theorem Law9.awake (w : World) (htab : Tab10 w.heap.size w) : Calls Tryz.prog 24 #[] w (Ans (.bool true) w) := by
  have HT := hid htab
  have HA0 : Hid ((Cs (((w.alloc (.cells #[.int .u64 5, .int .u32 0, .int .u32 1] 29)).alloc (.cells #[.int .u64 8, .int .u32 0, .int .u32 1] 29)).alloc (.cells #[.int .u64 5, .int .u32 0, .int .u32 1, .int .u64 8, .int .u32 0, .int .u32 1] 29)) w.heap.size (pcells (5, 0, 1)) ∧ Cs (((w.alloc (.cells #[.int .u64 5, .int .u32 0, .int .u32 1] 29)).alloc (.cells #[.int .u64 8, .int .u32 0, .int .u32 1] 29)).alloc (.cells #[.int .u64 5, .int .u32 0, .int .u32 1, .int .u64 8, .int .u32 0, .int .u32 1] 29)) (w.heap.size + 1) (pcells (8, 0, 1))) ∧ RdP (((w.alloc (.cells #[.int .u64 5, .int .u32 0, .int .u32 1] 29)).alloc (.cells #[.int .u64 8, .int .u32 0, .int .u32 1] 29)).alloc (.cells #[.int .u64 5, .int .u32 0, .int .u32 1, .int .u64 8, .int .u32 0, .int .u32 1] 29)) (some ⟨w.heap.size + 2, 0, none⟩) 2 [(5, 0, 1), (8, 0, 1)] ∧ Below w.heap.size w (((w.alloc (.cells #[.int .u64 5, .int .u32 0, .int .u32 1] 29)).alloc (.cells #[.int .u64 8, .int .u32 0, .int .u32 1] 29)).alloc (.cells #[.int .u64 5, .int .u32 0, .int .u32 1, .int .u64 8, .int .u32 0, .int .u32 1] 29))) := hid (by
    have h1 := Cs.alloc_new6 w 29 (pcells (5, 0, 1))
    have h2 := Cs.alloc_new6 (w.alloc (.cells #[.int .u64 5, .int .u32 0, .int .u32 1] 29)) 29 (pcells (8, 0, 1))
    have h3 := RdP.new2 ((w.alloc (.cells #[.int .u64 5, .int .u32 0, .int .u32 1] 29)).alloc (.cells #[.int .u64 8, .int .u32 0, .int .u32 1] 29)) 29 5 0 1 8 0 1
    simp only [World.size_alloc] at h2 h3
    exact ⟨⟨(h1.alloc _).alloc _, h2.alloc _⟩, h3, (((Below.refl w.heap.size w).alloc (Nat.le_refl _) _).alloc (by simp) _).alloc (by simp; omega) _⟩)
  clear htab
  go_enter Tryz.func24, Tryz.ntmps24
  go_wp2_with fail
  generalize (((w.alloc (.cells #[.int .u64 5, .int .u32 0, .int .u32 1] 29)).alloc (.cells #[.int .u64 8, .int .u32 0, .int .u32 1] 29)).alloc (.cells #[.int .u64 5, .int .u32 0, .int .u32 1, .int .u64 8, .int .u32 0, .int .u32 1] 29)) = W3 at HA0 ⊢
  refine (Mean.of 5 ⟨by decide, by decide⟩ (some ⟨w.heap.size + 2, 0, none⟩) 2 2 [(5, 0, 1), (8, 0, 1)] _ HA0.out.2.1 (fun p hp => by
    simp at hp
    rcases hp with rfl | rfl
    · exact ex9p
    · exact ex9q) (by decide)).mono ?_
  rw [ex8]
  rintro e w1 ⟨rfl, hb⟩
  have ha := (Below.refl w1.heap.size w1).alloc (Nat.le_refl _) (.cells #[.int .u64 5, .int .i64 (hiW 3), .int .u64 (loW 3), .int .u64 2, .int .i64 2] 36)
  have HA1 : Hid (((Cs (w1.alloc (.cells #[.int .u64 5, .int .i64 (hiW 3), .int .u64 (loW 3), .int .u64 2, .int .i64 2] 36)) w.heap.size (pcells (5, 0, 1)) ∧ Cs (w1.alloc (.cells #[.int .u64 5, .int .i64 (hiW 3), .int .u64 (loW 3), .int .u64 2, .int .i64 2] 36)) (w.heap.size + 1) (pcells (8, 0, 1))) ∧ Cs (w1.alloc (.cells #[.int .u64 5, .int .i64 (hiW 3), .int .u64 (loW 3), .int .u64 2, .int .i64 2] 36)) w1.heap.size (Mu.mk 5 3 2 2).cells) ∧ Below w.heap.size w (w1.alloc (.cells #[.int .u64 5, .int .i64 (hiW 3), .int .u64 (loW 3), .int .u64 2, .int .i64 2] 36))) := hid ⟨⟨⟨(HA0.out.1.1.below hb).below ha, (HA0.out.1.2.below hb).below ha⟩, Cs.alloc_new6 w1 _ (Mu.mk 5 3 2 2).cells⟩, below_on (below_on HA0.out.2.2 hb) ha⟩
  clear hb ha HA0
  obtain ⟨m0, m1, m2, m3, m4⟩ := Mu.at (Mu.mk 5 3 2 2) HA1.out.1.2
  obtain ⟨q0, q1, q2⟩ := P3.at (5, 0, 1) HA1.out.1.1.1
  dsimp only at m0 m1 m2 m3 m4 q0 q1 q2
  go_wp2_with fail
  clear m0 m1 m2 m3 m4 q0 q1 q2
  generalize w1.alloc (.cells #[.int .u64 5, .int .i64 (hiW 3), .int .u64 (loW 3), .int .u64 2, .int .i64 2] 36) = W4 at HA1 ⊢
  generalize w1.heap.size = g3 at HA1 ⊢
  refine (ex9c _).mono ?_
  rintro e w2 ⟨rfl, hb⟩
  have ha := (Below.refl w2.heap.size w2).alloc (Nat.le_refl _) (.cells #[.int .i64 (hiW 1), .int .u64 (loW 1)] 34)
  have HA2 : Hid (((Cs (w2.alloc (.cells #[.int .i64 (hiW 1), .int .u64 (loW 1)] 34)) w.heap.size (pcells (5, 0, 1)) ∧ Cs (w2.alloc (.cells #[.int .i64 (hiW 1), .int .u64 (loW 1)] 34)) (w.heap.size + 1) (pcells (8, 0, 1))) ∧ Cs (w2.alloc (.cells #[.int .i64 (hiW 1), .int .u64 (loW 1)] 34)) g3 (Mu.mk 5 3 2 2).cells) ∧ Cs (w2.alloc (.cells #[.int .i64 (hiW 1), .int .u64 (loW 1)] 34)) w2.heap.size [.int .i64 (hiW 1), .int .u64 (loW 1)] ∧ Below w.heap.size w (w2.alloc (.cells #[.int .i64 (hiW 1), .int .u64 (loW 1)] 34))) := hid ⟨⟨⟨(HA1.out.1.1.1.below hb).below ha, (HA1.out.1.1.2.below hb).below ha⟩, (HA1.out.1.2.below hb).below ha⟩, Cs.new2 w2 _ _ _, below_on (below_on HA1.out.2 hb) ha⟩
  clear hb ha HA1
  obtain ⟨m0, m1, m2, m3, m4⟩ := Mu.at (Mu.mk 5 3 2 2) HA2.out.1.2
  obtain ⟨q0, q1, q2⟩ := P3.at (8, 0, 1) HA2.out.1.1.2
  dsimp only at m0 m1 m2 m3 m4 q0 q1 q2
  go_wp2_with fail
  clear m0 m1 m2 m3 m4 q0 q1 q2
  generalize w2.alloc (.cells #[.int .i64 (hiW 1), .int .u64 (loW 1)] 34) = W5 at HA2 ⊢
  generalize w2.heap.size = g4 at HA2 ⊢
  refine (ex9d _).mono ?_
  rintro e w3 ⟨rfl, hb⟩
  have ha := (Below.refl w3.heap.size w3).alloc (Nat.le_refl _) (.cells #[.int .i64 (hiW (-2)), .int .u64 (loW (-2))] 34)
  have HA5 : Hid (A9 w g3 g4 w3.heap.size (w3.alloc (.cells #[.int .i64 (hiW (-2)), .int .u64 (loW (-2))] 34))) := hid ⟨⟨(HA2.out.1.1.1.below hb).below ha, (HA2.out.1.1.2.below hb).below ha, (HA2.out.1.2.below hb).below ha⟩, ⟨(HA2.out.2.1.below hb).below ha, Cs.new2 w3 _ _ _⟩, below_on (below_on HA2.out.2.2 hb) ha⟩
  clear hb ha HA2
  go_wp2_with fail
  generalize w3.alloc (.cells #[.int .i64 (hiW (-2)), .int .u64 (loW (-2))] 34) = W6 at HA5 ⊢
  generalize w3.heap.size = g5 at HA5 ⊢
  refine wp_region_grow (S := A9 w g3 g4 g5) 32 (by kernel_rfl) (HA5.out.below (Below.refl _ _).drew) ?_
  refine wpAnyE_take (i := 0) (v := Value.bool true) (A9.stays w g3 g4 g5) (fun _ h => h) rfl (by kernel_rfl) (by kernel_rfl) (by kernel_rfl) (by kernel_rfl) (fun _ _ _ h => h) (Or.inl ⟨by rfl, fun wq hSw => ?_⟩) ?_
  · refine RunB.of_calls (Law8.Awake wq (HT.out.at2 hSw.2.2)) (by go_simp) ?_
    rintro e wr ⟨rfl, hb⟩
    exact ⟨rfl, hb⟩
  try simp only [List.getElem_toArray, List.getElem_cons_zero, List.getElem_cons_succ, Act.put, List.setIfInBounds_toArray, List.set_cons_zero, List.set_cons_succ]
  refine wpAnyE_take (i := 1) (v := ?_) (A9.stays w g3 g4 g5) (fun _ h => h) rfl (by kernel_rfl) (by kernel_rfl) (by kernel_rfl) (by kernel_rfl) (fun _ _ _ h => h) (SteadyB.of_yields (Or.inl ⟨by rfl, ?_⟩)) ?_
  rotate_left
  · intro wq hSw
    go_simp
    (try with_reducible rfl)
  try simp only [List.getElem_toArray, List.getElem_cons_zero, List.getElem_cons_succ, Act.put, List.setIfInBounds_toArray, List.set_cons_zero, List.set_cons_succ]
  refine wpAnyE_take (i := 2) (v := ?_) (A9.stays w g3 g4 g5) (fun _ h => h) rfl (by kernel_rfl) (by kernel_rfl) (by kernel_rfl) (by kernel_rfl) (fun _ _ _ h => h) (SteadyB.of_yields (Or.inl ⟨by rfl, ?_⟩)) ?_
  rotate_left
  · intro wq hSw
    go_simp
    (try with_reducible rfl)
  try simp only [List.getElem_toArray, List.getElem_cons_zero, List.getElem_cons_succ, Act.put, List.setIfInBounds_toArray, List.set_cons_zero, List.set_cons_succ]
  refine wpAnyE_take (i := 3) (v := ?_) (A9.stays w g3 g4 g5) (fun _ h => h) rfl (by kernel_rfl) (by kernel_rfl) (by kernel_rfl) (by kernel_rfl) (fun _ _ _ h => h) (SteadyB.of_yields (Or.inl ⟨by rfl, ?_⟩)) ?_
  rotate_left
  · intro wq hSw
    go_simp
    (try with_reducible rfl)
  try simp only [List.getElem_toArray, List.getElem_cons_zero, List.getElem_cons_succ, Act.put, List.setIfInBounds_toArray, List.set_cons_zero, List.set_cons_succ]
  refine wpAnyE_take (i := 4) (v := ?_) (A9.stays w g3 g4 g5) (fun _ h => h) rfl (by kernel_rfl) (by kernel_rfl) (by kernel_rfl) (by kernel_rfl) (fun _ _ _ h => h) (SteadyB.of_yields (Or.inl ⟨by rfl, ?_⟩)) ?_
  rotate_left
  · intro wq hSw
    go_simp
    (try with_reducible rfl)
  try simp only [List.getElem_toArray, List.getElem_cons_zero, List.getElem_cons_succ, Act.put, List.setIfInBounds_toArray, List.set_cons_zero, List.set_cons_succ]
  refine wpAnyE_take (i := 5) (v := ?_) (A9.stays w g3 g4 g5) (fun _ h => h) rfl (by kernel_rfl) (by kernel_rfl) (by kernel_rfl) (by kernel_rfl) (fun _ _ _ h => h) (SteadyB.of_yields (Or.inl ⟨by rfl, ?_⟩)) ?_
  rotate_left
  · intro wq hSw
    go_simp
    (try with_reducible rfl)
  try simp only [List.getElem_toArray, List.getElem_cons_zero, List.getElem_cons_succ, Act.put, List.setIfInBounds_toArray, List.set_cons_zero, List.set_cons_succ]
  refine wpAnyE_take (i := 6) (v := ?_) (A9.stays w g3 g4 g5) (fun _ h => h) rfl (by kernel_rfl) (by kernel_rfl) (by kernel_rfl) (by kernel_rfl) (fun _ _ _ h => h) (SteadyB.of_yields (Or.inl ⟨by rfl, ?_⟩)) ?_
  rotate_left
  · intro wq hSw
    go_simp
    (try with_reducible rfl)
  try simp only [List.getElem_toArray, List.getElem_cons_zero, List.getElem_cons_succ, Act.put, List.setIfInBounds_toArray, List.set_cons_zero, List.set_cons_succ]
  refine wpAnyE_take (i := 7) (v := ?_) (A9.stays w g3 g4 g5) (fun _ h => h) rfl (by kernel_rfl) (by kernel_rfl) (by kernel_rfl) (by kernel_rfl) (fun _ _ _ h => h) (SteadyB.of_yields (Or.inl ⟨by rfl, ?_⟩)) ?_
  rotate_left
  · intro wq hSw
    go_simp
    (try with_reducible rfl)
  try simp only [List.getElem_toArray, List.getElem_cons_zero, List.getElem_cons_succ, Act.put, List.setIfInBounds_toArray, List.set_cons_zero, List.set_cons_succ]
  refine wpAnyE_take (i := 8) (v := ?_) (A9.stays w g3 g4 g5) (fun _ h => h) rfl (by kernel_rfl) (by kernel_rfl) (by kernel_rfl) (by kernel_rfl) (fun _ _ _ h => h) (SteadyB.of_yields (Or.inl ⟨by rfl, ?_⟩)) ?_
  rotate_left
  · intro wq hSw
    go_simp
    (try with_reducible rfl)
  try simp only [List.getElem_toArray, List.getElem_cons_zero, List.getElem_cons_succ, Act.put, List.setIfInBounds_toArray, List.set_cons_zero, List.set_cons_succ]
  refine wpAnyE_take (i := 9) (v := ?_) (A9.stays w g3 g4 g5) (fun _ h => h) rfl (by kernel_rfl) (by kernel_rfl) (by kernel_rfl) (by kernel_rfl) (fun _ _ _ h => h) (SteadyB.of_yields (Or.inl ⟨by rfl, ?_⟩)) ?_
  rotate_left
  · intro wq hSw
    go_simp
    (try with_reducible rfl)
  try simp only [List.getElem_toArray, List.getElem_cons_zero, List.getElem_cons_succ, Act.put, List.setIfInBounds_toArray, List.set_cons_zero, List.set_cons_succ]
  refine wpAnyE_take (i := 10) (v := ?_) (A9.stays w g3 g4 g5) (fun _ h => h) rfl (by kernel_rfl) (by kernel_rfl) (by kernel_rfl) (by kernel_rfl) (fun _ _ _ h => h) (SteadyB.of_yields (Or.inl ⟨by rfl, ?_⟩)) ?_
  rotate_left
  · intro wq hSw
    go_simp
    (try with_reducible rfl)
  try simp only [List.getElem_toArray, List.getElem_cons_zero, List.getElem_cons_succ, Act.put, List.setIfInBounds_toArray, List.set_cons_zero, List.set_cons_succ]
  refine wpAnyE_take (i := 11) (v := ?_) (A9.stays w g3 g4 g5) (fun _ h => h) rfl (by kernel_rfl) (by kernel_rfl) (by kernel_rfl) (by kernel_rfl) (fun _ _ _ h => h) (SteadyB.of_yields (Or.inl ⟨by rfl, ?_⟩)) ?_
  rotate_left
  · intro wq hSw
    obtain ⟨m0, m1, m2, m3, m4⟩ := Mu.at (Mu.mk 5 3 2 2) hSw.1.2.2
    obtain ⟨q0, q1, q2⟩ := P3.at (5, 0, 1) hSw.1.1
    obtain ⟨r0, r1, r2⟩ := P3.at (8, 0, 1) hSw.1.2.1
    have a0 := hSw.2.1.1.at0
    have a1 := hSw.2.1.1.at1
    have b0 := hSw.2.1.2.at0
    have b1 := hSw.2.1.2.at1
    dsimp only at m0 m1 m2 m3 m4 q0 q1 q2 r0 r1 r2
    go_simp
    (try with_reducible rfl)
  try simp only [List.getElem_toArray, List.getElem_cons_zero, List.getElem_cons_succ, Act.put, List.setIfInBounds_toArray, List.set_cons_zero, List.set_cons_succ]
  refine wpAnyE_take (i := 12) (v := wv 1) (A9.stays w g3 g4 g5) (fun _ h => h) rfl (by kernel_rfl) (by kernel_rfl) (by kernel_rfl) (by kernel_rfl) (fun _ _ _ h => h) (Or.inl ⟨by rfl, fun wq hSw => ?_⟩) ?_
  · refine RunB.of_calls (Wide.ofF (x := 1) (by decide) (by decide) wq) (by go_simp) ?_
    rintro e wr ⟨rfl, hb⟩
    exact ⟨rfl, hb⟩
  try simp only [List.getElem_toArray, List.getElem_cons_zero, List.getElem_cons_succ, Act.put, List.setIfInBounds_toArray, List.set_cons_zero, List.set_cons_succ]
  refine wpAnyE_take (i := 13) (v := ?_) (A9.stays w g3 g4 g5) (fun _ h => h) rfl (by kernel_rfl) (by kernel_rfl) (by kernel_rfl) (by kernel_rfl) (fun _ _ _ h => h) (SteadyB.of_yields (Or.inl ⟨by rfl, ?_⟩)) ?_
  rotate_left
  · intro wq hSw
    go_simp
    (try with_reducible rfl)
  try simp only [List.getElem_toArray, List.getElem_cons_zero, List.getElem_cons_succ, Act.put, List.setIfInBounds_toArray, List.set_cons_zero, List.set_cons_succ]
  refine wpAnyE_take (i := 14) (v := ?_) (A9.stays w g3 g4 g5) (fun _ h => h) rfl (by kernel_rfl) (by kernel_rfl) (by kernel_rfl) (by kernel_rfl) (fun _ _ _ h => h) (SteadyB.of_yields (Or.inl ⟨by rfl, ?_⟩)) ?_
  rotate_left
  · intro wq hSw
    go_simp
    (try with_reducible rfl)
  try simp only [List.getElem_toArray, List.getElem_cons_zero, List.getElem_cons_succ, Act.put, List.setIfInBounds_toArray, List.set_cons_zero, List.set_cons_succ]
  refine wpAnyE_take (i := 15) (v := ?_) (A9.stays w g3 g4 g5) (fun _ h => h) rfl (by kernel_rfl) (by kernel_rfl) (by kernel_rfl) (by kernel_rfl) (fun _ _ _ h => h) (SteadyB.of_yields (Or.inl ⟨by rfl, ?_⟩)) ?_
  rotate_left
  · intro wq hSw
    go_simp
    (try with_reducible rfl)
  try simp only [List.getElem_toArray, List.getElem_cons_zero, List.getElem_cons_succ, Act.put, List.setIfInBounds_toArray, List.set_cons_zero, List.set_cons_succ]
  refine wpAnyE_take (i := 16) (v := ?_) (A9.stays w g3 g4 g5) (fun _ h => h) rfl (by kernel_rfl) (by kernel_rfl) (by kernel_rfl) (by kernel_rfl) (fun _ _ _ h => h) (SteadyB.of_yields (Or.inl ⟨by rfl, ?_⟩)) ?_
  rotate_left
  · intro wq hSw
    obtain ⟨m0, m1, m2, m3, m4⟩ := Mu.at (Mu.mk 5 3 2 2) hSw.1.2.2
    obtain ⟨q0, q1, q2⟩ := P3.at (5, 0, 1) hSw.1.1
    obtain ⟨r0, r1, r2⟩ := P3.at (8, 0, 1) hSw.1.2.1
    have a0 := hSw.2.1.1.at0
    have a1 := hSw.2.1.1.at1
    have b0 := hSw.2.1.2.at0
    have b1 := hSw.2.1.2.at1
    dsimp only at m0 m1 m2 m3 m4 q0 q1 q2 r0 r1 r2
    go_simp
    (try with_reducible rfl)
  try simp only [List.getElem_toArray, List.getElem_cons_zero, List.getElem_cons_succ, Act.put, List.setIfInBounds_toArray, List.set_cons_zero, List.set_cons_succ]
  refine wpAnyE_take (i := 17) (v := wv (-2)) (A9.stays w g3 g4 g5) (fun _ h => h) rfl (by kernel_rfl) (by kernel_rfl) (by kernel_rfl) (by kernel_rfl) (fun _ _ _ h => h) (Or.inl ⟨by rfl, fun wq hSw => ?_⟩) ?_
  · refine RunB.of_calls (Wide.ofF (x := -2) (by decide) (by decide) wq) (by go_simp) ?_
    rintro e wr ⟨rfl, hb⟩
    exact ⟨rfl, hb⟩
  try simp only [List.getElem_toArray, List.getElem_cons_zero, List.getElem_cons_succ, Act.put, List.setIfInBounds_toArray, List.set_cons_zero, List.set_cons_succ]
  refine wpAnyE_take (i := 18) (v := ?_) (A9.stays w g3 g4 g5) (fun _ h => h) rfl (by kernel_rfl) (by kernel_rfl) (by kernel_rfl) (by kernel_rfl) (fun _ _ _ h => h) (SteadyB.of_yields (Or.inl ⟨by rfl, ?_⟩)) ?_
  rotate_left
  · intro wq hSw
    go_simp
    (try with_reducible rfl)
  try simp only [List.getElem_toArray, List.getElem_cons_zero, List.getElem_cons_succ, Act.put, List.setIfInBounds_toArray, List.set_cons_zero, List.set_cons_succ]
  refine wpAnyE_take (i := 19) (v := ?_) (A9.stays w g3 g4 g5) (fun _ h => h) rfl (by kernel_rfl) (by kernel_rfl) (by kernel_rfl) (by kernel_rfl) (fun _ _ _ h => h) (SteadyB.of_yields (Or.inl ⟨by rfl, ?_⟩)) ?_
  rotate_left
  · intro wq hSw
    go_simp
    (try with_reducible rfl)
  try simp only [List.getElem_toArray, List.getElem_cons_zero, List.getElem_cons_succ, Act.put, List.setIfInBounds_toArray, List.set_cons_zero, List.set_cons_succ]
  refine wpAnyE_take (i := 20) (v := ?_) (A9.stays w g3 g4 g5) (fun _ h => h) rfl (by kernel_rfl) (by kernel_rfl) (by kernel_rfl) (by kernel_rfl) (fun _ _ _ h => h) (SteadyB.of_yields (Or.inl ⟨by rfl, ?_⟩)) ?_
  rotate_left
  · intro wq hSw
    go_simp
    (try with_reducible rfl)
  try simp only [List.getElem_toArray, List.getElem_cons_zero, List.getElem_cons_succ, Act.put, List.setIfInBounds_toArray, List.set_cons_zero, List.set_cons_succ]
  refine wpAnyE_take (i := 21) (v := ?_) (A9.stays w g3 g4 g5) (fun _ h => h) rfl (by kernel_rfl) (by kernel_rfl) (by kernel_rfl) (by kernel_rfl) (fun _ _ _ h => h) (SteadyB.of_yields (Or.inl ⟨by rfl, ?_⟩)) ?_
  rotate_left
  · intro wq hSw
    obtain ⟨m0, m1, m2, m3, m4⟩ := Mu.at (Mu.mk 5 3 2 2) hSw.1.2.2
    obtain ⟨q0, q1, q2⟩ := P3.at (5, 0, 1) hSw.1.1
    obtain ⟨r0, r1, r2⟩ := P3.at (8, 0, 1) hSw.1.2.1
    have a0 := hSw.2.1.1.at0
    have a1 := hSw.2.1.1.at1
    have b0 := hSw.2.1.2.at0
    have b1 := hSw.2.1.2.at1
    dsimp only at m0 m1 m2 m3 m4 q0 q1 q2 r0 r1 r2
    go_simp
    (try with_reducible rfl)
  try simp only [List.getElem_toArray, List.getElem_cons_zero, List.getElem_cons_succ, Act.put, List.setIfInBounds_toArray, List.set_cons_zero, List.set_cons_succ]
  refine wpAnyE_take (i := 22) (v := ?_) (A9.stays w g3 g4 g5) (fun _ h => h) rfl (by kernel_rfl) (by kernel_rfl) (by kernel_rfl) (by kernel_rfl) (fun _ _ _ h => h) (SteadyB.of_yields (Or.inl ⟨by rfl, ?_⟩)) ?_
  rotate_left
  · intro wq hSw
    obtain ⟨m0, m1, m2, m3, m4⟩ := Mu.at (Mu.mk 5 3 2 2) hSw.1.2.2
    obtain ⟨q0, q1, q2⟩ := P3.at (5, 0, 1) hSw.1.1
    obtain ⟨r0, r1, r2⟩ := P3.at (8, 0, 1) hSw.1.2.1
    have a0 := hSw.2.1.1.at0
    have a1 := hSw.2.1.1.at1
    have b0 := hSw.2.1.2.at0
    have b1 := hSw.2.1.2.at1
    dsimp only at m0 m1 m2 m3 m4 q0 q1 q2 r0 r1 r2
    go_simp
    (try with_reducible rfl)
  try simp only [List.getElem_toArray, List.getElem_cons_zero, List.getElem_cons_succ, Act.put, List.setIfInBounds_toArray, List.set_cons_zero, List.set_cons_succ]
  refine wpAnyE_take (i := 23) (v := Value.bool true) (A9.stays w g3 g4 g5) (fun _ h => h) rfl (by kernel_rfl) (by kernel_rfl) (by kernel_rfl) (by kernel_rfl) (fun _ _ _ h => h) (Or.inl ⟨by rfl, fun wq hSw => ?_⟩) ?_
  · refine RunB.of_calls (ex9a wq) (by go_simp) ?_
    rintro e wr ⟨rfl, hb⟩
    exact ⟨rfl, hb⟩
  try simp only [List.getElem_toArray, List.getElem_cons_zero, List.getElem_cons_succ, Act.put, List.setIfInBounds_toArray, List.set_cons_zero, List.set_cons_succ]
  refine wpAnyE_take (i := 24) (v := ?_) (A9.stays w g3 g4 g5) (fun _ h => h) rfl (by kernel_rfl) (by kernel_rfl) (by kernel_rfl) (by kernel_rfl) (fun _ _ _ h => h) (SteadyB.of_yields (Or.inl ⟨by rfl, ?_⟩)) ?_
  rotate_left
  · intro wq hSw
    go_simp
    (try with_reducible rfl)
  try simp only [List.getElem_toArray, List.getElem_cons_zero, List.getElem_cons_succ, Act.put, List.setIfInBounds_toArray, List.set_cons_zero, List.set_cons_succ]
  refine wpAnyE_take (i := 25) (v := ?_) (A9.stays w g3 g4 g5) (fun _ h => h) rfl (by kernel_rfl) (by kernel_rfl) (by kernel_rfl) (by kernel_rfl) (fun _ _ _ h => h) (SteadyB.of_yields (Or.inl ⟨by rfl, ?_⟩)) ?_
  rotate_left
  · intro wq hSw
    go_simp
    (try with_reducible rfl)
  try simp only [List.getElem_toArray, List.getElem_cons_zero, List.getElem_cons_succ, Act.put, List.setIfInBounds_toArray, List.set_cons_zero, List.set_cons_succ]
  refine wpAnyE_take (i := 26) (v := ?_) (A9.stays w g3 g4 g5) (fun _ h => h) rfl (by kernel_rfl) (by kernel_rfl) (by kernel_rfl) (by kernel_rfl) (fun _ _ _ h => h) (SteadyB.of_yields (Or.inl ⟨by rfl, ?_⟩)) ?_
  rotate_left
  · intro wq hSw
    obtain ⟨m0, m1, m2, m3, m4⟩ := Mu.at (Mu.mk 5 3 2 2) hSw.1.2.2
    obtain ⟨q0, q1, q2⟩ := P3.at (5, 0, 1) hSw.1.1
    obtain ⟨r0, r1, r2⟩ := P3.at (8, 0, 1) hSw.1.2.1
    have a0 := hSw.2.1.1.at0
    have a1 := hSw.2.1.1.at1
    have b0 := hSw.2.1.2.at0
    have b1 := hSw.2.1.2.at1
    dsimp only at m0 m1 m2 m3 m4 q0 q1 q2 r0 r1 r2
    go_simp
    (try with_reducible rfl)
  try simp only [List.getElem_toArray, List.getElem_cons_zero, List.getElem_cons_succ, Act.put, List.setIfInBounds_toArray, List.set_cons_zero, List.set_cons_succ]
  refine wpAnyE_take (i := 27) (v := ?_) (A9.stays w g3 g4 g5) (fun _ h => h) rfl (by kernel_rfl) (by kernel_rfl) (by kernel_rfl) (by kernel_rfl) (fun _ _ _ h => h) (SteadyB.of_yields (Or.inl ⟨by rfl, ?_⟩)) ?_
  rotate_left
  · intro wq hSw
    obtain ⟨m0, m1, m2, m3, m4⟩ := Mu.at (Mu.mk 5 3 2 2) hSw.1.2.2
    obtain ⟨q0, q1, q2⟩ := P3.at (5, 0, 1) hSw.1.1
    obtain ⟨r0, r1, r2⟩ := P3.at (8, 0, 1) hSw.1.2.1
    have a0 := hSw.2.1.1.at0
    have a1 := hSw.2.1.1.at1
    have b0 := hSw.2.1.2.at0
    have b1 := hSw.2.1.2.at1
    dsimp only at m0 m1 m2 m3 m4 q0 q1 q2 r0 r1 r2
    go_simp
    (try with_reducible rfl)
  try simp only [List.getElem_toArray, List.getElem_cons_zero, List.getElem_cons_succ, Act.put, List.setIfInBounds_toArray, List.set_cons_zero, List.set_cons_succ]
  refine wpAnyE_take (i := 28) (v := Value.bool false) (A9.stays w g3 g4 g5) (fun _ h => h) rfl (by kernel_rfl) (by kernel_rfl) (by kernel_rfl) (by kernel_rfl) (fun _ _ _ h => h) (Or.inl ⟨by rfl, fun wq hSw => ?_⟩) ?_
  · refine RunB.of_calls (ex9b wq) (by go_simp) ?_
    rintro e wr ⟨rfl, hb⟩
    exact ⟨rfl, hb⟩
  try simp only [List.getElem_toArray, List.getElem_cons_zero, List.getElem_cons_succ, Act.put, List.setIfInBounds_toArray, List.set_cons_zero, List.set_cons_succ]
  refine wpAnyE_take (i := 29) (v := ?_) (A9.stays w g3 g4 g5) (fun _ h => h) rfl (by kernel_rfl) (by kernel_rfl) (by kernel_rfl) (by kernel_rfl) (fun _ _ _ h => h) (SteadyB.of_yields (Or.inl ⟨by rfl, ?_⟩)) ?_
  rotate_left
  · intro wq hSw
    go_simp
    (try with_reducible rfl)
  try simp only [List.getElem_toArray, List.getElem_cons_zero, List.getElem_cons_succ, Act.put, List.setIfInBounds_toArray, List.set_cons_zero, List.set_cons_succ]
  refine wpAnyE_take (i := 30) (v := ?_) (A9.stays w g3 g4 g5) (fun _ h => h) rfl (by kernel_rfl) (by kernel_rfl) (by kernel_rfl) (by kernel_rfl) (fun _ _ _ h => h) (SteadyB.of_yields (Or.inl ⟨by rfl, ?_⟩)) ?_
  rotate_left
  · intro wq hSw
    go_simp
    (try with_reducible rfl)
  try simp only [List.getElem_toArray, List.getElem_cons_zero, List.getElem_cons_succ, Act.put, List.setIfInBounds_toArray, List.set_cons_zero, List.set_cons_succ]
  refine wpAnyE_take (i := 31) (v := ?_) (A9.stays w g3 g4 g5) (fun _ h => h) rfl (by kernel_rfl) (by kernel_rfl) (by kernel_rfl) (by kernel_rfl) (fun _ _ _ h => h) (SteadyB.of_yields (Or.inl ⟨by rfl, ?_⟩)) ?_
  rotate_left
  · intro wq hSw
    go_simp
    (try with_reducible rfl)
  try simp only [List.getElem_toArray, List.getElem_cons_zero, List.getElem_cons_succ, Act.put, List.setIfInBounds_toArray, List.set_cons_zero, List.set_cons_succ]
  refine wpAnyE_done (by kernel_rfl) (fun wz hSz => ?_) _
  have HF := hid hSz.2.2
  clear hSz HA5
  go_wp2_with fail
  go_ret
  exact ⟨rfl, HF.out⟩
theorem Law9.Awake (w : World) (htab : Tab10 w.heap.size w) : Calls Tryz.prog 85 #[] w (Ans (.bool true) w) := by
  go_enter Tryz.func85, Tryz.ntmps85
  go_wp2_with (go_at_call 24; refine (Law9.awake _ htab).mono ?_; rintro e w' ⟨rfl, hb⟩)
  go_ret
  exact ⟨rfl, hb⟩
end

/- LagBases: the walk. -/
section
open Go.RowKit
theorem mem_take1 {l : List P3} {k : Nat} {C : P3 → Prop} (hk : k < l.length) (h : ∀ p ∈ l.take k, C p) (hx : C (l.getD k (0, 0, 0))) : ∀ p ∈ l.take (k + 1), C p := fun p hp => by
  have e : l.getD k (0, 0, 0) = l[k] := by simp [List.getD, hk]
  rw [List.take_succ_eq_append_getElem hk, ← e] at hp
  rcases List.mem_append.1 hp with h1 | h1
  · exact h p h1
  · simp at h1; subst h1; exact hx
end

/- LagOwed: the walk. -/
section
open Go.RowKit
theorem cmpI_geP {x : Int} : 0 ≤ cmpI x 0 ↔ 0 ≤ x := by unfold cmpI; split <;> (try split) <;> omega
theorem owd_some {t : Int} {l : List P3} (hr : ∀ p ∈ l, pR p = true ∧ PIn p) (h0 : 0 < l.length) (hn : l.length ≤ 32) : owdP (Mu.sums t l) l l.length ≠ [] := by
  obtain ⟨p, hp, h⟩ := some_up (m := Mu.sums t l) h0 (by rw [sumO_zero t l]; exact Int.le_refl 0)
  obtain ⟨i, hi, e⟩ := List.getElem_of_mem hp
  refine owdP_ne hi ?_
  have e2 : l.getD i (0, 0, 0) = p := by simp [List.getD, hi, e]
  rw [e2]
  have h1 := sums_ov (t := t) hr hn h0 (hr p hp)
  unfold Mu.elig Mu.over
  rw [if_pos h1]
  simpa using cmpI_geP.2 h
theorem RdP.nil (w : World) : RdP w none 0 [] := ⟨rfl, fun i hi => absurd hi (by omega)⟩
/-- A position's cells, to be read. -/
def PC (w : World) (g : Nat) (x : P3) : Prop := w.cell? ⟨g, 0, none⟩ = some (.int .u64 x.1) ∧ w.cell? ⟨g, 1, none⟩ = some (.int .u32 x.2.1) ∧ w.cell? ⟨g, 2, none⟩ = some (.int .u32 x.2.2)
theorem PC.below {w w' : World} {g : Nat} {x : P3} (h : PC w g x) (hb : Below w.heap.size w w') : PC w' g x := ⟨keep1 hb h.1, keep1 hb h.2.1, keep1 hb h.2.2⟩
theorem PC.of {w : World} {g : Nat} {x : P3} (h : Cs w g (pcells x)) : PC w g x := P3.at x h
theorem PC.far {w w1 : World} {g : Nat} {x : P3} {obj : Obj} {row : Option Nat} (h : PC w g x) (hg : (w.alloc obj).grownBy w1 row) (hne : some g ≠ row) : PC w1 g x := ⟨far1 h.1 hg hne, far1 h.2.1 hg hne, far1 h.2.2 hg hne⟩
theorem Own.notRow {w : World} {base : Nat} {A : Option Addr} {n c : Nat} {zs : List Int} (h : Own w base A n c zs) : some w.heap.size ≠ (Value.slice A n c).ownBlock := fun e => Nat.lt_irrefl _ (h.rowIn _ (row_own e.symm)).2
set_option maxRecDepth 100000 in
set_option maxHeartbeats 4000000 in
theorem Lowed.away1 (m : Mu) (t : Int) (A : Option Addr) (n c : Nat) (w : World) (hn : 40 < n) (htab : Tab10 w.heap.size w) : Calls Tryz.prog 6 #[m.val, .int .u64 t, .slice A n c] w (Ans (.bool true) w) := by
  have HT := hid htab
  have HQ : Hid (Cs (w.alloc (.cells #[.int .u64 m.b, .int .i64 (hiW m.a), .int .u64 (loW m.a), .int .u64 m.w, .int .i64 m.n] 36)) w.heap.size m.cells ∧ Below w.heap.size w (w.alloc (.cells #[.int .u64 m.b, .int .i64 (hiW m.a), .int .u64 (loW m.a), .int .u64 m.w, .int .i64 m.n] 36))) := hid ⟨Cs.alloc_new6 w 36 m.cells, (Below.refl w.heap.size w).alloc (Nat.le_refl _) _⟩
  clear htab
  unfold Mu.val
  have h2 : (40 : Int) < (n : Int) := by omega
  clear hn
  go_enter Tryz.func6, Tryz.ntmps6
  go_wp2_with fail
  generalize (w.alloc (.cells #[.int .u64 m.b, .int .i64 (hiW m.a), .int .u64 (loW m.a), .int .u64 m.w, .int .i64 m.n] 36)) = W0 at HQ ⊢
  refine (Law9.awake _ (HT.out.at2 HQ.out.2)).mono ?_
  rintro e w1 ⟨rfl, hb⟩
  replace HQ := hid (And.intro (HQ.out.1.below hb) (below_on HQ.out.2 hb))
  clear hb HT
  obtain ⟨m0, m1, m2, m3, m4⟩ := Mu.at m HQ.out.1
  go_wp2_with fail
  go_ret
  exact ⟨rfl, HQ.out.2⟩
set_option maxRecDepth 100000 in
set_option maxHeartbeats 4000000 in
theorem Lowed.away2 (m : Mu) (t : Int) (A : Option Addr) (n c : Nat) (w : World) (hn : n ≤ 40) (h : m.n < 0) (htab : Tab10 w.heap.size w) : Calls Tryz.prog 6 #[m.val, .int .u64 t, .slice A n c] w (Ans (.bool true) w) := by
  have HT := hid htab
  have HQ : Hid (Cs (w.alloc (.cells #[.int .u64 m.b, .int .i64 (hiW m.a), .int .u64 (loW m.a), .int .u64 m.w, .int .i64 m.n] 36)) w.heap.size m.cells ∧ Below w.heap.size w (w.alloc (.cells #[.int .u64 m.b, .int .i64 (hiW m.a), .int .u64 (loW m.a), .int .u64 m.w, .int .i64 m.n] 36))) := hid ⟨Cs.alloc_new6 w 36 m.cells, (Below.refl w.heap.size w).alloc (Nat.le_refl _) _⟩
  clear htab
  unfold Mu.val
  have h2 : ¬ (40 : Int) < (n : Int) := by omega
  clear hn
  go_enter Tryz.func6, Tryz.ntmps6
  go_wp2_with fail
  generalize (w.alloc (.cells #[.int .u64 m.b, .int .i64 (hiW m.a), .int .u64 (loW m.a), .int .u64 m.w, .int .i64 m.n] 36)) = W0 at HQ ⊢
  refine (Law9.awake _ (HT.out.at2 HQ.out.2)).mono ?_
  rintro e w1 ⟨rfl, hb⟩
  replace HQ := hid (And.intro (HQ.out.1.below hb) (below_on HQ.out.2 hb))
  clear hb HT
  obtain ⟨m0, m1, m2, m3, m4⟩ := Mu.at m HQ.out.1
  go_wp2_with fail
  go_ret
  exact ⟨rfl, HQ.out.2⟩
set_option maxRecDepth 100000 in
set_option maxHeartbeats 4000000 in
theorem Lowed.away3 (m : Mu) (t : Int) (A : Option Addr) (n c : Nat) (w : World) (hn : n ≤ 40) (h : ¬ m.n < 0) (h3 : 1000 < m.n) (htab : Tab10 w.heap.size w) : Calls Tryz.prog 6 #[m.val, .int .u64 t, .slice A n c] w (Ans (.bool true) w) := by
  have HT := hid htab
  have HQ : Hid (Cs (w.alloc (.cells #[.int .u64 m.b, .int .i64 (hiW m.a), .int .u64 (loW m.a), .int .u64 m.w, .int .i64 m.n] 36)) w.heap.size m.cells ∧ Below w.heap.size w (w.alloc (.cells #[.int .u64 m.b, .int .i64 (hiW m.a), .int .u64 (loW m.a), .int .u64 m.w, .int .i64 m.n] 36))) := hid ⟨Cs.alloc_new6 w 36 m.cells, (Below.refl w.heap.size w).alloc (Nat.le_refl _) _⟩
  clear htab
  unfold Mu.val
  have h2 : ¬ (40 : Int) < (n : Int) := by omega
  clear hn
  go_enter Tryz.func6, Tryz.ntmps6
  go_wp2_with fail
  generalize (w.alloc (.cells #[.int .u64 m.b, .int .i64 (hiW m.a), .int .u64 (loW m.a), .int .u64 m.w, .int .i64 m.n] 36)) = W0 at HQ ⊢
  refine (Law9.awake _ (HT.out.at2 HQ.out.2)).mono ?_
  rintro e w1 ⟨rfl, hb⟩
  replace HQ := hid (And.intro (HQ.out.1.below hb) (below_on HQ.out.2 hb))
  clear hb HT
  obtain ⟨m0, m1, m2, m3, m4⟩ := Mu.at m HQ.out.1
  go_wp2_with fail
  go_ret
  exact ⟨rfl, HQ.out.2⟩
set_option maxRecDepth 100000 in
set_option maxHeartbeats 32000000 in
theorem Lowed.none0 (m : Mu) (hm : m.In) (t : Int) (ht : IsT t) (A : Option Addr) (n c : Nat) (l : List P3) (w : World) (hr : RdP w A n l) (hl : ∀ q ∈ l, PIn q) (h40 : n ≤ 40) (hn : ¬ m.n < 0) (hn2 : ¬ 1000 < m.n) (h0 : n = 0) (htab : Tab10 w.heap.size w) : Calls Tryz.prog 6 #[m.val, .int .u64 t, .slice A n c] w (Ans (.bool true) w) := by
  have HT := hid htab
  have HM := hid hm
  have HR := hid hr
  have HL := hid hl
  have HTT := hid ht
  have HLN := hid hr.1
  have h2 : ¬ (40 : Int) < (n : Int) := by omega
  have HQ : Hid (Cs (w.alloc (.cells #[.int .u64 m.b, .int .i64 (hiW m.a), .int .u64 (loW m.a), .int .u64 m.w, .int .i64 m.n] 36)) w.heap.size m.cells ∧ Below w.heap.size w (w.alloc (.cells #[.int .u64 m.b, .int .i64 (hiW m.a), .int .u64 (loW m.a), .int .u64 m.w, .int .i64 m.n] 36))) := hid ⟨Cs.alloc_new6 w 36 m.cells, (Below.refl w.heap.size w).alloc (Nat.le_refl _) _⟩
  have hz : ¬ (0 : Int) < (n : Int) := by omega
  clear h0
  clear hr hl hm ht htab
  unfold Mu.val
  go_enter Tryz.func6, Tryz.ntmps6
  go_wp2_with fail
  generalize (w.alloc (.cells #[.int .u64 m.b, .int .i64 (hiW m.a), .int .u64 (loW m.a), .int .u64 m.w, .int .i64 m.n] 36)) = W0 at HQ ⊢
  refine (Law9.awake _ (HT.out.at2 HQ.out.2)).mono ?_
  rintro e w1 ⟨rfl, hb⟩
  replace HQ := hid (And.intro (HQ.out.1.below hb) (below_on HQ.out.2 hb))
  clear hb HT
  obtain ⟨m0, m1, m2, m3, m4⟩ := Mu.at m HQ.out.1
  go_wp2_with fail
  clear m0 m1 m2 m3 m4
  go_loopg [7, 8, 41] n (fun s a b i wr => ∃ (k : Nat) (A' : Option Addr) (n' c' : Nat) (nr : Bool), i = .int .i64 k ∧ a = .slice A' n' c' ∧ b = .bool nr ∧ k ≤ n ∧ s = n - k ∧ (Own wr w1.heap.size A' n' c' (owdP m l k) ∧ n' ≤ k) ∧ (nr = true → (0 < n ∧ n ≤ 32) ∧ ∀ p ∈ l.take k, NrP 1152921504606846976 t p) ∧ Below w1.heap.size w1 wr)
  case atStart => exact ⟨0, none, 0, 0, false, rfl, rfl, (by first | rfl | simp [hy]), Nat.zero_le _, by omega, ⟨Own.nil _ _, Nat.le_refl _⟩, (fun h => by cases h), Below.refl _ _⟩
  case round =>
    obtain ⟨k, A', n', c', nr, rfl, rfl, rfl, hk, hs, ho, hnr, hb⟩ := hrel
    have HS := hid hs
    have HO := hid ho
    have HNR := hid hnr
    have HB := hid hb
    have hnk := ho.2
    clear hs ho hnr hb
    by_cases hkn : k < n
    · exfalso; omega
    · obtain rfl : k = n := by omega
      have hki : ¬ (k : Int) < k := by omega
      have HEQ : Hid ((owdP m l l.length == owdP m l k) = true) := hid (by rw [HLN.out]; simp)
      have HO2 := hid HO.out.1
      clear HO
      have HR1 := hid (HR.out.below (below_on HQ.out.2 HB.out))
      cases nr with
      | false =>
        clear HNR HS
        go_wp2_with fail
        refine (Mean.of t HTT.out A k c l _ HR1.out HL.out (by omega)).mono ?_
        rintro e w2 ⟨rfl, hb⟩
        generalize Mu.of t l = z
        have ha := (Below.refl w2.heap.size w2).alloc (Nat.le_refl _) (.cells #[.int .u64 z.2.b, .int .i64 (hiW z.2.a), .int .u64 (loW z.2.a), .int .u64 z.2.w, .int .i64 z.2.n] 36)
        replace HO2 := hid ((HO2.out.below hb).below ha)
        have HC2 := hid (((HQ.out.1.below HB.out).below hb).below ha)
        have HR2 := hid ((HR1.out.below hb).below ha)
        have HB2 := hid (below_on (below_on (below_on HQ.out.2 HB.out) hb) ha)
        clear ha hb HQ HB HR1
        obtain ⟨m0, m1, m2, m3, m4⟩ := Mu.at m HC2.out
        go_wp2_with fail
        clear m0 m1 m2 m3 m4
        refine (Lag.owed m HM.out A k c l _ HR2.out HL.out (by omega)).mono ?_
        rintro e w3 ⟨A3, n3, c3, B3, rfl, ho, hb⟩
        have HO3 := hid ho
        replace HO2 := hid (HO2.out.below hb)
        replace HC2 := hid (HC2.out.below hb)
        replace HR2 := hid (HR2.out.below hb)
        replace HB2 := hid (below_on HB2.out hb)
        clear ho hb
        go_wp2_with fail
        refine (Sls.equal A3 A' n3 c3 n' c' _ _ _ HO3.out.1.rdi HO2.out.rdi HO3.out.2 (by omega)).mono ?_
        rw [HEQ.out]
        rintro e w4 ⟨rfl, hb⟩
        replace HC2 := hid (HC2.out.below hb)
        replace HR2 := hid (HR2.out.below hb)
        replace HB2 := hid (below_on HB2.out hb)
        clear hb HO2 HO3
        obtain ⟨m0, m1, m2, m3, m4⟩ := Mu.at m HC2.out
        go_wp2_with fail
        clear m0 m1 m2 m3 m4
        refine (Lag.owed m HM.out none 0 0 [] _ (RdP.nil _) (by simp) (by omega)).mono ?_
        rintro e w6 ⟨A6, n6, c6, B6, rfl, ho, hb⟩
        obtain rfl : n6 = 0 := by have := ho.1.len; simpa [owdP] using this.symm
        replace HB2 := hid (below_on HB2.out hb)
        clear hb ho
        go_wp2_with fail
        go_ret
        exact ⟨by first | rfl | simp, HB2.out⟩
      | true =>
        have HNL : Hid (∀ p ∈ l, NrP 1152921504606846976 t p) := hid (by have := (HNR.out (by trivial)).2; rwa [List.take_of_length_le (by have := HLN.out; omega)] at this)
        have HKB := hid (HNR.out (by trivial)).1
        have HOK : Hid (∀ p ∈ l, pR p = true ∧ PIn p) := hid (fun p hp => (HNL.out p hp).1)
        have E1 := hid (of_yes t HOK.out (by have := HLN.out; have := HKB.out; omega))
        have HI1 := hid (sums_in HTT.out HOK.out (by have := HLN.out; have := HKB.out; omega))
        have HPO := hid (owd_some (t := t) HOK.out (by have := HLN.out; have := HKB.out; omega) (by have := HLN.out; have := HKB.out; omega))
        clear HNR HS HNL HOK
        go_wp2_with fail
        refine (Mean.of t HTT.out A k c l _ HR1.out HL.out (by omega)).mono ?_
        rw [E1.out]
        rintro e w2 ⟨rfl, hb⟩
        have ha := (Below.refl w2.heap.size w2).alloc (Nat.le_refl _) (.cells #[.int .u64 (Mu.sums t l).b, .int .i64 (hiW (Mu.sums t l).a), .int .u64 (loW (Mu.sums t l).a), .int .u64 (Mu.sums t l).w, .int .i64 (Mu.sums t l).n] 36)
        replace HO2 := hid ((HO2.out.below hb).below ha)
        have HC2 := hid (((HQ.out.1.below HB.out).below hb).below ha)
        have HR2 := hid ((HR1.out.below hb).below ha)
        have HB2 := hid (below_on (below_on (below_on HQ.out.2 HB.out) hb) ha)
        have HV2 : Hid (Cs (w2.alloc (.cells #[.int .u64 (Mu.sums t l).b, .int .i64 (hiW (Mu.sums t l).a), .int .u64 (loW (Mu.sums t l).a), .int .u64 (Mu.sums t l).w, .int .i64 (Mu.sums t l).n] 36)) w2.heap.size (Mu.sums t l).cells) := hid (Cs.alloc_new6 w2 36 (Mu.sums t l).cells)
        clear ha hb HQ HB HR1
        obtain ⟨m0, m1, m2, m3, m4⟩ := Mu.at m HC2.out
        go_wp2_with fail
        clear m0 m1 m2 m3 m4
        refine (Lag.owed m HM.out A k c l _ HR2.out HL.out (by omega)).mono ?_
        rintro e w3 ⟨A3, n3, c3, B3, rfl, ho, hb⟩
        have HO3 := hid ho
        replace HO2 := hid (HO2.out.below hb)
        replace HC2 := hid (HC2.out.below hb)
        replace HR2 := hid (HR2.out.below hb)
        replace HB2 := hid (below_on HB2.out hb)
        replace HV2 := hid (HV2.out.below hb)
        clear ho hb
        go_wp2_with fail
        refine (Sls.equal A3 A' n3 c3 n' c' _ _ _ HO3.out.1.rdi HO2.out.rdi HO3.out.2 (by omega)).mono ?_
        rw [HEQ.out]
        rintro e w4 ⟨rfl, hb⟩
        replace HC2 := hid (HC2.out.below hb)
        replace HR2 := hid (HR2.out.below hb)
        replace HB2 := hid (below_on HB2.out hb)
        replace HV2 := hid (HV2.out.below hb)
        clear hb HO2 HO3
        obtain ⟨m0, m1, m2, m3, m4⟩ := Mu.at m HC2.out
        obtain ⟨v0, v1, v2, v3, v4⟩ := Mu.at (Mu.sums t l) HV2.out
        go_wp2_with fail
        clear m0 m1 m2 m3 m4 v0 v1 v2 v3 v4
        refine (Lag.owed (Mu.sums t l) HI1.out A k c l _ HR2.out HL.out (by omega)).mono ?_
        rintro e w5 ⟨A5, n5, c5, B5, rfl, ho, hb⟩
        have h5 : 0 < n5 := by
          rcases Nat.eq_zero_or_pos n5 with h | h
          · exact absurd (List.eq_nil_of_length_eq_zero (ho.1.len.trans h)) HPO.out
          · exact h
        have h5i : (0 : Int) < (n5 : Int) := by omega
        replace HC2 := hid (HC2.out.below hb)
        replace HB2 := hid (below_on HB2.out hb)
        clear hb ho HV2
        obtain ⟨m0, m1, m2, m3, m4⟩ := Mu.at m HC2.out
        go_wp2_with fail
        clear m0 m1 m2 m3 m4
        refine (Lag.owed m HM.out none 0 0 [] _ (RdP.nil _) (by simp) (by omega)).mono ?_
        rintro e w6 ⟨A6, n6, c6, B6, rfl, ho, hb⟩
        obtain rfl : n6 = 0 := by have := ho.1.len; simpa [owdP] using this.symm
        replace HB2 := hid (below_on HB2.out hb)
        clear hb ho
        go_wp2_with fail
        go_ret
        exact ⟨by first | rfl | simp, HB2.out⟩
set_option maxRecDepth 100000 in
set_option maxHeartbeats 32000000 in
theorem Lowed.near0 (m : Mu) (hm : m.In) (t : Int) (ht : IsT t) (A : Option Addr) (n c : Nat) (l : List P3) (w : World) (hr : RdP w A n l) (hl : ∀ q ∈ l, PIn q) (h40 : n ≤ 40) (hn : ¬ m.n < 0) (hn2 : ¬ 1000 < m.n) (h0 : 0 < n) (h32 : n ≤ 32) (htab : Tab10 w.heap.size w) : Calls Tryz.prog 6 #[m.val, .int .u64 t, .slice A n c] w (Ans (.bool true) w) := by
  have HT := hid htab
  have HM := hid hm
  have HR := hid hr
  have HL := hid hl
  have HTT := hid ht
  have HLN := hid hr.1
  have h2 : ¬ (40 : Int) < (n : Int) := by omega
  have HQ : Hid (Cs (w.alloc (.cells #[.int .u64 m.b, .int .i64 (hiW m.a), .int .u64 (loW m.a), .int .u64 m.w, .int .i64 m.n] 36)) w.heap.size m.cells ∧ Below w.heap.size w (w.alloc (.cells #[.int .u64 m.b, .int .i64 (hiW m.a), .int .u64 (loW m.a), .int .u64 m.w, .int .i64 m.n] 36))) := hid ⟨Cs.alloc_new6 w 36 m.cells, (Below.refl w.heap.size w).alloc (Nat.le_refl _) _⟩
  have hz : (0 : Int) < (n : Int) := by omega
  have hy : (n : Int) ≤ 32 := by omega
  clear hr hl hm ht htab
  unfold Mu.val
  go_enter Tryz.func6, Tryz.ntmps6
  go_wp2_with fail
  generalize (w.alloc (.cells #[.int .u64 m.b, .int .i64 (hiW m.a), .int .u64 (loW m.a), .int .u64 m.w, .int .i64 m.n] 36)) = W0 at HQ ⊢
  refine (Law9.awake _ (HT.out.at2 HQ.out.2)).mono ?_
  rintro e w1 ⟨rfl, hb⟩
  replace HQ := hid (And.intro (HQ.out.1.below hb) (below_on HQ.out.2 hb))
  clear hb HT
  obtain ⟨m0, m1, m2, m3, m4⟩ := Mu.at m HQ.out.1
  go_wp2_with fail
  clear m0 m1 m2 m3 m4
  go_loopg [7, 8, 41] n (fun s a b i wr => ∃ (k : Nat) (A' : Option Addr) (n' c' : Nat) (nr : Bool), i = .int .i64 k ∧ a = .slice A' n' c' ∧ b = .bool nr ∧ k ≤ n ∧ s = n - k ∧ (Own wr w1.heap.size A' n' c' (owdP m l k) ∧ n' ≤ k) ∧ (nr = true → (0 < n ∧ n ≤ 32) ∧ ∀ p ∈ l.take k, NrP 1152921504606846976 t p) ∧ Below w1.heap.size w1 wr)
  case atStart => exact ⟨0, none, 0, 0, true, rfl, rfl, (by first | rfl | simp [hy]), Nat.zero_le _, by omega, ⟨Own.nil _ _, Nat.le_refl _⟩, (fun _ => ⟨⟨by omega, by omega⟩, by simp⟩), Below.refl _ _⟩
  case round =>
    obtain ⟨k, A', n', c', nr, rfl, rfl, rfl, hk, hs, ho, hnr, hb⟩ := hrel
    have HS := hid hs
    have HO := hid ho
    have HNR := hid hnr
    have HB := hid hb
    have hnk := ho.2
    clear hs ho hnr hb
    by_cases hkn : k < n
    · obtain ⟨bb, off, hA, _, hc⟩ := (HR.out.below (below_on HQ.out.2 HB.out)).2 0 (by omega)
      obtain ⟨p0, p1, p2⟩ := hc k hkn
      have hkl : k < l.length := by have := HLN.out; omega
      have HX := hid (HL.out _ (getD_mem hkl))
      have HNK : Hid (NrP 1152921504606846976 t (l.getD k (0, 0, 0)) → (∀ p ∈ l.take k, NrP 1152921504606846976 t p) → ∀ p ∈ l.take (k + 1), NrP 1152921504606846976 t p) := hid (fun hx h1 => mem_take1 hkl h1 hx)
      have HYS := hid (fun h => owdP_yes (m := m) (l := l) (k := k) h)
      have HNO := hid (fun h => owdP_no (m := m) (l := l) (k := k) h)
      subst hA
      have hki : (k : Int) < n := by omega
      clear hc hkl
      generalize l.getD k (0, 0, 0) = x at *
      have ha := (Below.refl wr.heap.size wr).alloc (Nat.le_refl _) (.cells #[.int .u64 x.1, .int .u32 x.2.1, .int .u32 x.2.2] 29)
      have HQ7 : Hid ((Cs (wr.alloc (.cells #[.int .u64 x.1, .int .u32 x.2.1, .int .u32 x.2.2] 29)) w.heap.size m.cells ∧ Cs (wr.alloc (.cells #[.int .u64 x.1, .int .u32 x.2.1, .int .u32 x.2.2] 29)) wr.heap.size (pcells x)) ∧ Below (wr.alloc (.cells #[.int .u64 x.1, .int .u32 x.2.1, .int .u32 x.2.2] 29)).heap.size (wr.alloc (.cells #[.int .u64 x.1, .int .u32 x.2.1, .int .u32 x.2.2] 29)) (wr.alloc (.cells #[.int .u64 x.1, .int .u32 x.2.1, .int .u32 x.2.2] 29))) := hid ⟨⟨((HQ.out.1.below HB.out).below ha), Cs.alloc_new6 wr 29 (pcells x)⟩, Below.refl _ _⟩
      have HGP : Hid (w.heap.size < (wr.alloc (.cells #[.int .u64 x.1, .int .u32 x.2.1, .int .u32 x.2.2] 29)).heap.size ∧ wr.heap.size < (wr.alloc (.cells #[.int .u64 x.1, .int .u32 x.2.1, .int .u32 x.2.2] 29)).heap.size) := hid ⟨by have := HQ.out.1.lt; have := HB.out.size; simp; omega, by simp⟩
      have HNE := hid HO.out.1.notRow
      have HO1 := hid (HO.out.1.below ha)
      have HB1 := hid (below_on HB.out ha)
      clear ha HO HB
      obtain ⟨K, o, hov⟩ : ∃ K o, m.over x = (K, o) := ⟨_, _, rfl⟩
      have HOV := hid hov
      clear hov
      go_wp2_with fail
      clear p0 p1 p2
      generalize wr.alloc (.cells #[.int .u64 x.1, .int .u32 x.2.1, .int .u32 x.2.2] 29) = Wa at HQ7 HGP HO1 HB1 ⊢
      generalize wr.heap.size = gp at HQ7 HGP HNE ⊢
      cases K with
      | false =>
        have hsT5 : Stays (fun wx => (Cs wx w.heap.size m.cells ∧ Cs wx gp (pcells x)) ∧ Below Wa.heap.size Wa wx) := fun _ _ h hb => ⟨⟨h.1.1.below hb, h.1.2.below hb⟩, below_on h.2 hb⟩
        refine wp_region_grow (S := fun wx => (Cs wx w.heap.size m.cells ∧ Cs wx gp (pcells x)) ∧ Below Wa.heap.size Wa wx) 11 (by kernel_rfl) (hsT5 _ _ (HQ7.out) (Below.refl _ _).drew) ?_
        refine wpAnyE_take (i := 0) (v := ?_) (hsT5) (fun _ h => h) rfl (by kernel_rfl) (by kernel_rfl) (by kernel_rfl) (by kernel_rfl) (fun _ _ _ h => h) (SteadyB.of_yields (Or.inl ⟨by rfl, ?_⟩)) ?_
        rotate_left
        · intro wq hSw
          obtain ⟨m0, m1, m2, m3, m4⟩ := Mu.at m hSw.1.1
          obtain ⟨q0, q1, q2⟩ := P3.at x hSw.1.2
          go_simp
          (try with_reducible rfl)
        try simp only [List.getElem_toArray, List.getElem_cons_zero, List.getElem_cons_succ, Act.put, List.setIfInBounds_toArray, List.set_cons_zero, List.set_cons_succ]
        refine wpAnyE_take (i := 2) (v := ?_) (hsT5) (fun _ h => h) rfl (by kernel_rfl) (by kernel_rfl) (by kernel_rfl) (by kernel_rfl) (fun _ _ _ h => h) (SteadyB.of_yields (Or.inl ⟨by rfl, ?_⟩)) ?_
        rotate_left
        · intro wq hSw
          obtain ⟨m0, m1, m2, m3, m4⟩ := Mu.at m hSw.1.1
          obtain ⟨q0, q1, q2⟩ := P3.at x hSw.1.2
          go_simp
          (try with_reducible rfl)
        try simp only [List.getElem_toArray, List.getElem_cons_zero, List.getElem_cons_succ, Act.put, List.setIfInBounds_toArray, List.set_cons_zero, List.set_cons_succ]
        refine wpF.fst (j := 8) (dst := some 11) (T := fun wx g => Var wx g false none 0 0 ∧ Wa.heap.size ≤ g) ?_
        refine wpF_call (k := 1) _ (fun x => rmV m x) (bqR 18 m.a) rfl rfl rfl (Or.inl (by kernel_rfl)) (by kernel_rfl) (by decide) (by decide) (by decide) (by kernel_rfl) (by intro cs b h; cases h) (by rfl) (fun _ => rfl) (hsT5) (fun _ h => h) (fun g => fun _ _ h hb => ⟨h.1.below hb, h.2⟩) (fun yq => bqR.stays 18 m.a yq) (fun aq wq hSw => ?_) (fun wq hSw => ?_) (fun yq => ?_)
        · (first | exact ⟨_, by go_simp; (try with_reducible rfl), (Below.refl _ _).alloc (Nat.le_refl _) _, Var.new _ _ _ _ _ _, hSw.2.size⟩ | exact ⟨_, by go_simp; (try with_reducible rfl), (Below.refl _ _).alloc (Nat.le_refl _) _, Var.new _ _ _ _ _ _, hSw.1.2.size⟩ | exact ⟨_, by go_simp; (try with_reducible rfl), (Below.refl _ _).alloc (Nat.le_refl _) _, Var.new _ _ _ _ _ _, hSw.1.1.2.size⟩ | exact ⟨_, by go_simp; (try with_reducible rfl), (Below.refl _ _).alloc (Nat.le_refl _) _, Var.new _ _ _ _ _ _, hSw.1.1.1.2.size⟩)
        · exact RunI.of_calls (Law8.of m HM.out wq) (by go_simp) (fun e w' h => h)
        obtain ⟨s1, A1, n1, c1⟩ := yq
        dsimp only [bqV, bqR]
        try simp only [List.getElem_toArray, List.getElem_cons_zero, List.getElem_cons_succ, Act.put, List.setIfInBounds_toArray, List.set_cons_zero, List.set_cons_succ]
        refine wpF_take (k := 3) (v := pv x) _ rfl rfl rfl (by decide) (Stays.and_ (hsT5) (bqR.stays 18 m.a (s1, A1, n1, c1))) (fun _ h => h.1) (fun g => fun _ _ h hb => ⟨h.1.below hb, h.2⟩) (by kernel_rfl) (by kernel_rfl) (by kernel_rfl) (by kernel_rfl) (by kernel_rfl) (by kernel_rfl) (by kernel_rfl) (by kernel_rfl) (by intro cs b h; cases h) (fun _ _ _ h => h) (Or.inl ⟨by rfl, fun wq hSw => ?_⟩) ?_
        · refine RunB.of_calls (Law4.of x.1 x.2.1 x.2.2 wq) (by go_simp) ?_
          rintro e wr ⟨rfl, hb⟩
          exact ⟨rfl, hb⟩
        try simp only [List.getElem_toArray, List.getElem_cons_zero, List.getElem_cons_succ, Act.put, List.setIfInBounds_toArray, List.set_cons_zero, List.set_cons_succ]
        refine wpF_call (k := 4) _ (fun x => .tuple #[bqV x, .bool false]) (bqR 84 o) rfl rfl rfl (Or.inl (by kernel_rfl)) (by kernel_rfl) (by decide) (by decide) (by decide) (by kernel_rfl) (by intro cs b h; cases h) (by rfl) (fun _ => rfl) (Stays.and_ (hsT5) (bqR.stays 18 m.a (s1, A1, n1, c1))) (fun _ h => h.1) (fun g => fun _ _ h hb => ⟨h.1.below hb, h.2⟩) (fun yq => bqR.stays 84 o yq) (fun aq wq hSw => ?_) (fun wq hSw => ?_) (fun yq => ?_)
        · (first | exact ⟨_, by go_simp; (try with_reducible rfl), (Below.refl _ _).alloc (Nat.le_refl _) _, Var.new _ _ _ _ _ _, hSw.2.size⟩ | exact ⟨_, by go_simp; (try with_reducible rfl), (Below.refl _ _).alloc (Nat.le_refl _) _, Var.new _ _ _ _ _ _, hSw.1.2.size⟩ | exact ⟨_, by go_simp; (try with_reducible rfl), (Below.refl _ _).alloc (Nat.le_refl _) _, Var.new _ _ _ _ _ _, hSw.1.1.2.size⟩ | exact ⟨_, by go_simp; (try with_reducible rfl), (Below.refl _ _).alloc (Nat.le_refl _) _, Var.new _ _ _ _ _ _, hSw.1.1.1.2.size⟩)
        · exact RunI.of_calls (Ref9.over m (s1, A1, n1, c1) x HM.out HX.out wq hSw.2) (by go_simp) (fun e w' h => by rw [HOV.out] at h; exact h)
        obtain ⟨s2, A2, n2, c2⟩ := yq
        dsimp only [bqV, bqR]
        try simp only [List.getElem_toArray, List.getElem_cons_zero, List.getElem_cons_succ, Act.put, List.setIfInBounds_toArray, List.set_cons_zero, List.set_cons_succ]
        refine wpF_take (k := 5) (v := ?_) _ rfl rfl rfl (by decide) (Stays.and_ (Stays.and_ (hsT5) (bqR.stays 18 m.a (s1, A1, n1, c1))) (bqR.stays 84 o (s2, A2, n2, c2))) (fun _ h => h.1.1) (fun g => fun _ _ h hb => ⟨h.1.below hb, h.2⟩) (by kernel_rfl) (by kernel_rfl) (by kernel_rfl) (by kernel_rfl) (by kernel_rfl) (by kernel_rfl) (by kernel_rfl) (by kernel_rfl) (by intro cs b h; cases h) (fun _ _ _ h => h) (SteadyB.of_yields (Or.inl ⟨by rfl, ?_⟩)) ?_
        rotate_left
        · intro wq hSw
          go_simp
          (try with_reducible rfl)
        try simp only [List.getElem_toArray, List.getElem_cons_zero, List.getElem_cons_succ, Act.put, List.setIfInBounds_toArray, List.set_cons_zero, List.set_cons_succ]
        refine wpF_take (k := 6) (v := ?_) _ rfl rfl rfl (by decide) (Stays.and_ (Stays.and_ (hsT5) (bqR.stays 18 m.a (s1, A1, n1, c1))) (bqR.stays 84 o (s2, A2, n2, c2))) (fun _ h => h.1.1) (fun g => fun _ _ h hb => ⟨h.1.below hb, h.2⟩) (by kernel_rfl) (by kernel_rfl) (by kernel_rfl) (by kernel_rfl) (by kernel_rfl) (by kernel_rfl) (by kernel_rfl) (by kernel_rfl) (by intro cs b h; cases h) (fun _ _ _ h => h) (SteadyB.of_yields (Or.inl ⟨by rfl, ?_⟩)) ?_
        rotate_left
        · intro wq hSw
          go_simp
          (try with_reducible rfl)
        try simp only [List.getElem_toArray, List.getElem_cons_zero, List.getElem_cons_succ, Act.put, List.setIfInBounds_toArray, List.set_cons_zero, List.set_cons_succ]
        refine wpF_take (k := 7) (v := ?_) _ rfl rfl rfl (by decide) (Stays.and_ (Stays.and_ (hsT5) (bqR.stays 18 m.a (s1, A1, n1, c1))) (bqR.stays 84 o (s2, A2, n2, c2))) (fun _ h => h.1.1) (fun g => fun _ _ h hb => ⟨h.1.below hb, h.2⟩) (by kernel_rfl) (by kernel_rfl) (by kernel_rfl) (by kernel_rfl) (by kernel_rfl) (by kernel_rfl) (by kernel_rfl) (by kernel_rfl) (by intro cs b h; cases h) (fun _ _ _ h => h) (SteadyB.of_yields (Or.inl ⟨by rfl, ?_⟩)) ?_
        rotate_left
        · intro wq hSw
          go_simp
          (try with_reducible rfl)
        try simp only [List.getElem_toArray, List.getElem_cons_zero, List.getElem_cons_succ, Act.put, List.setIfInBounds_toArray, List.set_cons_zero, List.set_cons_succ]
        refine wpF_done _ rfl rfl (by kernel_rfl) (by decide) (by rfl) (Stays.and_ (Stays.and_ (hsT5) (bqR.stays 18 m.a (s1, A1, n1, c1))) (bqR.stays 84 o (s2, A2, n2, c2))) (fun _ h => h.1.1) (fun g => fun _ _ h hb => ⟨h.1.below hb, h.2⟩) (fun wq hSw => ?_) (fun gA => ?_)
        · (first | exact ⟨_, by go_simp; (try with_reducible rfl), (Below.refl _ _).alloc (Nat.le_refl _) _, Var.new _ _ _ _ _ _, hSw.2.size⟩ | exact ⟨_, by go_simp; (try with_reducible rfl), (Below.refl _ _).alloc (Nat.le_refl _) _, Var.new _ _ _ _ _ _, hSw.1.2.size⟩ | exact ⟨_, by go_simp; (try with_reducible rfl), (Below.refl _ _).alloc (Nat.le_refl _) _, Var.new _ _ _ _ _ _, hSw.1.1.2.size⟩ | exact ⟨_, by go_simp; (try with_reducible rfl), (Below.refl _ _).alloc (Nat.le_refl _) _, Var.new _ _ _ _ _ _, hSw.1.1.1.2.size⟩)
        try simp only [List.getElem_toArray, List.getElem_cons_zero, List.getElem_cons_succ, Act.put, List.setIfInBounds_toArray, List.set_cons_zero, List.set_cons_succ]
        refine wpAnyE_store (i := 9) (fun wx => (fun wx => (Cs wx w.heap.size m.cells ∧ Cs wx gp (pcells x)) ∧ Below Wa.heap.size Wa wx) wx ∧ ((Var wx gA s2 A2 n2 c2 ∧ IsB wx 84 s2 A2 n2 c2 o) ∧ Wa.heap.size ≤ gA)) 41 [.bool s2, .slice A2 n2 c2] [.bool false, .slice none 0 0] gA infoBig (.tmp 11) (.tmp 52) rfl rfl (by kernel_rfl) (by decide) (by rfl) ?sv6a ?sv6b ?sv6c ?sv6d ?sv6e (fun _ h => h.2.1.cs) (fun _ h => ⟨⟨⟨h.1.1.1.1.1.fars (by have := HGP.out; have := h.2.2; omega) _ _, h.1.1.1.1.2.fars (by have := HGP.out; have := h.2.2; omega) _ _⟩, below_sets (by have := h.2.2; omega) _ _ h.1.1.1.2⟩, ⟨h.2.1.sets s2 A2 n2 c2, h.1.2.sets h.2.1.2.2.2.2 0 _⟩, h.2.2⟩) (fun _ h => h.1) ((fun _ _ h hb => ⟨⟨⟨h.1.1.1.below hb, h.1.1.2.below hb⟩, below_on h.1.2 hb⟩, ⟨h.2.1.1.below hb, h.2.1.2.below hb⟩, h.2.2⟩)) ?sv6f
        case sv6a => rfl
        case sv6b => rfl
        case sv6c => rfl
        case sv6d => rfl
        case sv6e => rfl
        try simp only [List.getElem_toArray, List.getElem_cons_zero, List.getElem_cons_succ, Act.put, List.setIfInBounds_toArray, List.set_cons_zero, List.set_cons_succ]
        refine wpAnyE_take (i := 10) (v := ?_) ((fun _ _ h hb => ⟨⟨⟨h.1.1.1.below hb, h.1.1.2.below hb⟩, below_on h.1.2 hb⟩, ⟨h.2.1.1.below hb, h.2.1.2.below hb⟩, h.2.2⟩)) (fun _ h => h.1) rfl (by kernel_rfl) (by kernel_rfl) (by kernel_rfl) (by kernel_rfl) (fun _ _ _ h => h) (SteadyB.of_yields (Or.inl ⟨by rfl, ?_⟩)) ?_
        rotate_left
        · intro wq hSw
          go_simp
          (try with_reducible rfl)
        try simp only [List.getElem_toArray, List.getElem_cons_zero, List.getElem_cons_succ, Act.put, List.setIfInBounds_toArray, List.set_cons_zero, List.set_cons_succ]
        refine wpAnyE_done (by kernel_rfl) (fun wz hSz => ?_) _
        have HQ9 := hid hSz
        clear hSz HQ7
        have HE := hid (HNO.out (by unfold Mu.elig; rw [HOV.out]; rfl))
        clear HYS HNO HOV
        have HO8 := hid (HO1.out.below HQ9.out.1.2)
        have HB8 := hid (below_on HB1.out HQ9.out.1.2)
        have HP8 := hid (PC.of HQ9.out.1.1.2)
        clear HQ9 HO1 HB1
        obtain ⟨q0, q1, q2⟩ := HP8.out
        go_wp2_with fail
        clear q0 q1 q2
        refine (Vtime.since x.1 t _).mono ?_
        rintro e w9 ⟨rfl, hb⟩
        have HO9 := hid (HO8.out.below hb)
        have HB9 := hid (below_on HB8.out hb)
        have HP9 := hid (HP8.out.below hb)
        clear hb HO8 HB8 HP8
        cases nr with
        | false =>
          go_wp2_with fail
          go_roundg (n - (k + 1))
          case measure => have := HS.out; omega
          case rel => exact ⟨k + 1, A', n', c', false, by go_num, rfl, (by first | rfl | simp [g2] | simp [g1]), by omega, rfl, ⟨by rw [HE.out]; exact HO9.out, by omega⟩, (fun h => by cases h), HB9.out⟩
        | true =>
          obtain ⟨q0, q1, q2⟩ := HP9.out
          go_wp2_with fail
          clear q0 q1 q2
          refine (Pos.rightF x _).mono ?_
          rintro e w10 ⟨rfl, hb⟩
          replace HO9 := hid (HO9.out.below hb)
          replace HB9 := hid (below_on HB9.out hb)
          clear hb HP9
          cases hpr : pR x with
          | false =>
            go_wp2_with fail
            go_roundg (n - (k + 1))
            case measure => have := HS.out; omega
            case rel => exact ⟨k + 1, A', n', c', false, by go_num, rfl, (by first | rfl | simp [g2] | simp [g1]), by omega, rfl, ⟨by rw [HE.out]; exact HO9.out, by omega⟩, (fun h => by cases h), HB9.out⟩
          | true =>
            have HPR := hid hpr
            clear hpr
            by_cases g1 : -1152921504606846976 < dif x.1 t
            · by_cases g2 : dif x.1 t < 1152921504606846976
              · have HN := hid (HNK.out ⟨⟨HPR.out, HX.out⟩, g1, g2⟩ (HNR.out (by trivial)).2)
                go_wp2_with fail
                go_roundg (n - (k + 1))
                case measure => have := HS.out; omega
                case rel => exact ⟨k + 1, A', n', c', true, by go_num, rfl, (by first | rfl | simp [g2] | simp [g1]), by omega, rfl, ⟨by rw [HE.out]; exact HO9.out, by omega⟩, (fun _ => ⟨(HNR.out (by trivial)).1, HN.out⟩), HB9.out⟩
              · skip
                go_wp2_with fail
                go_roundg (n - (k + 1))
                case measure => have := HS.out; omega
                case rel => exact ⟨k + 1, A', n', c', false, by go_num, rfl, (by first | rfl | simp [g2] | simp [g1]), by omega, rfl, ⟨by rw [HE.out]; exact HO9.out, by omega⟩, (fun h => by cases h), HB9.out⟩
            · skip
              go_wp2_with fail
              go_roundg (n - (k + 1))
              case measure => have := HS.out; omega
              case rel => exact ⟨k + 1, A', n', c', false, by go_num, rfl, (by first | rfl | simp [g2] | simp [g1]), by omega, rfl, ⟨by rw [HE.out]; exact HO9.out, by omega⟩, (fun h => by cases h), HB9.out⟩
      | true =>
        have hsT7 : Stays (fun wx => (Cs wx w.heap.size m.cells ∧ Cs wx gp (pcells x)) ∧ Below Wa.heap.size Wa wx) := fun _ _ h hb => ⟨⟨h.1.1.below hb, h.1.2.below hb⟩, below_on h.2 hb⟩
        refine wp_region_grow (S := fun wx => (Cs wx w.heap.size m.cells ∧ Cs wx gp (pcells x)) ∧ Below Wa.heap.size Wa wx) 11 (by kernel_rfl) (hsT7 _ _ (HQ7.out) (Below.refl _ _).drew) ?_
        refine wpAnyE_take (i := 0) (v := ?_) (hsT7) (fun _ h => h) rfl (by kernel_rfl) (by kernel_rfl) (by kernel_rfl) (by kernel_rfl) (fun _ _ _ h => h) (SteadyB.of_yields (Or.inl ⟨by rfl, ?_⟩)) ?_
        rotate_left
        · intro wq hSw
          obtain ⟨m0, m1, m2, m3, m4⟩ := Mu.at m hSw.1.1
          obtain ⟨q0, q1, q2⟩ := P3.at x hSw.1.2
          go_simp
          (try with_reducible rfl)
        try simp only [List.getElem_toArray, List.getElem_cons_zero, List.getElem_cons_succ, Act.put, List.setIfInBounds_toArray, List.set_cons_zero, List.set_cons_succ]
        refine wpAnyE_take (i := 2) (v := ?_) (hsT7) (fun _ h => h) rfl (by kernel_rfl) (by kernel_rfl) (by kernel_rfl) (by kernel_rfl) (fun _ _ _ h => h) (SteadyB.of_yields (Or.inl ⟨by rfl, ?_⟩)) ?_
        rotate_left
        · intro wq hSw
          obtain ⟨m0, m1, m2, m3, m4⟩ := Mu.at m hSw.1.1
          obtain ⟨q0, q1, q2⟩ := P3.at x hSw.1.2
          go_simp
          (try with_reducible rfl)
        try simp only [List.getElem_toArray, List.getElem_cons_zero, List.getElem_cons_succ, Act.put, List.setIfInBounds_toArray, List.set_cons_zero, List.set_cons_succ]
        refine wpF.fst (j := 8) (dst := some 11) (T := fun wx g => Var wx g false none 0 0 ∧ Wa.heap.size ≤ g) ?_
        refine wpF_call (k := 1) _ (fun x => rmV m x) (bqR 18 m.a) rfl rfl rfl (Or.inl (by kernel_rfl)) (by kernel_rfl) (by decide) (by decide) (by decide) (by kernel_rfl) (by intro cs b h; cases h) (by rfl) (fun _ => rfl) (hsT7) (fun _ h => h) (fun g => fun _ _ h hb => ⟨h.1.below hb, h.2⟩) (fun yq => bqR.stays 18 m.a yq) (fun aq wq hSw => ?_) (fun wq hSw => ?_) (fun yq => ?_)
        · (first | exact ⟨_, by go_simp; (try with_reducible rfl), (Below.refl _ _).alloc (Nat.le_refl _) _, Var.new _ _ _ _ _ _, hSw.2.size⟩ | exact ⟨_, by go_simp; (try with_reducible rfl), (Below.refl _ _).alloc (Nat.le_refl _) _, Var.new _ _ _ _ _ _, hSw.1.2.size⟩ | exact ⟨_, by go_simp; (try with_reducible rfl), (Below.refl _ _).alloc (Nat.le_refl _) _, Var.new _ _ _ _ _ _, hSw.1.1.2.size⟩ | exact ⟨_, by go_simp; (try with_reducible rfl), (Below.refl _ _).alloc (Nat.le_refl _) _, Var.new _ _ _ _ _ _, hSw.1.1.1.2.size⟩)
        · exact RunI.of_calls (Law8.of m HM.out wq) (by go_simp) (fun e w' h => h)
        obtain ⟨s1, A1, n1, c1⟩ := yq
        dsimp only [bqV, bqR]
        try simp only [List.getElem_toArray, List.getElem_cons_zero, List.getElem_cons_succ, Act.put, List.setIfInBounds_toArray, List.set_cons_zero, List.set_cons_succ]
        refine wpF_take (k := 3) (v := pv x) _ rfl rfl rfl (by decide) (Stays.and_ (hsT7) (bqR.stays 18 m.a (s1, A1, n1, c1))) (fun _ h => h.1) (fun g => fun _ _ h hb => ⟨h.1.below hb, h.2⟩) (by kernel_rfl) (by kernel_rfl) (by kernel_rfl) (by kernel_rfl) (by kernel_rfl) (by kernel_rfl) (by kernel_rfl) (by kernel_rfl) (by intro cs b h; cases h) (fun _ _ _ h => h) (Or.inl ⟨by rfl, fun wq hSw => ?_⟩) ?_
        · refine RunB.of_calls (Law4.of x.1 x.2.1 x.2.2 wq) (by go_simp) ?_
          rintro e wr ⟨rfl, hb⟩
          exact ⟨rfl, hb⟩
        try simp only [List.getElem_toArray, List.getElem_cons_zero, List.getElem_cons_succ, Act.put, List.setIfInBounds_toArray, List.set_cons_zero, List.set_cons_succ]
        refine wpF_call (k := 4) _ (fun x => .tuple #[bqV x, .bool true]) (bqR 84 o) rfl rfl rfl (Or.inl (by kernel_rfl)) (by kernel_rfl) (by decide) (by decide) (by decide) (by kernel_rfl) (by intro cs b h; cases h) (by rfl) (fun _ => rfl) (Stays.and_ (hsT7) (bqR.stays 18 m.a (s1, A1, n1, c1))) (fun _ h => h.1) (fun g => fun _ _ h hb => ⟨h.1.below hb, h.2⟩) (fun yq => bqR.stays 84 o yq) (fun aq wq hSw => ?_) (fun wq hSw => ?_) (fun yq => ?_)
        · (first | exact ⟨_, by go_simp; (try with_reducible rfl), (Below.refl _ _).alloc (Nat.le_refl _) _, Var.new _ _ _ _ _ _, hSw.2.size⟩ | exact ⟨_, by go_simp; (try with_reducible rfl), (Below.refl _ _).alloc (Nat.le_refl _) _, Var.new _ _ _ _ _ _, hSw.1.2.size⟩ | exact ⟨_, by go_simp; (try with_reducible rfl), (Below.refl _ _).alloc (Nat.le_refl _) _, Var.new _ _ _ _ _ _, hSw.1.1.2.size⟩ | exact ⟨_, by go_simp; (try with_reducible rfl), (Below.refl _ _).alloc (Nat.le_refl _) _, Var.new _ _ _ _ _ _, hSw.1.1.1.2.size⟩)
        · exact RunI.of_calls (Ref9.over m (s1, A1, n1, c1) x HM.out HX.out wq hSw.2) (by go_simp) (fun e w' h => by rw [HOV.out] at h; exact h)
        obtain ⟨s2, A2, n2, c2⟩ := yq
        dsimp only [bqV, bqR]
        try simp only [List.getElem_toArray, List.getElem_cons_zero, List.getElem_cons_succ, Act.put, List.setIfInBounds_toArray, List.set_cons_zero, List.set_cons_succ]
        refine wpF_take (k := 5) (v := ?_) _ rfl rfl rfl (by decide) (Stays.and_ (Stays.and_ (hsT7) (bqR.stays 18 m.a (s1, A1, n1, c1))) (bqR.stays 84 o (s2, A2, n2, c2))) (fun _ h => h.1.1) (fun g => fun _ _ h hb => ⟨h.1.below hb, h.2⟩) (by kernel_rfl) (by kernel_rfl) (by kernel_rfl) (by kernel_rfl) (by kernel_rfl) (by kernel_rfl) (by kernel_rfl) (by kernel_rfl) (by intro cs b h; cases h) (fun _ _ _ h => h) (SteadyB.of_yields (Or.inl ⟨by rfl, ?_⟩)) ?_
        rotate_left
        · intro wq hSw
          go_simp
          (try with_reducible rfl)
        try simp only [List.getElem_toArray, List.getElem_cons_zero, List.getElem_cons_succ, Act.put, List.setIfInBounds_toArray, List.set_cons_zero, List.set_cons_succ]
        refine wpF_take (k := 6) (v := ?_) _ rfl rfl rfl (by decide) (Stays.and_ (Stays.and_ (hsT7) (bqR.stays 18 m.a (s1, A1, n1, c1))) (bqR.stays 84 o (s2, A2, n2, c2))) (fun _ h => h.1.1) (fun g => fun _ _ h hb => ⟨h.1.below hb, h.2⟩) (by kernel_rfl) (by kernel_rfl) (by kernel_rfl) (by kernel_rfl) (by kernel_rfl) (by kernel_rfl) (by kernel_rfl) (by kernel_rfl) (by intro cs b h; cases h) (fun _ _ _ h => h) (SteadyB.of_yields (Or.inl ⟨by rfl, ?_⟩)) ?_
        rotate_left
        · intro wq hSw
          go_simp
          (try with_reducible rfl)
        try simp only [List.getElem_toArray, List.getElem_cons_zero, List.getElem_cons_succ, Act.put, List.setIfInBounds_toArray, List.set_cons_zero, List.set_cons_succ]
        refine wpF_take (k := 7) (v := ?_) _ rfl rfl rfl (by decide) (Stays.and_ (Stays.and_ (hsT7) (bqR.stays 18 m.a (s1, A1, n1, c1))) (bqR.stays 84 o (s2, A2, n2, c2))) (fun _ h => h.1.1) (fun g => fun _ _ h hb => ⟨h.1.below hb, h.2⟩) (by kernel_rfl) (by kernel_rfl) (by kernel_rfl) (by kernel_rfl) (by kernel_rfl) (by kernel_rfl) (by kernel_rfl) (by kernel_rfl) (by intro cs b h; cases h) (fun _ _ _ h => h) (SteadyB.of_yields (Or.inl ⟨by rfl, ?_⟩)) ?_
        rotate_left
        · intro wq hSw
          go_simp
          (try with_reducible rfl)
        try simp only [List.getElem_toArray, List.getElem_cons_zero, List.getElem_cons_succ, Act.put, List.setIfInBounds_toArray, List.set_cons_zero, List.set_cons_succ]
        refine wpF_done _ rfl rfl (by kernel_rfl) (by decide) (by rfl) (Stays.and_ (Stays.and_ (hsT7) (bqR.stays 18 m.a (s1, A1, n1, c1))) (bqR.stays 84 o (s2, A2, n2, c2))) (fun _ h => h.1.1) (fun g => fun _ _ h hb => ⟨h.1.below hb, h.2⟩) (fun wq hSw => ?_) (fun gA => ?_)
        · (first | exact ⟨_, by go_simp; (try with_reducible rfl), (Below.refl _ _).alloc (Nat.le_refl _) _, Var.new _ _ _ _ _ _, hSw.2.size⟩ | exact ⟨_, by go_simp; (try with_reducible rfl), (Below.refl _ _).alloc (Nat.le_refl _) _, Var.new _ _ _ _ _ _, hSw.1.2.size⟩ | exact ⟨_, by go_simp; (try with_reducible rfl), (Below.refl _ _).alloc (Nat.le_refl _) _, Var.new _ _ _ _ _ _, hSw.1.1.2.size⟩ | exact ⟨_, by go_simp; (try with_reducible rfl), (Below.refl _ _).alloc (Nat.le_refl _) _, Var.new _ _ _ _ _ _, hSw.1.1.1.2.size⟩)
        try simp only [List.getElem_toArray, List.getElem_cons_zero, List.getElem_cons_succ, Act.put, List.setIfInBounds_toArray, List.set_cons_zero, List.set_cons_succ]
        refine wpAnyE_store (i := 9) (fun wx => (fun wx => (Cs wx w.heap.size m.cells ∧ Cs wx gp (pcells x)) ∧ Below Wa.heap.size Wa wx) wx ∧ ((Var wx gA s2 A2 n2 c2 ∧ IsB wx 84 s2 A2 n2 c2 o) ∧ Wa.heap.size ≤ gA)) 41 [.bool s2, .slice A2 n2 c2] [.bool false, .slice none 0 0] gA infoBig (.tmp 11) (.tmp 52) rfl rfl (by kernel_rfl) (by decide) (by rfl) ?sv8a ?sv8b ?sv8c ?sv8d ?sv8e (fun _ h => h.2.1.cs) (fun _ h => ⟨⟨⟨h.1.1.1.1.1.fars (by have := HGP.out; have := h.2.2; omega) _ _, h.1.1.1.1.2.fars (by have := HGP.out; have := h.2.2; omega) _ _⟩, below_sets (by have := h.2.2; omega) _ _ h.1.1.1.2⟩, ⟨h.2.1.sets s2 A2 n2 c2, h.1.2.sets h.2.1.2.2.2.2 0 _⟩, h.2.2⟩) (fun _ h => h.1) ((fun _ _ h hb => ⟨⟨⟨h.1.1.1.below hb, h.1.1.2.below hb⟩, below_on h.1.2 hb⟩, ⟨h.2.1.1.below hb, h.2.1.2.below hb⟩, h.2.2⟩)) ?sv8f
        case sv8a => rfl
        case sv8b => rfl
        case sv8c => rfl
        case sv8d => rfl
        case sv8e => rfl
        try simp only [List.getElem_toArray, List.getElem_cons_zero, List.getElem_cons_succ, Act.put, List.setIfInBounds_toArray, List.set_cons_zero, List.set_cons_succ]
        refine wpAnyE_take (i := 10) (v := ?_) ((fun _ _ h hb => ⟨⟨⟨h.1.1.1.below hb, h.1.1.2.below hb⟩, below_on h.1.2 hb⟩, ⟨h.2.1.1.below hb, h.2.1.2.below hb⟩, h.2.2⟩)) (fun _ h => h.1) rfl (by kernel_rfl) (by kernel_rfl) (by kernel_rfl) (by kernel_rfl) (fun _ _ _ h => h) (SteadyB.of_yields (Or.inl ⟨by rfl, ?_⟩)) ?_
        rotate_left
        · intro wq hSw
          go_simp
          (try with_reducible rfl)
        try simp only [List.getElem_toArray, List.getElem_cons_zero, List.getElem_cons_succ, Act.put, List.setIfInBounds_toArray, List.set_cons_zero, List.set_cons_succ]
        refine wpAnyE_done (by kernel_rfl) (fun wz hSz => ?_) _
        have HQ9 := hid hSz
        clear hSz HQ7
        obtain ⟨o0, o1, o2, o3, _⟩ := HQ9.out.2.1.1
        have ol := HQ9.out.2.1.1.lt
        go_wp2_with fail
        clear o0 o1 o2 o3 ol
        refine (Ref.sign 84 s2 A2 n2 c2 o _ HQ9.out.2.1.2).mono ?_
        rintro e w7 ⟨rfl, hb⟩
        have HO7 := hid (HO1.out.below (below_on HQ9.out.1.2 hb))
        have HB7 := hid (below_on HB1.out (below_on HQ9.out.1.2 hb))
        have HP7 := hid ((PC.of HQ9.out.1.1.2).below hb)
        clear hb HQ9 HO1 HB1
        by_cases c1 : 0 ≤ cmpI o 0
        · have HE := hid (HYS.out (by unfold Mu.elig; rw [HOV.out]; simpa using c1))
          clear HYS HNO HOV
          obtain ⟨q0, q1, q2⟩ := HP7.out
          clear q0 q1 q2
          go_wp2_with (first | (at_builtin; refine wpList_append_int _ rfl (.tmp 60) (.tmp 62) rfl w1.heap.size A' n' c' _ rfl (HO7.out.alloc _) w7.heap.size k rfl (by simp) (by omega) (by simp; have := HB7.out.size; omega) ?_; intro A8 c8 w8 hown hgrow; have HO8 := hid hown; have HP8 := hid (HP7.out.far hgrow HNE.out); have HB8 := hid ((HB7.out.alloc HB7.out.size _).grown hgrow (by simp; have := HB7.out.size; omega) (fun k hk => HO7.out.rowGe k hk)); obtain ⟨r0, r1, r2⟩ := HP8.out; clear hown hgrow))
          clear r0 r1 r2
          refine (Vtime.since x.1 t _).mono ?_
          rintro e w9 ⟨rfl, hb⟩
          have HO9 := hid (HO8.out.below hb)
          have HB9 := hid (below_on HB8.out hb)
          have HP9 := hid (HP8.out.below hb)
          clear hb HO8 HB8 HP8
          cases nr with
          | false =>
            go_wp2_with fail
            go_roundg (n - (k + 1))
            case measure => have := HS.out; omega
            case rel => exact ⟨k + 1, A8, (n' + 1), c8, false, by go_num, rfl, (by first | rfl | simp [g2] | simp [g1]), by omega, rfl, ⟨by rw [HE.out]; exact HO9.out, by omega⟩, (fun h => by cases h), HB9.out⟩
          | true =>
            obtain ⟨q0, q1, q2⟩ := HP9.out
            go_wp2_with fail
            clear q0 q1 q2
            refine (Pos.rightF x _).mono ?_
            rintro e w10 ⟨rfl, hb⟩
            replace HO9 := hid (HO9.out.below hb)
            replace HB9 := hid (below_on HB9.out hb)
            clear hb HP9
            cases hpr : pR x with
            | false =>
              go_wp2_with fail
              go_roundg (n - (k + 1))
              case measure => have := HS.out; omega
              case rel => exact ⟨k + 1, A8, (n' + 1), c8, false, by go_num, rfl, (by first | rfl | simp [g2] | simp [g1]), by omega, rfl, ⟨by rw [HE.out]; exact HO9.out, by omega⟩, (fun h => by cases h), HB9.out⟩
            | true =>
              have HPR := hid hpr
              clear hpr
              by_cases g1 : -1152921504606846976 < dif x.1 t
              · by_cases g2 : dif x.1 t < 1152921504606846976
                · have HN := hid (HNK.out ⟨⟨HPR.out, HX.out⟩, g1, g2⟩ (HNR.out (by trivial)).2)
                  go_wp2_with fail
                  go_roundg (n - (k + 1))
                  case measure => have := HS.out; omega
                  case rel => exact ⟨k + 1, A8, (n' + 1), c8, true, by go_num, rfl, (by first | rfl | simp [g2] | simp [g1]), by omega, rfl, ⟨by rw [HE.out]; exact HO9.out, by omega⟩, (fun _ => ⟨(HNR.out (by trivial)).1, HN.out⟩), HB9.out⟩
                · skip
                  go_wp2_with fail
                  go_roundg (n - (k + 1))
                  case measure => have := HS.out; omega
                  case rel => exact ⟨k + 1, A8, (n' + 1), c8, false, by go_num, rfl, (by first | rfl | simp [g2] | simp [g1]), by omega, rfl, ⟨by rw [HE.out]; exact HO9.out, by omega⟩, (fun h => by cases h), HB9.out⟩
              · skip
                go_wp2_with fail
                go_roundg (n - (k + 1))
                case measure => have := HS.out; omega
                case rel => exact ⟨k + 1, A8, (n' + 1), c8, false, by go_num, rfl, (by first | rfl | simp [g2] | simp [g1]), by omega, rfl, ⟨by rw [HE.out]; exact HO9.out, by omega⟩, (fun h => by cases h), HB9.out⟩
        · have HE := hid (HNO.out (by unfold Mu.elig; rw [HOV.out]; simpa using c1))
          clear HYS HNO HOV
          have HO8 := HO7
          have HB8 := HB7
          have HP8 := HP7
          clear HO7 HB7 HP7
          obtain ⟨q0, q1, q2⟩ := HP8.out
          go_wp2_with fail
          clear q0 q1 q2
          refine (Vtime.since x.1 t _).mono ?_
          rintro e w9 ⟨rfl, hb⟩
          have HO9 := hid (HO8.out.below hb)
          have HB9 := hid (below_on HB8.out hb)
          have HP9 := hid (HP8.out.below hb)
          clear hb HO8 HB8 HP8
          cases nr with
          | false =>
            go_wp2_with fail
            go_roundg (n - (k + 1))
            case measure => have := HS.out; omega
            case rel => exact ⟨k + 1, A', n', c', false, by go_num, rfl, (by first | rfl | simp [g2] | simp [g1]), by omega, rfl, ⟨by rw [HE.out]; exact HO9.out, by omega⟩, (fun h => by cases h), HB9.out⟩
          | true =>
            obtain ⟨q0, q1, q2⟩ := HP9.out
            go_wp2_with fail
            clear q0 q1 q2
            refine (Pos.rightF x _).mono ?_
            rintro e w10 ⟨rfl, hb⟩
            replace HO9 := hid (HO9.out.below hb)
            replace HB9 := hid (below_on HB9.out hb)
            clear hb HP9
            cases hpr : pR x with
            | false =>
              go_wp2_with fail
              go_roundg (n - (k + 1))
              case measure => have := HS.out; omega
              case rel => exact ⟨k + 1, A', n', c', false, by go_num, rfl, (by first | rfl | simp [g2] | simp [g1]), by omega, rfl, ⟨by rw [HE.out]; exact HO9.out, by omega⟩, (fun h => by cases h), HB9.out⟩
            | true =>
              have HPR := hid hpr
              clear hpr
              by_cases g1 : -1152921504606846976 < dif x.1 t
              · by_cases g2 : dif x.1 t < 1152921504606846976
                · have HN := hid (HNK.out ⟨⟨HPR.out, HX.out⟩, g1, g2⟩ (HNR.out (by trivial)).2)
                  go_wp2_with fail
                  go_roundg (n - (k + 1))
                  case measure => have := HS.out; omega
                  case rel => exact ⟨k + 1, A', n', c', true, by go_num, rfl, (by first | rfl | simp [g2] | simp [g1]), by omega, rfl, ⟨by rw [HE.out]; exact HO9.out, by omega⟩, (fun _ => ⟨(HNR.out (by trivial)).1, HN.out⟩), HB9.out⟩
                · skip
                  go_wp2_with fail
                  go_roundg (n - (k + 1))
                  case measure => have := HS.out; omega
                  case rel => exact ⟨k + 1, A', n', c', false, by go_num, rfl, (by first | rfl | simp [g2] | simp [g1]), by omega, rfl, ⟨by rw [HE.out]; exact HO9.out, by omega⟩, (fun h => by cases h), HB9.out⟩
              · skip
                go_wp2_with fail
                go_roundg (n - (k + 1))
                case measure => have := HS.out; omega
                case rel => exact ⟨k + 1, A', n', c', false, by go_num, rfl, (by first | rfl | simp [g2] | simp [g1]), by omega, rfl, ⟨by rw [HE.out]; exact HO9.out, by omega⟩, (fun h => by cases h), HB9.out⟩
    · obtain rfl : k = n := by omega
      have hki : ¬ (k : Int) < k := by omega
      have HEQ : Hid ((owdP m l l.length == owdP m l k) = true) := hid (by rw [HLN.out]; simp)
      have HO2 := hid HO.out.1
      clear HO
      have HR1 := hid (HR.out.below (below_on HQ.out.2 HB.out))
      cases nr with
      | false =>
        clear HNR HS
        go_wp2_with fail
        refine (Mean.of t HTT.out A k c l _ HR1.out HL.out (by omega)).mono ?_
        rintro e w2 ⟨rfl, hb⟩
        generalize Mu.of t l = z
        have ha := (Below.refl w2.heap.size w2).alloc (Nat.le_refl _) (.cells #[.int .u64 z.2.b, .int .i64 (hiW z.2.a), .int .u64 (loW z.2.a), .int .u64 z.2.w, .int .i64 z.2.n] 36)
        replace HO2 := hid ((HO2.out.below hb).below ha)
        have HC2 := hid (((HQ.out.1.below HB.out).below hb).below ha)
        have HR2 := hid ((HR1.out.below hb).below ha)
        have HB2 := hid (below_on (below_on (below_on HQ.out.2 HB.out) hb) ha)
        clear ha hb HQ HB HR1
        obtain ⟨m0, m1, m2, m3, m4⟩ := Mu.at m HC2.out
        go_wp2_with fail
        clear m0 m1 m2 m3 m4
        refine (Lag.owed m HM.out A k c l _ HR2.out HL.out (by omega)).mono ?_
        rintro e w3 ⟨A3, n3, c3, B3, rfl, ho, hb⟩
        have HO3 := hid ho
        replace HO2 := hid (HO2.out.below hb)
        replace HC2 := hid (HC2.out.below hb)
        replace HR2 := hid (HR2.out.below hb)
        replace HB2 := hid (below_on HB2.out hb)
        clear ho hb
        go_wp2_with fail
        refine (Sls.equal A3 A' n3 c3 n' c' _ _ _ HO3.out.1.rdi HO2.out.rdi HO3.out.2 (by omega)).mono ?_
        rw [HEQ.out]
        rintro e w4 ⟨rfl, hb⟩
        replace HC2 := hid (HC2.out.below hb)
        replace HR2 := hid (HR2.out.below hb)
        replace HB2 := hid (below_on HB2.out hb)
        clear hb HO2 HO3
        obtain ⟨m0, m1, m2, m3, m4⟩ := Mu.at m HC2.out
        go_wp2_with fail
        clear m0 m1 m2 m3 m4
        refine (Lag.owed m HM.out none 0 0 [] _ (RdP.nil _) (by simp) (by omega)).mono ?_
        rintro e w6 ⟨A6, n6, c6, B6, rfl, ho, hb⟩
        obtain rfl : n6 = 0 := by have := ho.1.len; simpa [owdP] using this.symm
        replace HB2 := hid (below_on HB2.out hb)
        clear hb ho
        go_wp2_with fail
        go_ret
        exact ⟨by first | rfl | simp, HB2.out⟩
      | true =>
        have HNL : Hid (∀ p ∈ l, NrP 1152921504606846976 t p) := hid (by have := (HNR.out (by trivial)).2; rwa [List.take_of_length_le (by have := HLN.out; omega)] at this)
        have HKB := hid (HNR.out (by trivial)).1
        have HOK : Hid (∀ p ∈ l, pR p = true ∧ PIn p) := hid (fun p hp => (HNL.out p hp).1)
        have E1 := hid (of_yes t HOK.out (by have := HLN.out; have := HKB.out; omega))
        have HI1 := hid (sums_in HTT.out HOK.out (by have := HLN.out; have := HKB.out; omega))
        have HPO := hid (owd_some (t := t) HOK.out (by have := HLN.out; have := HKB.out; omega) (by have := HLN.out; have := HKB.out; omega))
        clear HNR HS HNL HOK
        go_wp2_with fail
        refine (Mean.of t HTT.out A k c l _ HR1.out HL.out (by omega)).mono ?_
        rw [E1.out]
        rintro e w2 ⟨rfl, hb⟩
        have ha := (Below.refl w2.heap.size w2).alloc (Nat.le_refl _) (.cells #[.int .u64 (Mu.sums t l).b, .int .i64 (hiW (Mu.sums t l).a), .int .u64 (loW (Mu.sums t l).a), .int .u64 (Mu.sums t l).w, .int .i64 (Mu.sums t l).n] 36)
        replace HO2 := hid ((HO2.out.below hb).below ha)
        have HC2 := hid (((HQ.out.1.below HB.out).below hb).below ha)
        have HR2 := hid ((HR1.out.below hb).below ha)
        have HB2 := hid (below_on (below_on (below_on HQ.out.2 HB.out) hb) ha)
        have HV2 : Hid (Cs (w2.alloc (.cells #[.int .u64 (Mu.sums t l).b, .int .i64 (hiW (Mu.sums t l).a), .int .u64 (loW (Mu.sums t l).a), .int .u64 (Mu.sums t l).w, .int .i64 (Mu.sums t l).n] 36)) w2.heap.size (Mu.sums t l).cells) := hid (Cs.alloc_new6 w2 36 (Mu.sums t l).cells)
        clear ha hb HQ HB HR1
        obtain ⟨m0, m1, m2, m3, m4⟩ := Mu.at m HC2.out
        go_wp2_with fail
        clear m0 m1 m2 m3 m4
        refine (Lag.owed m HM.out A k c l _ HR2.out HL.out (by omega)).mono ?_
        rintro e w3 ⟨A3, n3, c3, B3, rfl, ho, hb⟩
        have HO3 := hid ho
        replace HO2 := hid (HO2.out.below hb)
        replace HC2 := hid (HC2.out.below hb)
        replace HR2 := hid (HR2.out.below hb)
        replace HB2 := hid (below_on HB2.out hb)
        replace HV2 := hid (HV2.out.below hb)
        clear ho hb
        go_wp2_with fail
        refine (Sls.equal A3 A' n3 c3 n' c' _ _ _ HO3.out.1.rdi HO2.out.rdi HO3.out.2 (by omega)).mono ?_
        rw [HEQ.out]
        rintro e w4 ⟨rfl, hb⟩
        replace HC2 := hid (HC2.out.below hb)
        replace HR2 := hid (HR2.out.below hb)
        replace HB2 := hid (below_on HB2.out hb)
        replace HV2 := hid (HV2.out.below hb)
        clear hb HO2 HO3
        obtain ⟨m0, m1, m2, m3, m4⟩ := Mu.at m HC2.out
        obtain ⟨v0, v1, v2, v3, v4⟩ := Mu.at (Mu.sums t l) HV2.out
        go_wp2_with fail
        clear m0 m1 m2 m3 m4 v0 v1 v2 v3 v4
        refine (Lag.owed (Mu.sums t l) HI1.out A k c l _ HR2.out HL.out (by omega)).mono ?_
        rintro e w5 ⟨A5, n5, c5, B5, rfl, ho, hb⟩
        have h5 : 0 < n5 := by
          rcases Nat.eq_zero_or_pos n5 with h | h
          · exact absurd (List.eq_nil_of_length_eq_zero (ho.1.len.trans h)) HPO.out
          · exact h
        have h5i : (0 : Int) < (n5 : Int) := by omega
        replace HC2 := hid (HC2.out.below hb)
        replace HB2 := hid (below_on HB2.out hb)
        clear hb ho HV2
        obtain ⟨m0, m1, m2, m3, m4⟩ := Mu.at m HC2.out
        go_wp2_with fail
        clear m0 m1 m2 m3 m4
        refine (Lag.owed m HM.out none 0 0 [] _ (RdP.nil _) (by simp) (by omega)).mono ?_
        rintro e w6 ⟨A6, n6, c6, B6, rfl, ho, hb⟩
        obtain rfl : n6 = 0 := by have := ho.1.len; simpa [owdP] using this.symm
        replace HB2 := hid (below_on HB2.out hb)
        clear hb ho
        go_wp2_with fail
        go_ret
        exact ⟨by first | rfl | simp, HB2.out⟩
set_option maxRecDepth 100000 in
set_option maxHeartbeats 32000000 in
theorem Lowed.far0 (m : Mu) (hm : m.In) (t : Int) (ht : IsT t) (A : Option Addr) (n c : Nat) (l : List P3) (w : World) (hr : RdP w A n l) (hl : ∀ q ∈ l, PIn q) (h40 : n ≤ 40) (hn : ¬ m.n < 0) (hn2 : ¬ 1000 < m.n) (h0 : 0 < n) (h32 : ¬ n ≤ 32) (htab : Tab10 w.heap.size w) : Calls Tryz.prog 6 #[m.val, .int .u64 t, .slice A n c] w (Ans (.bool true) w) := by
  have HT := hid htab
  have HM := hid hm
  have HR := hid hr
  have HL := hid hl
  have HTT := hid ht
  have HLN := hid hr.1
  have h2 : ¬ (40 : Int) < (n : Int) := by omega
  have HQ : Hid (Cs (w.alloc (.cells #[.int .u64 m.b, .int .i64 (hiW m.a), .int .u64 (loW m.a), .int .u64 m.w, .int .i64 m.n] 36)) w.heap.size m.cells ∧ Below w.heap.size w (w.alloc (.cells #[.int .u64 m.b, .int .i64 (hiW m.a), .int .u64 (loW m.a), .int .u64 m.w, .int .i64 m.n] 36))) := hid ⟨Cs.alloc_new6 w 36 m.cells, (Below.refl w.heap.size w).alloc (Nat.le_refl _) _⟩
  have hz : (0 : Int) < (n : Int) := by omega
  have hy : ¬ (n : Int) ≤ 32 := by omega
  clear hr hl hm ht htab
  unfold Mu.val
  go_enter Tryz.func6, Tryz.ntmps6
  go_wp2_with fail
  generalize (w.alloc (.cells #[.int .u64 m.b, .int .i64 (hiW m.a), .int .u64 (loW m.a), .int .u64 m.w, .int .i64 m.n] 36)) = W0 at HQ ⊢
  refine (Law9.awake _ (HT.out.at2 HQ.out.2)).mono ?_
  rintro e w1 ⟨rfl, hb⟩
  replace HQ := hid (And.intro (HQ.out.1.below hb) (below_on HQ.out.2 hb))
  clear hb HT
  obtain ⟨m0, m1, m2, m3, m4⟩ := Mu.at m HQ.out.1
  go_wp2_with fail
  clear m0 m1 m2 m3 m4
  go_loopg [7, 8, 41] n (fun s a b i wr => ∃ (k : Nat) (A' : Option Addr) (n' c' : Nat) (nr : Bool), i = .int .i64 k ∧ a = .slice A' n' c' ∧ b = .bool nr ∧ k ≤ n ∧ s = n - k ∧ (Own wr w1.heap.size A' n' c' (owdP m l k) ∧ n' ≤ k) ∧ (nr = true → (0 < n ∧ n ≤ 32) ∧ ∀ p ∈ l.take k, NrP 1152921504606846976 t p) ∧ Below w1.heap.size w1 wr)
  case atStart => exact ⟨0, none, 0, 0, false, rfl, rfl, (by first | rfl | simp [hy]), Nat.zero_le _, by omega, ⟨Own.nil _ _, Nat.le_refl _⟩, (fun h => by cases h), Below.refl _ _⟩
  case round =>
    obtain ⟨k, A', n', c', nr, rfl, rfl, rfl, hk, hs, ho, hnr, hb⟩ := hrel
    have HS := hid hs
    have HO := hid ho
    have HNR := hid hnr
    have HB := hid hb
    have hnk := ho.2
    clear hs ho hnr hb
    by_cases hkn : k < n
    · obtain ⟨bb, off, hA, _, hc⟩ := (HR.out.below (below_on HQ.out.2 HB.out)).2 0 (by omega)
      obtain ⟨p0, p1, p2⟩ := hc k hkn
      have hkl : k < l.length := by have := HLN.out; omega
      have HX := hid (HL.out _ (getD_mem hkl))
      have HNK : Hid (NrP 1152921504606846976 t (l.getD k (0, 0, 0)) → (∀ p ∈ l.take k, NrP 1152921504606846976 t p) → ∀ p ∈ l.take (k + 1), NrP 1152921504606846976 t p) := hid (fun hx h1 => mem_take1 hkl h1 hx)
      have HYS := hid (fun h => owdP_yes (m := m) (l := l) (k := k) h)
      have HNO := hid (fun h => owdP_no (m := m) (l := l) (k := k) h)
      subst hA
      have hki : (k : Int) < n := by omega
      clear hc hkl
      generalize l.getD k (0, 0, 0) = x at *
      have ha := (Below.refl wr.heap.size wr).alloc (Nat.le_refl _) (.cells #[.int .u64 x.1, .int .u32 x.2.1, .int .u32 x.2.2] 29)
      have HQ7 : Hid ((Cs (wr.alloc (.cells #[.int .u64 x.1, .int .u32 x.2.1, .int .u32 x.2.2] 29)) w.heap.size m.cells ∧ Cs (wr.alloc (.cells #[.int .u64 x.1, .int .u32 x.2.1, .int .u32 x.2.2] 29)) wr.heap.size (pcells x)) ∧ Below (wr.alloc (.cells #[.int .u64 x.1, .int .u32 x.2.1, .int .u32 x.2.2] 29)).heap.size (wr.alloc (.cells #[.int .u64 x.1, .int .u32 x.2.1, .int .u32 x.2.2] 29)) (wr.alloc (.cells #[.int .u64 x.1, .int .u32 x.2.1, .int .u32 x.2.2] 29))) := hid ⟨⟨((HQ.out.1.below HB.out).below ha), Cs.alloc_new6 wr 29 (pcells x)⟩, Below.refl _ _⟩
      have HGP : Hid (w.heap.size < (wr.alloc (.cells #[.int .u64 x.1, .int .u32 x.2.1, .int .u32 x.2.2] 29)).heap.size ∧ wr.heap.size < (wr.alloc (.cells #[.int .u64 x.1, .int .u32 x.2.1, .int .u32 x.2.2] 29)).heap.size) := hid ⟨by have := HQ.out.1.lt; have := HB.out.size; simp; omega, by simp⟩
      have HNE := hid HO.out.1.notRow
      have HO1 := hid (HO.out.1.below ha)
      have HB1 := hid (below_on HB.out ha)
      clear ha HO HB
      obtain ⟨K, o, hov⟩ : ∃ K o, m.over x = (K, o) := ⟨_, _, rfl⟩
      have HOV := hid hov
      clear hov
      go_wp2_with fail
      clear p0 p1 p2
      generalize wr.alloc (.cells #[.int .u64 x.1, .int .u32 x.2.1, .int .u32 x.2.2] 29) = Wa at HQ7 HGP HO1 HB1 ⊢
      generalize wr.heap.size = gp at HQ7 HGP HNE ⊢
      cases K with
      | false =>
        have hsT9 : Stays (fun wx => (Cs wx w.heap.size m.cells ∧ Cs wx gp (pcells x)) ∧ Below Wa.heap.size Wa wx) := fun _ _ h hb => ⟨⟨h.1.1.below hb, h.1.2.below hb⟩, below_on h.2 hb⟩
        refine wp_region_grow (S := fun wx => (Cs wx w.heap.size m.cells ∧ Cs wx gp (pcells x)) ∧ Below Wa.heap.size Wa wx) 11 (by kernel_rfl) (hsT9 _ _ (HQ7.out) (Below.refl _ _).drew) ?_
        refine wpAnyE_take (i := 0) (v := ?_) (hsT9) (fun _ h => h) rfl (by kernel_rfl) (by kernel_rfl) (by kernel_rfl) (by kernel_rfl) (fun _ _ _ h => h) (SteadyB.of_yields (Or.inl ⟨by rfl, ?_⟩)) ?_
        rotate_left
        · intro wq hSw
          obtain ⟨m0, m1, m2, m3, m4⟩ := Mu.at m hSw.1.1
          obtain ⟨q0, q1, q2⟩ := P3.at x hSw.1.2
          go_simp
          (try with_reducible rfl)
        try simp only [List.getElem_toArray, List.getElem_cons_zero, List.getElem_cons_succ, Act.put, List.setIfInBounds_toArray, List.set_cons_zero, List.set_cons_succ]
        refine wpAnyE_take (i := 2) (v := ?_) (hsT9) (fun _ h => h) rfl (by kernel_rfl) (by kernel_rfl) (by kernel_rfl) (by kernel_rfl) (fun _ _ _ h => h) (SteadyB.of_yields (Or.inl ⟨by rfl, ?_⟩)) ?_
        rotate_left
        · intro wq hSw
          obtain ⟨m0, m1, m2, m3, m4⟩ := Mu.at m hSw.1.1
          obtain ⟨q0, q1, q2⟩ := P3.at x hSw.1.2
          go_simp
          (try with_reducible rfl)
        try simp only [List.getElem_toArray, List.getElem_cons_zero, List.getElem_cons_succ, Act.put, List.setIfInBounds_toArray, List.set_cons_zero, List.set_cons_succ]
        refine wpF.fst (j := 8) (dst := some 11) (T := fun wx g => Var wx g false none 0 0 ∧ Wa.heap.size ≤ g) ?_
        refine wpF_call (k := 1) _ (fun x => rmV m x) (bqR 18 m.a) rfl rfl rfl (Or.inl (by kernel_rfl)) (by kernel_rfl) (by decide) (by decide) (by decide) (by kernel_rfl) (by intro cs b h; cases h) (by rfl) (fun _ => rfl) (hsT9) (fun _ h => h) (fun g => fun _ _ h hb => ⟨h.1.below hb, h.2⟩) (fun yq => bqR.stays 18 m.a yq) (fun aq wq hSw => ?_) (fun wq hSw => ?_) (fun yq => ?_)
        · (first | exact ⟨_, by go_simp; (try with_reducible rfl), (Below.refl _ _).alloc (Nat.le_refl _) _, Var.new _ _ _ _ _ _, hSw.2.size⟩ | exact ⟨_, by go_simp; (try with_reducible rfl), (Below.refl _ _).alloc (Nat.le_refl _) _, Var.new _ _ _ _ _ _, hSw.1.2.size⟩ | exact ⟨_, by go_simp; (try with_reducible rfl), (Below.refl _ _).alloc (Nat.le_refl _) _, Var.new _ _ _ _ _ _, hSw.1.1.2.size⟩ | exact ⟨_, by go_simp; (try with_reducible rfl), (Below.refl _ _).alloc (Nat.le_refl _) _, Var.new _ _ _ _ _ _, hSw.1.1.1.2.size⟩)
        · exact RunI.of_calls (Law8.of m HM.out wq) (by go_simp) (fun e w' h => h)
        obtain ⟨s1, A1, n1, c1⟩ := yq
        dsimp only [bqV, bqR]
        try simp only [List.getElem_toArray, List.getElem_cons_zero, List.getElem_cons_succ, Act.put, List.setIfInBounds_toArray, List.set_cons_zero, List.set_cons_succ]
        refine wpF_take (k := 3) (v := pv x) _ rfl rfl rfl (by decide) (Stays.and_ (hsT9) (bqR.stays 18 m.a (s1, A1, n1, c1))) (fun _ h => h.1) (fun g => fun _ _ h hb => ⟨h.1.below hb, h.2⟩) (by kernel_rfl) (by kernel_rfl) (by kernel_rfl) (by kernel_rfl) (by kernel_rfl) (by kernel_rfl) (by kernel_rfl) (by kernel_rfl) (by intro cs b h; cases h) (fun _ _ _ h => h) (Or.inl ⟨by rfl, fun wq hSw => ?_⟩) ?_
        · refine RunB.of_calls (Law4.of x.1 x.2.1 x.2.2 wq) (by go_simp) ?_
          rintro e wr ⟨rfl, hb⟩
          exact ⟨rfl, hb⟩
        try simp only [List.getElem_toArray, List.getElem_cons_zero, List.getElem_cons_succ, Act.put, List.setIfInBounds_toArray, List.set_cons_zero, List.set_cons_succ]
        refine wpF_call (k := 4) _ (fun x => .tuple #[bqV x, .bool false]) (bqR 84 o) rfl rfl rfl (Or.inl (by kernel_rfl)) (by kernel_rfl) (by decide) (by decide) (by decide) (by kernel_rfl) (by intro cs b h; cases h) (by rfl) (fun _ => rfl) (Stays.and_ (hsT9) (bqR.stays 18 m.a (s1, A1, n1, c1))) (fun _ h => h.1) (fun g => fun _ _ h hb => ⟨h.1.below hb, h.2⟩) (fun yq => bqR.stays 84 o yq) (fun aq wq hSw => ?_) (fun wq hSw => ?_) (fun yq => ?_)
        · (first | exact ⟨_, by go_simp; (try with_reducible rfl), (Below.refl _ _).alloc (Nat.le_refl _) _, Var.new _ _ _ _ _ _, hSw.2.size⟩ | exact ⟨_, by go_simp; (try with_reducible rfl), (Below.refl _ _).alloc (Nat.le_refl _) _, Var.new _ _ _ _ _ _, hSw.1.2.size⟩ | exact ⟨_, by go_simp; (try with_reducible rfl), (Below.refl _ _).alloc (Nat.le_refl _) _, Var.new _ _ _ _ _ _, hSw.1.1.2.size⟩ | exact ⟨_, by go_simp; (try with_reducible rfl), (Below.refl _ _).alloc (Nat.le_refl _) _, Var.new _ _ _ _ _ _, hSw.1.1.1.2.size⟩)
        · exact RunI.of_calls (Ref9.over m (s1, A1, n1, c1) x HM.out HX.out wq hSw.2) (by go_simp) (fun e w' h => by rw [HOV.out] at h; exact h)
        obtain ⟨s2, A2, n2, c2⟩ := yq
        dsimp only [bqV, bqR]
        try simp only [List.getElem_toArray, List.getElem_cons_zero, List.getElem_cons_succ, Act.put, List.setIfInBounds_toArray, List.set_cons_zero, List.set_cons_succ]
        refine wpF_take (k := 5) (v := ?_) _ rfl rfl rfl (by decide) (Stays.and_ (Stays.and_ (hsT9) (bqR.stays 18 m.a (s1, A1, n1, c1))) (bqR.stays 84 o (s2, A2, n2, c2))) (fun _ h => h.1.1) (fun g => fun _ _ h hb => ⟨h.1.below hb, h.2⟩) (by kernel_rfl) (by kernel_rfl) (by kernel_rfl) (by kernel_rfl) (by kernel_rfl) (by kernel_rfl) (by kernel_rfl) (by kernel_rfl) (by intro cs b h; cases h) (fun _ _ _ h => h) (SteadyB.of_yields (Or.inl ⟨by rfl, ?_⟩)) ?_
        rotate_left
        · intro wq hSw
          go_simp
          (try with_reducible rfl)
        try simp only [List.getElem_toArray, List.getElem_cons_zero, List.getElem_cons_succ, Act.put, List.setIfInBounds_toArray, List.set_cons_zero, List.set_cons_succ]
        refine wpF_take (k := 6) (v := ?_) _ rfl rfl rfl (by decide) (Stays.and_ (Stays.and_ (hsT9) (bqR.stays 18 m.a (s1, A1, n1, c1))) (bqR.stays 84 o (s2, A2, n2, c2))) (fun _ h => h.1.1) (fun g => fun _ _ h hb => ⟨h.1.below hb, h.2⟩) (by kernel_rfl) (by kernel_rfl) (by kernel_rfl) (by kernel_rfl) (by kernel_rfl) (by kernel_rfl) (by kernel_rfl) (by kernel_rfl) (by intro cs b h; cases h) (fun _ _ _ h => h) (SteadyB.of_yields (Or.inl ⟨by rfl, ?_⟩)) ?_
        rotate_left
        · intro wq hSw
          go_simp
          (try with_reducible rfl)
        try simp only [List.getElem_toArray, List.getElem_cons_zero, List.getElem_cons_succ, Act.put, List.setIfInBounds_toArray, List.set_cons_zero, List.set_cons_succ]
        refine wpF_take (k := 7) (v := ?_) _ rfl rfl rfl (by decide) (Stays.and_ (Stays.and_ (hsT9) (bqR.stays 18 m.a (s1, A1, n1, c1))) (bqR.stays 84 o (s2, A2, n2, c2))) (fun _ h => h.1.1) (fun g => fun _ _ h hb => ⟨h.1.below hb, h.2⟩) (by kernel_rfl) (by kernel_rfl) (by kernel_rfl) (by kernel_rfl) (by kernel_rfl) (by kernel_rfl) (by kernel_rfl) (by kernel_rfl) (by intro cs b h; cases h) (fun _ _ _ h => h) (SteadyB.of_yields (Or.inl ⟨by rfl, ?_⟩)) ?_
        rotate_left
        · intro wq hSw
          go_simp
          (try with_reducible rfl)
        try simp only [List.getElem_toArray, List.getElem_cons_zero, List.getElem_cons_succ, Act.put, List.setIfInBounds_toArray, List.set_cons_zero, List.set_cons_succ]
        refine wpF_done _ rfl rfl (by kernel_rfl) (by decide) (by rfl) (Stays.and_ (Stays.and_ (hsT9) (bqR.stays 18 m.a (s1, A1, n1, c1))) (bqR.stays 84 o (s2, A2, n2, c2))) (fun _ h => h.1.1) (fun g => fun _ _ h hb => ⟨h.1.below hb, h.2⟩) (fun wq hSw => ?_) (fun gA => ?_)
        · (first | exact ⟨_, by go_simp; (try with_reducible rfl), (Below.refl _ _).alloc (Nat.le_refl _) _, Var.new _ _ _ _ _ _, hSw.2.size⟩ | exact ⟨_, by go_simp; (try with_reducible rfl), (Below.refl _ _).alloc (Nat.le_refl _) _, Var.new _ _ _ _ _ _, hSw.1.2.size⟩ | exact ⟨_, by go_simp; (try with_reducible rfl), (Below.refl _ _).alloc (Nat.le_refl _) _, Var.new _ _ _ _ _ _, hSw.1.1.2.size⟩ | exact ⟨_, by go_simp; (try with_reducible rfl), (Below.refl _ _).alloc (Nat.le_refl _) _, Var.new _ _ _ _ _ _, hSw.1.1.1.2.size⟩)
        try simp only [List.getElem_toArray, List.getElem_cons_zero, List.getElem_cons_succ, Act.put, List.setIfInBounds_toArray, List.set_cons_zero, List.set_cons_succ]
        refine wpAnyE_store (i := 9) (fun wx => (fun wx => (Cs wx w.heap.size m.cells ∧ Cs wx gp (pcells x)) ∧ Below Wa.heap.size Wa wx) wx ∧ ((Var wx gA s2 A2 n2 c2 ∧ IsB wx 84 s2 A2 n2 c2 o) ∧ Wa.heap.size ≤ gA)) 41 [.bool s2, .slice A2 n2 c2] [.bool false, .slice none 0 0] gA infoBig (.tmp 11) (.tmp 52) rfl rfl (by kernel_rfl) (by decide) (by rfl) ?sv10a ?sv10b ?sv10c ?sv10d ?sv10e (fun _ h => h.2.1.cs) (fun _ h => ⟨⟨⟨h.1.1.1.1.1.fars (by have := HGP.out; have := h.2.2; omega) _ _, h.1.1.1.1.2.fars (by have := HGP.out; have := h.2.2; omega) _ _⟩, below_sets (by have := h.2.2; omega) _ _ h.1.1.1.2⟩, ⟨h.2.1.sets s2 A2 n2 c2, h.1.2.sets h.2.1.2.2.2.2 0 _⟩, h.2.2⟩) (fun _ h => h.1) ((fun _ _ h hb => ⟨⟨⟨h.1.1.1.below hb, h.1.1.2.below hb⟩, below_on h.1.2 hb⟩, ⟨h.2.1.1.below hb, h.2.1.2.below hb⟩, h.2.2⟩)) ?sv10f
        case sv10a => rfl
        case sv10b => rfl
        case sv10c => rfl
        case sv10d => rfl
        case sv10e => rfl
        try simp only [List.getElem_toArray, List.getElem_cons_zero, List.getElem_cons_succ, Act.put, List.setIfInBounds_toArray, List.set_cons_zero, List.set_cons_succ]
        refine wpAnyE_take (i := 10) (v := ?_) ((fun _ _ h hb => ⟨⟨⟨h.1.1.1.below hb, h.1.1.2.below hb⟩, below_on h.1.2 hb⟩, ⟨h.2.1.1.below hb, h.2.1.2.below hb⟩, h.2.2⟩)) (fun _ h => h.1) rfl (by kernel_rfl) (by kernel_rfl) (by kernel_rfl) (by kernel_rfl) (fun _ _ _ h => h) (SteadyB.of_yields (Or.inl ⟨by rfl, ?_⟩)) ?_
        rotate_left
        · intro wq hSw
          go_simp
          (try with_reducible rfl)
        try simp only [List.getElem_toArray, List.getElem_cons_zero, List.getElem_cons_succ, Act.put, List.setIfInBounds_toArray, List.set_cons_zero, List.set_cons_succ]
        refine wpAnyE_done (by kernel_rfl) (fun wz hSz => ?_) _
        have HQ9 := hid hSz
        clear hSz HQ7
        have HE := hid (HNO.out (by unfold Mu.elig; rw [HOV.out]; rfl))
        clear HYS HNO HOV
        have HO8 := hid (HO1.out.below HQ9.out.1.2)
        have HB8 := hid (below_on HB1.out HQ9.out.1.2)
        have HP8 := hid (PC.of HQ9.out.1.1.2)
        clear HQ9 HO1 HB1
        obtain ⟨q0, q1, q2⟩ := HP8.out
        go_wp2_with fail
        clear q0 q1 q2
        refine (Vtime.since x.1 t _).mono ?_
        rintro e w9 ⟨rfl, hb⟩
        have HO9 := hid (HO8.out.below hb)
        have HB9 := hid (below_on HB8.out hb)
        have HP9 := hid (HP8.out.below hb)
        clear hb HO8 HB8 HP8
        cases nr with
        | false =>
          go_wp2_with fail
          go_roundg (n - (k + 1))
          case measure => have := HS.out; omega
          case rel => exact ⟨k + 1, A', n', c', false, by go_num, rfl, (by first | rfl | simp [g2] | simp [g1]), by omega, rfl, ⟨by rw [HE.out]; exact HO9.out, by omega⟩, (fun h => by cases h), HB9.out⟩
        | true =>
          obtain ⟨q0, q1, q2⟩ := HP9.out
          go_wp2_with fail
          clear q0 q1 q2
          refine (Pos.rightF x _).mono ?_
          rintro e w10 ⟨rfl, hb⟩
          replace HO9 := hid (HO9.out.below hb)
          replace HB9 := hid (below_on HB9.out hb)
          clear hb HP9
          cases hpr : pR x with
          | false =>
            go_wp2_with fail
            go_roundg (n - (k + 1))
            case measure => have := HS.out; omega
            case rel => exact ⟨k + 1, A', n', c', false, by go_num, rfl, (by first | rfl | simp [g2] | simp [g1]), by omega, rfl, ⟨by rw [HE.out]; exact HO9.out, by omega⟩, (fun h => by cases h), HB9.out⟩
          | true =>
            have HPR := hid hpr
            clear hpr
            by_cases g1 : -1152921504606846976 < dif x.1 t
            · by_cases g2 : dif x.1 t < 1152921504606846976
              · have HN := hid (HNK.out ⟨⟨HPR.out, HX.out⟩, g1, g2⟩ (HNR.out (by trivial)).2)
                go_wp2_with fail
                go_roundg (n - (k + 1))
                case measure => have := HS.out; omega
                case rel => exact ⟨k + 1, A', n', c', true, by go_num, rfl, (by first | rfl | simp [g2] | simp [g1]), by omega, rfl, ⟨by rw [HE.out]; exact HO9.out, by omega⟩, (fun _ => ⟨(HNR.out (by trivial)).1, HN.out⟩), HB9.out⟩
              · skip
                go_wp2_with fail
                go_roundg (n - (k + 1))
                case measure => have := HS.out; omega
                case rel => exact ⟨k + 1, A', n', c', false, by go_num, rfl, (by first | rfl | simp [g2] | simp [g1]), by omega, rfl, ⟨by rw [HE.out]; exact HO9.out, by omega⟩, (fun h => by cases h), HB9.out⟩
            · skip
              go_wp2_with fail
              go_roundg (n - (k + 1))
              case measure => have := HS.out; omega
              case rel => exact ⟨k + 1, A', n', c', false, by go_num, rfl, (by first | rfl | simp [g2] | simp [g1]), by omega, rfl, ⟨by rw [HE.out]; exact HO9.out, by omega⟩, (fun h => by cases h), HB9.out⟩
      | true =>
        have hsT11 : Stays (fun wx => (Cs wx w.heap.size m.cells ∧ Cs wx gp (pcells x)) ∧ Below Wa.heap.size Wa wx) := fun _ _ h hb => ⟨⟨h.1.1.below hb, h.1.2.below hb⟩, below_on h.2 hb⟩
        refine wp_region_grow (S := fun wx => (Cs wx w.heap.size m.cells ∧ Cs wx gp (pcells x)) ∧ Below Wa.heap.size Wa wx) 11 (by kernel_rfl) (hsT11 _ _ (HQ7.out) (Below.refl _ _).drew) ?_
        refine wpAnyE_take (i := 0) (v := ?_) (hsT11) (fun _ h => h) rfl (by kernel_rfl) (by kernel_rfl) (by kernel_rfl) (by kernel_rfl) (fun _ _ _ h => h) (SteadyB.of_yields (Or.inl ⟨by rfl, ?_⟩)) ?_
        rotate_left
        · intro wq hSw
          obtain ⟨m0, m1, m2, m3, m4⟩ := Mu.at m hSw.1.1
          obtain ⟨q0, q1, q2⟩ := P3.at x hSw.1.2
          go_simp
          (try with_reducible rfl)
        try simp only [List.getElem_toArray, List.getElem_cons_zero, List.getElem_cons_succ, Act.put, List.setIfInBounds_toArray, List.set_cons_zero, List.set_cons_succ]
        refine wpAnyE_take (i := 2) (v := ?_) (hsT11) (fun _ h => h) rfl (by kernel_rfl) (by kernel_rfl) (by kernel_rfl) (by kernel_rfl) (fun _ _ _ h => h) (SteadyB.of_yields (Or.inl ⟨by rfl, ?_⟩)) ?_
        rotate_left
        · intro wq hSw
          obtain ⟨m0, m1, m2, m3, m4⟩ := Mu.at m hSw.1.1
          obtain ⟨q0, q1, q2⟩ := P3.at x hSw.1.2
          go_simp
          (try with_reducible rfl)
        try simp only [List.getElem_toArray, List.getElem_cons_zero, List.getElem_cons_succ, Act.put, List.setIfInBounds_toArray, List.set_cons_zero, List.set_cons_succ]
        refine wpF.fst (j := 8) (dst := some 11) (T := fun wx g => Var wx g false none 0 0 ∧ Wa.heap.size ≤ g) ?_
        refine wpF_call (k := 1) _ (fun x => rmV m x) (bqR 18 m.a) rfl rfl rfl (Or.inl (by kernel_rfl)) (by kernel_rfl) (by decide) (by decide) (by decide) (by kernel_rfl) (by intro cs b h; cases h) (by rfl) (fun _ => rfl) (hsT11) (fun _ h => h) (fun g => fun _ _ h hb => ⟨h.1.below hb, h.2⟩) (fun yq => bqR.stays 18 m.a yq) (fun aq wq hSw => ?_) (fun wq hSw => ?_) (fun yq => ?_)
        · (first | exact ⟨_, by go_simp; (try with_reducible rfl), (Below.refl _ _).alloc (Nat.le_refl _) _, Var.new _ _ _ _ _ _, hSw.2.size⟩ | exact ⟨_, by go_simp; (try with_reducible rfl), (Below.refl _ _).alloc (Nat.le_refl _) _, Var.new _ _ _ _ _ _, hSw.1.2.size⟩ | exact ⟨_, by go_simp; (try with_reducible rfl), (Below.refl _ _).alloc (Nat.le_refl _) _, Var.new _ _ _ _ _ _, hSw.1.1.2.size⟩ | exact ⟨_, by go_simp; (try with_reducible rfl), (Below.refl _ _).alloc (Nat.le_refl _) _, Var.new _ _ _ _ _ _, hSw.1.1.1.2.size⟩)
        · exact RunI.of_calls (Law8.of m HM.out wq) (by go_simp) (fun e w' h => h)
        obtain ⟨s1, A1, n1, c1⟩ := yq
        dsimp only [bqV, bqR]
        try simp only [List.getElem_toArray, List.getElem_cons_zero, List.getElem_cons_succ, Act.put, List.setIfInBounds_toArray, List.set_cons_zero, List.set_cons_succ]
        refine wpF_take (k := 3) (v := pv x) _ rfl rfl rfl (by decide) (Stays.and_ (hsT11) (bqR.stays 18 m.a (s1, A1, n1, c1))) (fun _ h => h.1) (fun g => fun _ _ h hb => ⟨h.1.below hb, h.2⟩) (by kernel_rfl) (by kernel_rfl) (by kernel_rfl) (by kernel_rfl) (by kernel_rfl) (by kernel_rfl) (by kernel_rfl) (by kernel_rfl) (by intro cs b h; cases h) (fun _ _ _ h => h) (Or.inl ⟨by rfl, fun wq hSw => ?_⟩) ?_
        · refine RunB.of_calls (Law4.of x.1 x.2.1 x.2.2 wq) (by go_simp) ?_
          rintro e wr ⟨rfl, hb⟩
          exact ⟨rfl, hb⟩
        try simp only [List.getElem_toArray, List.getElem_cons_zero, List.getElem_cons_succ, Act.put, List.setIfInBounds_toArray, List.set_cons_zero, List.set_cons_succ]
        refine wpF_call (k := 4) _ (fun x => .tuple #[bqV x, .bool true]) (bqR 84 o) rfl rfl rfl (Or.inl (by kernel_rfl)) (by kernel_rfl) (by decide) (by decide) (by decide) (by kernel_rfl) (by intro cs b h; cases h) (by rfl) (fun _ => rfl) (Stays.and_ (hsT11) (bqR.stays 18 m.a (s1, A1, n1, c1))) (fun _ h => h.1) (fun g => fun _ _ h hb => ⟨h.1.below hb, h.2⟩) (fun yq => bqR.stays 84 o yq) (fun aq wq hSw => ?_) (fun wq hSw => ?_) (fun yq => ?_)
        · (first | exact ⟨_, by go_simp; (try with_reducible rfl), (Below.refl _ _).alloc (Nat.le_refl _) _, Var.new _ _ _ _ _ _, hSw.2.size⟩ | exact ⟨_, by go_simp; (try with_reducible rfl), (Below.refl _ _).alloc (Nat.le_refl _) _, Var.new _ _ _ _ _ _, hSw.1.2.size⟩ | exact ⟨_, by go_simp; (try with_reducible rfl), (Below.refl _ _).alloc (Nat.le_refl _) _, Var.new _ _ _ _ _ _, hSw.1.1.2.size⟩ | exact ⟨_, by go_simp; (try with_reducible rfl), (Below.refl _ _).alloc (Nat.le_refl _) _, Var.new _ _ _ _ _ _, hSw.1.1.1.2.size⟩)
        · exact RunI.of_calls (Ref9.over m (s1, A1, n1, c1) x HM.out HX.out wq hSw.2) (by go_simp) (fun e w' h => by rw [HOV.out] at h; exact h)
        obtain ⟨s2, A2, n2, c2⟩ := yq
        dsimp only [bqV, bqR]
        try simp only [List.getElem_toArray, List.getElem_cons_zero, List.getElem_cons_succ, Act.put, List.setIfInBounds_toArray, List.set_cons_zero, List.set_cons_succ]
        refine wpF_take (k := 5) (v := ?_) _ rfl rfl rfl (by decide) (Stays.and_ (Stays.and_ (hsT11) (bqR.stays 18 m.a (s1, A1, n1, c1))) (bqR.stays 84 o (s2, A2, n2, c2))) (fun _ h => h.1.1) (fun g => fun _ _ h hb => ⟨h.1.below hb, h.2⟩) (by kernel_rfl) (by kernel_rfl) (by kernel_rfl) (by kernel_rfl) (by kernel_rfl) (by kernel_rfl) (by kernel_rfl) (by kernel_rfl) (by intro cs b h; cases h) (fun _ _ _ h => h) (SteadyB.of_yields (Or.inl ⟨by rfl, ?_⟩)) ?_
        rotate_left
        · intro wq hSw
          go_simp
          (try with_reducible rfl)
        try simp only [List.getElem_toArray, List.getElem_cons_zero, List.getElem_cons_succ, Act.put, List.setIfInBounds_toArray, List.set_cons_zero, List.set_cons_succ]
        refine wpF_take (k := 6) (v := ?_) _ rfl rfl rfl (by decide) (Stays.and_ (Stays.and_ (hsT11) (bqR.stays 18 m.a (s1, A1, n1, c1))) (bqR.stays 84 o (s2, A2, n2, c2))) (fun _ h => h.1.1) (fun g => fun _ _ h hb => ⟨h.1.below hb, h.2⟩) (by kernel_rfl) (by kernel_rfl) (by kernel_rfl) (by kernel_rfl) (by kernel_rfl) (by kernel_rfl) (by kernel_rfl) (by kernel_rfl) (by intro cs b h; cases h) (fun _ _ _ h => h) (SteadyB.of_yields (Or.inl ⟨by rfl, ?_⟩)) ?_
        rotate_left
        · intro wq hSw
          go_simp
          (try with_reducible rfl)
        try simp only [List.getElem_toArray, List.getElem_cons_zero, List.getElem_cons_succ, Act.put, List.setIfInBounds_toArray, List.set_cons_zero, List.set_cons_succ]
        refine wpF_take (k := 7) (v := ?_) _ rfl rfl rfl (by decide) (Stays.and_ (Stays.and_ (hsT11) (bqR.stays 18 m.a (s1, A1, n1, c1))) (bqR.stays 84 o (s2, A2, n2, c2))) (fun _ h => h.1.1) (fun g => fun _ _ h hb => ⟨h.1.below hb, h.2⟩) (by kernel_rfl) (by kernel_rfl) (by kernel_rfl) (by kernel_rfl) (by kernel_rfl) (by kernel_rfl) (by kernel_rfl) (by kernel_rfl) (by intro cs b h; cases h) (fun _ _ _ h => h) (SteadyB.of_yields (Or.inl ⟨by rfl, ?_⟩)) ?_
        rotate_left
        · intro wq hSw
          go_simp
          (try with_reducible rfl)
        try simp only [List.getElem_toArray, List.getElem_cons_zero, List.getElem_cons_succ, Act.put, List.setIfInBounds_toArray, List.set_cons_zero, List.set_cons_succ]
        refine wpF_done _ rfl rfl (by kernel_rfl) (by decide) (by rfl) (Stays.and_ (Stays.and_ (hsT11) (bqR.stays 18 m.a (s1, A1, n1, c1))) (bqR.stays 84 o (s2, A2, n2, c2))) (fun _ h => h.1.1) (fun g => fun _ _ h hb => ⟨h.1.below hb, h.2⟩) (fun wq hSw => ?_) (fun gA => ?_)
        · (first | exact ⟨_, by go_simp; (try with_reducible rfl), (Below.refl _ _).alloc (Nat.le_refl _) _, Var.new _ _ _ _ _ _, hSw.2.size⟩ | exact ⟨_, by go_simp; (try with_reducible rfl), (Below.refl _ _).alloc (Nat.le_refl _) _, Var.new _ _ _ _ _ _, hSw.1.2.size⟩ | exact ⟨_, by go_simp; (try with_reducible rfl), (Below.refl _ _).alloc (Nat.le_refl _) _, Var.new _ _ _ _ _ _, hSw.1.1.2.size⟩ | exact ⟨_, by go_simp; (try with_reducible rfl), (Below.refl _ _).alloc (Nat.le_refl _) _, Var.new _ _ _ _ _ _, hSw.1.1.1.2.size⟩)
        try simp only [List.getElem_toArray, List.getElem_cons_zero, List.getElem_cons_succ, Act.put, List.setIfInBounds_toArray, List.set_cons_zero, List.set_cons_succ]
        refine wpAnyE_store (i := 9) (fun wx => (fun wx => (Cs wx w.heap.size m.cells ∧ Cs wx gp (pcells x)) ∧ Below Wa.heap.size Wa wx) wx ∧ ((Var wx gA s2 A2 n2 c2 ∧ IsB wx 84 s2 A2 n2 c2 o) ∧ Wa.heap.size ≤ gA)) 41 [.bool s2, .slice A2 n2 c2] [.bool false, .slice none 0 0] gA infoBig (.tmp 11) (.tmp 52) rfl rfl (by kernel_rfl) (by decide) (by rfl) ?sv12a ?sv12b ?sv12c ?sv12d ?sv12e (fun _ h => h.2.1.cs) (fun _ h => ⟨⟨⟨h.1.1.1.1.1.fars (by have := HGP.out; have := h.2.2; omega) _ _, h.1.1.1.1.2.fars (by have := HGP.out; have := h.2.2; omega) _ _⟩, below_sets (by have := h.2.2; omega) _ _ h.1.1.1.2⟩, ⟨h.2.1.sets s2 A2 n2 c2, h.1.2.sets h.2.1.2.2.2.2 0 _⟩, h.2.2⟩) (fun _ h => h.1) ((fun _ _ h hb => ⟨⟨⟨h.1.1.1.below hb, h.1.1.2.below hb⟩, below_on h.1.2 hb⟩, ⟨h.2.1.1.below hb, h.2.1.2.below hb⟩, h.2.2⟩)) ?sv12f
        case sv12a => rfl
        case sv12b => rfl
        case sv12c => rfl
        case sv12d => rfl
        case sv12e => rfl
        try simp only [List.getElem_toArray, List.getElem_cons_zero, List.getElem_cons_succ, Act.put, List.setIfInBounds_toArray, List.set_cons_zero, List.set_cons_succ]
        refine wpAnyE_take (i := 10) (v := ?_) ((fun _ _ h hb => ⟨⟨⟨h.1.1.1.below hb, h.1.1.2.below hb⟩, below_on h.1.2 hb⟩, ⟨h.2.1.1.below hb, h.2.1.2.below hb⟩, h.2.2⟩)) (fun _ h => h.1) rfl (by kernel_rfl) (by kernel_rfl) (by kernel_rfl) (by kernel_rfl) (fun _ _ _ h => h) (SteadyB.of_yields (Or.inl ⟨by rfl, ?_⟩)) ?_
        rotate_left
        · intro wq hSw
          go_simp
          (try with_reducible rfl)
        try simp only [List.getElem_toArray, List.getElem_cons_zero, List.getElem_cons_succ, Act.put, List.setIfInBounds_toArray, List.set_cons_zero, List.set_cons_succ]
        refine wpAnyE_done (by kernel_rfl) (fun wz hSz => ?_) _
        have HQ9 := hid hSz
        clear hSz HQ7
        obtain ⟨o0, o1, o2, o3, _⟩ := HQ9.out.2.1.1
        have ol := HQ9.out.2.1.1.lt
        go_wp2_with fail
        clear o0 o1 o2 o3 ol
        refine (Ref.sign 84 s2 A2 n2 c2 o _ HQ9.out.2.1.2).mono ?_
        rintro e w7 ⟨rfl, hb⟩
        have HO7 := hid (HO1.out.below (below_on HQ9.out.1.2 hb))
        have HB7 := hid (below_on HB1.out (below_on HQ9.out.1.2 hb))
        have HP7 := hid ((PC.of HQ9.out.1.1.2).below hb)
        clear hb HQ9 HO1 HB1
        by_cases c1 : 0 ≤ cmpI o 0
        · have HE := hid (HYS.out (by unfold Mu.elig; rw [HOV.out]; simpa using c1))
          clear HYS HNO HOV
          obtain ⟨q0, q1, q2⟩ := HP7.out
          clear q0 q1 q2
          go_wp2_with (first | (at_builtin; refine wpList_append_int _ rfl (.tmp 60) (.tmp 62) rfl w1.heap.size A' n' c' _ rfl (HO7.out.alloc _) w7.heap.size k rfl (by simp) (by omega) (by simp; have := HB7.out.size; omega) ?_; intro A8 c8 w8 hown hgrow; have HO8 := hid hown; have HP8 := hid (HP7.out.far hgrow HNE.out); have HB8 := hid ((HB7.out.alloc HB7.out.size _).grown hgrow (by simp; have := HB7.out.size; omega) (fun k hk => HO7.out.rowGe k hk)); obtain ⟨r0, r1, r2⟩ := HP8.out; clear hown hgrow))
          clear r0 r1 r2
          refine (Vtime.since x.1 t _).mono ?_
          rintro e w9 ⟨rfl, hb⟩
          have HO9 := hid (HO8.out.below hb)
          have HB9 := hid (below_on HB8.out hb)
          have HP9 := hid (HP8.out.below hb)
          clear hb HO8 HB8 HP8
          cases nr with
          | false =>
            go_wp2_with fail
            go_roundg (n - (k + 1))
            case measure => have := HS.out; omega
            case rel => exact ⟨k + 1, A8, (n' + 1), c8, false, by go_num, rfl, (by first | rfl | simp [g2] | simp [g1]), by omega, rfl, ⟨by rw [HE.out]; exact HO9.out, by omega⟩, (fun h => by cases h), HB9.out⟩
          | true =>
            obtain ⟨q0, q1, q2⟩ := HP9.out
            go_wp2_with fail
            clear q0 q1 q2
            refine (Pos.rightF x _).mono ?_
            rintro e w10 ⟨rfl, hb⟩
            replace HO9 := hid (HO9.out.below hb)
            replace HB9 := hid (below_on HB9.out hb)
            clear hb HP9
            cases hpr : pR x with
            | false =>
              go_wp2_with fail
              go_roundg (n - (k + 1))
              case measure => have := HS.out; omega
              case rel => exact ⟨k + 1, A8, (n' + 1), c8, false, by go_num, rfl, (by first | rfl | simp [g2] | simp [g1]), by omega, rfl, ⟨by rw [HE.out]; exact HO9.out, by omega⟩, (fun h => by cases h), HB9.out⟩
            | true =>
              have HPR := hid hpr
              clear hpr
              by_cases g1 : -1152921504606846976 < dif x.1 t
              · by_cases g2 : dif x.1 t < 1152921504606846976
                · have HN := hid (HNK.out ⟨⟨HPR.out, HX.out⟩, g1, g2⟩ (HNR.out (by trivial)).2)
                  go_wp2_with fail
                  go_roundg (n - (k + 1))
                  case measure => have := HS.out; omega
                  case rel => exact ⟨k + 1, A8, (n' + 1), c8, true, by go_num, rfl, (by first | rfl | simp [g2] | simp [g1]), by omega, rfl, ⟨by rw [HE.out]; exact HO9.out, by omega⟩, (fun _ => ⟨(HNR.out (by trivial)).1, HN.out⟩), HB9.out⟩
                · skip
                  go_wp2_with fail
                  go_roundg (n - (k + 1))
                  case measure => have := HS.out; omega
                  case rel => exact ⟨k + 1, A8, (n' + 1), c8, false, by go_num, rfl, (by first | rfl | simp [g2] | simp [g1]), by omega, rfl, ⟨by rw [HE.out]; exact HO9.out, by omega⟩, (fun h => by cases h), HB9.out⟩
              · skip
                go_wp2_with fail
                go_roundg (n - (k + 1))
                case measure => have := HS.out; omega
                case rel => exact ⟨k + 1, A8, (n' + 1), c8, false, by go_num, rfl, (by first | rfl | simp [g2] | simp [g1]), by omega, rfl, ⟨by rw [HE.out]; exact HO9.out, by omega⟩, (fun h => by cases h), HB9.out⟩
        · have HE := hid (HNO.out (by unfold Mu.elig; rw [HOV.out]; simpa using c1))
          clear HYS HNO HOV
          have HO8 := HO7
          have HB8 := HB7
          have HP8 := HP7
          clear HO7 HB7 HP7
          obtain ⟨q0, q1, q2⟩ := HP8.out
          go_wp2_with fail
          clear q0 q1 q2
          refine (Vtime.since x.1 t _).mono ?_
          rintro e w9 ⟨rfl, hb⟩
          have HO9 := hid (HO8.out.below hb)
          have HB9 := hid (below_on HB8.out hb)
          have HP9 := hid (HP8.out.below hb)
          clear hb HO8 HB8 HP8
          cases nr with
          | false =>
            go_wp2_with fail
            go_roundg (n - (k + 1))
            case measure => have := HS.out; omega
            case rel => exact ⟨k + 1, A', n', c', false, by go_num, rfl, (by first | rfl | simp [g2] | simp [g1]), by omega, rfl, ⟨by rw [HE.out]; exact HO9.out, by omega⟩, (fun h => by cases h), HB9.out⟩
          | true =>
            obtain ⟨q0, q1, q2⟩ := HP9.out
            go_wp2_with fail
            clear q0 q1 q2
            refine (Pos.rightF x _).mono ?_
            rintro e w10 ⟨rfl, hb⟩
            replace HO9 := hid (HO9.out.below hb)
            replace HB9 := hid (below_on HB9.out hb)
            clear hb HP9
            cases hpr : pR x with
            | false =>
              go_wp2_with fail
              go_roundg (n - (k + 1))
              case measure => have := HS.out; omega
              case rel => exact ⟨k + 1, A', n', c', false, by go_num, rfl, (by first | rfl | simp [g2] | simp [g1]), by omega, rfl, ⟨by rw [HE.out]; exact HO9.out, by omega⟩, (fun h => by cases h), HB9.out⟩
            | true =>
              have HPR := hid hpr
              clear hpr
              by_cases g1 : -1152921504606846976 < dif x.1 t
              · by_cases g2 : dif x.1 t < 1152921504606846976
                · have HN := hid (HNK.out ⟨⟨HPR.out, HX.out⟩, g1, g2⟩ (HNR.out (by trivial)).2)
                  go_wp2_with fail
                  go_roundg (n - (k + 1))
                  case measure => have := HS.out; omega
                  case rel => exact ⟨k + 1, A', n', c', true, by go_num, rfl, (by first | rfl | simp [g2] | simp [g1]), by omega, rfl, ⟨by rw [HE.out]; exact HO9.out, by omega⟩, (fun _ => ⟨(HNR.out (by trivial)).1, HN.out⟩), HB9.out⟩
                · skip
                  go_wp2_with fail
                  go_roundg (n - (k + 1))
                  case measure => have := HS.out; omega
                  case rel => exact ⟨k + 1, A', n', c', false, by go_num, rfl, (by first | rfl | simp [g2] | simp [g1]), by omega, rfl, ⟨by rw [HE.out]; exact HO9.out, by omega⟩, (fun h => by cases h), HB9.out⟩
              · skip
                go_wp2_with fail
                go_roundg (n - (k + 1))
                case measure => have := HS.out; omega
                case rel => exact ⟨k + 1, A', n', c', false, by go_num, rfl, (by first | rfl | simp [g2] | simp [g1]), by omega, rfl, ⟨by rw [HE.out]; exact HO9.out, by omega⟩, (fun h => by cases h), HB9.out⟩
    · obtain rfl : k = n := by omega
      have hki : ¬ (k : Int) < k := by omega
      have HEQ : Hid ((owdP m l l.length == owdP m l k) = true) := hid (by rw [HLN.out]; simp)
      have HO2 := hid HO.out.1
      clear HO
      have HR1 := hid (HR.out.below (below_on HQ.out.2 HB.out))
      cases nr with
      | false =>
        clear HNR HS
        go_wp2_with fail
        refine (Mean.of t HTT.out A k c l _ HR1.out HL.out (by omega)).mono ?_
        rintro e w2 ⟨rfl, hb⟩
        generalize Mu.of t l = z
        have ha := (Below.refl w2.heap.size w2).alloc (Nat.le_refl _) (.cells #[.int .u64 z.2.b, .int .i64 (hiW z.2.a), .int .u64 (loW z.2.a), .int .u64 z.2.w, .int .i64 z.2.n] 36)
        replace HO2 := hid ((HO2.out.below hb).below ha)
        have HC2 := hid (((HQ.out.1.below HB.out).below hb).below ha)
        have HR2 := hid ((HR1.out.below hb).below ha)
        have HB2 := hid (below_on (below_on (below_on HQ.out.2 HB.out) hb) ha)
        clear ha hb HQ HB HR1
        obtain ⟨m0, m1, m2, m3, m4⟩ := Mu.at m HC2.out
        go_wp2_with fail
        clear m0 m1 m2 m3 m4
        refine (Lag.owed m HM.out A k c l _ HR2.out HL.out (by omega)).mono ?_
        rintro e w3 ⟨A3, n3, c3, B3, rfl, ho, hb⟩
        have HO3 := hid ho
        replace HO2 := hid (HO2.out.below hb)
        replace HC2 := hid (HC2.out.below hb)
        replace HR2 := hid (HR2.out.below hb)
        replace HB2 := hid (below_on HB2.out hb)
        clear ho hb
        go_wp2_with fail
        refine (Sls.equal A3 A' n3 c3 n' c' _ _ _ HO3.out.1.rdi HO2.out.rdi HO3.out.2 (by omega)).mono ?_
        rw [HEQ.out]
        rintro e w4 ⟨rfl, hb⟩
        replace HC2 := hid (HC2.out.below hb)
        replace HR2 := hid (HR2.out.below hb)
        replace HB2 := hid (below_on HB2.out hb)
        clear hb HO2 HO3
        obtain ⟨m0, m1, m2, m3, m4⟩ := Mu.at m HC2.out
        go_wp2_with fail
        clear m0 m1 m2 m3 m4
        refine (Lag.owed m HM.out none 0 0 [] _ (RdP.nil _) (by simp) (by omega)).mono ?_
        rintro e w6 ⟨A6, n6, c6, B6, rfl, ho, hb⟩
        obtain rfl : n6 = 0 := by have := ho.1.len; simpa [owdP] using this.symm
        replace HB2 := hid (below_on HB2.out hb)
        clear hb ho
        go_wp2_with fail
        go_ret
        exact ⟨by first | rfl | simp, HB2.out⟩
      | true =>
        have HNL : Hid (∀ p ∈ l, NrP 1152921504606846976 t p) := hid (by have := (HNR.out (by trivial)).2; rwa [List.take_of_length_le (by have := HLN.out; omega)] at this)
        have HKB := hid (HNR.out (by trivial)).1
        have HOK : Hid (∀ p ∈ l, pR p = true ∧ PIn p) := hid (fun p hp => (HNL.out p hp).1)
        have E1 := hid (of_yes t HOK.out (by have := HLN.out; have := HKB.out; omega))
        have HI1 := hid (sums_in HTT.out HOK.out (by have := HLN.out; have := HKB.out; omega))
        have HPO := hid (owd_some (t := t) HOK.out (by have := HLN.out; have := HKB.out; omega) (by have := HLN.out; have := HKB.out; omega))
        clear HNR HS HNL HOK
        go_wp2_with fail
        refine (Mean.of t HTT.out A k c l _ HR1.out HL.out (by omega)).mono ?_
        rw [E1.out]
        rintro e w2 ⟨rfl, hb⟩
        have ha := (Below.refl w2.heap.size w2).alloc (Nat.le_refl _) (.cells #[.int .u64 (Mu.sums t l).b, .int .i64 (hiW (Mu.sums t l).a), .int .u64 (loW (Mu.sums t l).a), .int .u64 (Mu.sums t l).w, .int .i64 (Mu.sums t l).n] 36)
        replace HO2 := hid ((HO2.out.below hb).below ha)
        have HC2 := hid (((HQ.out.1.below HB.out).below hb).below ha)
        have HR2 := hid ((HR1.out.below hb).below ha)
        have HB2 := hid (below_on (below_on (below_on HQ.out.2 HB.out) hb) ha)
        have HV2 : Hid (Cs (w2.alloc (.cells #[.int .u64 (Mu.sums t l).b, .int .i64 (hiW (Mu.sums t l).a), .int .u64 (loW (Mu.sums t l).a), .int .u64 (Mu.sums t l).w, .int .i64 (Mu.sums t l).n] 36)) w2.heap.size (Mu.sums t l).cells) := hid (Cs.alloc_new6 w2 36 (Mu.sums t l).cells)
        clear ha hb HQ HB HR1
        obtain ⟨m0, m1, m2, m3, m4⟩ := Mu.at m HC2.out
        go_wp2_with fail
        clear m0 m1 m2 m3 m4
        refine (Lag.owed m HM.out A k c l _ HR2.out HL.out (by omega)).mono ?_
        rintro e w3 ⟨A3, n3, c3, B3, rfl, ho, hb⟩
        have HO3 := hid ho
        replace HO2 := hid (HO2.out.below hb)
        replace HC2 := hid (HC2.out.below hb)
        replace HR2 := hid (HR2.out.below hb)
        replace HB2 := hid (below_on HB2.out hb)
        replace HV2 := hid (HV2.out.below hb)
        clear ho hb
        go_wp2_with fail
        refine (Sls.equal A3 A' n3 c3 n' c' _ _ _ HO3.out.1.rdi HO2.out.rdi HO3.out.2 (by omega)).mono ?_
        rw [HEQ.out]
        rintro e w4 ⟨rfl, hb⟩
        replace HC2 := hid (HC2.out.below hb)
        replace HR2 := hid (HR2.out.below hb)
        replace HB2 := hid (below_on HB2.out hb)
        replace HV2 := hid (HV2.out.below hb)
        clear hb HO2 HO3
        obtain ⟨m0, m1, m2, m3, m4⟩ := Mu.at m HC2.out
        obtain ⟨v0, v1, v2, v3, v4⟩ := Mu.at (Mu.sums t l) HV2.out
        go_wp2_with fail
        clear m0 m1 m2 m3 m4 v0 v1 v2 v3 v4
        refine (Lag.owed (Mu.sums t l) HI1.out A k c l _ HR2.out HL.out (by omega)).mono ?_
        rintro e w5 ⟨A5, n5, c5, B5, rfl, ho, hb⟩
        have h5 : 0 < n5 := by
          rcases Nat.eq_zero_or_pos n5 with h | h
          · exact absurd (List.eq_nil_of_length_eq_zero (ho.1.len.trans h)) HPO.out
          · exact h
        have h5i : (0 : Int) < (n5 : Int) := by omega
        replace HC2 := hid (HC2.out.below hb)
        replace HB2 := hid (below_on HB2.out hb)
        clear hb ho HV2
        obtain ⟨m0, m1, m2, m3, m4⟩ := Mu.at m HC2.out
        go_wp2_with fail
        clear m0 m1 m2 m3 m4
        refine (Lag.owed m HM.out none 0 0 [] _ (RdP.nil _) (by simp) (by omega)).mono ?_
        rintro e w6 ⟨A6, n6, c6, B6, rfl, ho, hb⟩
        obtain rfl : n6 = 0 := by have := ho.1.len; simpa [owdP] using this.symm
        replace HB2 := hid (below_on HB2.out hb)
        clear hb ho
        go_wp2_with fail
        go_ret
        exact ⟨by first | rfl | simp, HB2.out⟩
theorem Lowed.law (m : Mu) (t : Int) (A : Option Addr) (n c : Nat) (l : List P3) (w : World) (hm : m.In) (w0 : (Lit.int .u64 t).wf = true) (h : RdP w A n l ∧ InP l ∧ n ≤ 9223372036854775807) (htab : Tab10 w.heap.size w) :
    Calls Tryz.prog 6 #[m.val, .int .u64 t, .slice A n c] w fun e w' => e = .returned (.bool true) ∧ Below w.heap.size w w' := by
  by_cases h1 : 40 < n
  · exact Lowed.away1 m t A n c w h1 htab
  · by_cases h2 : m.n < 0
    · exact Lowed.away2 m t A n c w (by omega) h2 htab
    · by_cases h3 : 1000 < m.n
      · exact Lowed.away3 m t A n c w (by omega) h2 h3 htab
      · by_cases h4 : n = 0
        · exact Lowed.none0 m hm t (bounds_u64 w0) A n c l w h.1 (fun q hq => h.2.1 q hq) (by omega) h2 h3 h4 htab
        · by_cases h5 : n ≤ 32
          · exact Lowed.near0 m hm t (bounds_u64 w0) A n c l w h.1 (fun q hq => h.2.1 q hq) (by omega) h2 h3 (by omega) h5 htab
          · exact Lowed.far0 m hm t (bounds_u64 w0) A n c l w h.1 (fun q hq => h.2.1 q hq) (by omega) h2 h3 (by omega) h5 htab
end

end Go.Proofs.YthmilhhihcmdhaaGreatDoor
