/- Texts of ClampCarries's proof, together. -/
import Derived.Test.YtklaghleghncoaaGreatDoorClampCarriesZ10
import Derived.Test.YtklaghleghncoaaGreatDoorClampCarriesZ19
import Derived.Test.YtklaghleghncoaaGreatDoorRbB
import Derived.Test.YtklaghleghncoaaGreatDoorClampCarriesZ27
import Derived.Test.YtklaghleghncoaaGreatDoorClampCarriesZ30
import Derived.Test.YtklaghleghncoaaGreatDoorClampCarriesZ37
import Derived.Test.YtklaghleghncoaaGreatDoorStr
import Derived.Test.YtklaghleghncoaaGreatDoorClampCarriesZ24
import Derived.Deep.AppendLies
import Derived.Test.YtklaghleghncoaaGreatDoorClampCarriesZ32
import Derived.Test.YtklaghleghncoaaGreatDoorClampCarriesZ26
import Derived.Test.YtklaghleghncoaaGreatDoorClG
import Derived.Test.YtklaghleghncoaaGreatDoorOrdG
namespace Go.Proofs.YtklaghleghncoaaGreatDoor
/- The chapter's example of layer 8, as the laws ask it. -/
section
open Go.RowKit
theorem Law7.Awake (w : World) : Calls Tryz.prog 46 #[] w (Ans (.bool true) w) := by
  go_enter Tryz.func46, Tryz.ntmps46
  go_wp2_with (go_at_call 98; refine (Law7.awake _).mono ?_; rintro e w' ⟨rfl, hb⟩)
  go_ret
  exact ⟨rfl, hb⟩
theorem ex8 : Mu.of 5 [(5, 0, 1), (8, 0, 1)] = (true, ⟨5, 3, 2, 2⟩) := by
  rw [of_yes 5 (l := [(5, 0, 1), (8, 0, 1)]) (fun p hp => by
    simp at hp
    rcases hp with rfl | rfl
    · exact ⟨by decide, ⟨by decide, by decide⟩, ⟨by decide, by decide⟩, by decide, by decide⟩
    · exact ⟨by decide, ⟨by decide, by decide⟩, ⟨by decide, by decide⟩, by decide, by decide⟩) (by decide)]
  rfl
theorem ex8f : Mu.fl ⟨5, 3, 2, 2⟩ = (true, 6) := by first | rfl | decide +kernel
theorem ex8t : txtOf 3 = [51] := by first | decide +kernel | (unfold txtOf; rw [if_neg (by decide)]; simp [Lib.decDigits])
theorem Tab10.at2 {w0 w : World} (h : Tab10 w0.heap.size w0) (hb : Below w0.heap.size w0 w) : Tab10 w.heap.size w := Tab10.of (h.on hb).here
set_option maxRecDepth 100000 in
set_option maxHeartbeats 4000000 in
theorem Law8.awake (w : World) (htab : Tab10 w.heap.size w) : Calls Tryz.prog 7 #[] w (Ans (.bool true) w) := by
  have HT := hid htab
  have HB0 := hid ((Below.refl w.heap.size w).alloc (Nat.le_refl _) (.cells #[.int .u64 5, .int .u32 0, .int .u32 1, .int .u64 8, .int .u32 0, .int .u32 1] 29))
  have HR := hid (RdP.new2 w 29 5 0 1 8 0 1)
  clear htab
  go_enter Tryz.func7, Tryz.ntmps7
  go_wp2_with fail

  generalize (w.alloc (.cells #[.int .u64 5, .int .u32 0, .int .u32 1, .int .u64 8, .int .u32 0, .int .u32 1] 29)) = W0 at HB0 HR ⊢
  refine (Mean.of 5 ⟨by decide, by decide⟩ (some ⟨w.heap.size, 0, none⟩) 2 2 [(5, 0, 1), (8, 0, 1)] _ HR.out (fun p hp => by
    simp at hp
    rcases hp with rfl | rfl
    · exact ⟨⟨by decide, by decide⟩, ⟨by decide, by decide⟩, by decide, by decide⟩
    · exact ⟨⟨by decide, by decide⟩, ⟨by decide, by decide⟩, by decide, by decide⟩) (by decide)).mono ?_
  rw [ex8]
  rintro e w1 ⟨rfl, hb⟩
  have ha := (Below.refl w1.heap.size w1).alloc (Nat.le_refl _) (.cells #[.int .u64 5, .int .i64 (hiW 3), .int .u64 (loW 3), .int .u64 2, .int .i64 2] 36)
  have HB1 := hid (below_on (below_on HB0.out hb) ha)
  have HC1 : Hid (Cs (w1.alloc (.cells #[.int .u64 5, .int .i64 (hiW 3), .int .u64 (loW 3), .int .u64 2, .int .i64 2] 36)) w1.heap.size (Mu.mk 5 3 2 2).cells) := hid (Cs.alloc_new6 w1 _ (Mu.mk 5 3 2 2).cells)
  clear hb ha HB0 HR
  go_wp2_with fail
  generalize (w1.alloc (.cells #[.int .u64 5, .int .i64 (hiW 3), .int .u64 (loW 3), .int .u64 2, .int .i64 2] 36)) = W1 at HB1 HC1 ⊢
  generalize w1.heap.size = g at HC1 ⊢
  refine (Mean.floor ⟨5, 3, 2, 2⟩ (by unfold Mu.In WR; refine ⟨⟨?_, ?_⟩, ⟨?_, ?_⟩, ⟨?_, ?_⟩, ?_, ?_⟩ <;> decide) _).mono ?_
  rw [ex8f]
  rintro e w2 ⟨rfl, hb⟩
  have HB2 := hid (below_on HB1.out hb)
  have HC2 := hid (HC1.out.below hb)
  clear hb HB1 HC1
  go_wp2_with fail
  refine (Law7.Awake _).mono ?_
  rintro e w3 ⟨rfl, hb⟩
  have HB3 := hid (below_on HB2.out hb)
  have HC3 := hid (HC2.out.below hb)
  clear hb HB2 HC2
  obtain ⟨m0, m1, m2, m3, m4⟩ := Mu.at _ HC3.out
  go_wp2_with fail
  refine (Wide.string (hiW 3) (loW 3) 3 (isW_of (by unfold WR; omega)) _ (HT.out.at2 HB3.out)).mono ?_
  rw [ex8t]
  rintro e w4 ⟨rfl, hb⟩
  have HB4 := hid (below_on HB3.out hb)
  have HC4 := hid (HC3.out.below hb)
  clear hb HB3 HC3 m0 m1 m2 m3 m4
  obtain ⟨m0, m1, m2, m3, m4⟩ := Mu.at _ HC4.out
  go_wp2_with fail
  go_ret
  exact ⟨rfl, HB4.out⟩
theorem Law8.Awake (w : World) (htab : Tab10 w.heap.size w) : Calls Tryz.prog 227 #[] w (Ans (.bool true) w) := by
  go_enter Tryz.func227, Tryz.ntmps227
  go_wp2_with (go_at_call 7; refine (Law8.awake _ htab).mono ?_; rintro e w' ⟨rfl, hb⟩)
  go_ret
  exact ⟨rfl, hb⟩
end

/- The chapter's example of layer 9, as the laws ask it. -/
section
open Go.RowKit
theorem ex9in : (Mu.mk 5 3 2 2).In := by unfold Mu.In WR; refine ⟨⟨?_, ?_⟩, ⟨?_, ?_⟩, ⟨?_, ?_⟩, ?_, ?_⟩ <;> decide
theorem ex9p : PIn (5, 0, 1) := ⟨⟨by decide, by decide⟩, ⟨by decide, by decide⟩, by decide, by decide⟩
theorem ex9q : PIn (8, 0, 1) := ⟨⟨by decide, by decide⟩, ⟨by decide, by decide⟩, by decide, by decide⟩
theorem ex9a (w : World) : Calls Tryz.prog 84 #[(Mu.mk 5 3 2 2).val, pv (5, 0, 1)] w (Ans (.bool true) w) := by
  have h := Lag.eligible (Mu.mk 5 3 2 2) (5, 0, 1) ex9in ex9p w
  rwa [show (Mu.mk 5 3 2 2).elig (5, 0, 1) = true by first | rfl | decide +kernel] at h
theorem ex9b (w : World) : Calls Tryz.prog 84 #[(Mu.mk 5 3 2 2).val, pv (8, 0, 1)] w (Ans (.bool false) w) := by
  have h := Lag.eligible (Mu.mk 5 3 2 2) (8, 0, 1) ex9in ex9q w
  rwa [show (Mu.mk 5 3 2 2).elig (8, 0, 1) = false by first | rfl | decide +kernel] at h
theorem ex9c (w : World) : Calls Tryz.prog 80 #[(Mu.mk 5 3 2 2).val, pv (5, 0, 1)] w (Ans (.tuple #[wv 1, .bool true]) w) := by
  have h := Lag.read (Mu.mk 5 3 2 2) (5, 0, 1) ex9in ex9p w
  rwa [show (Mu.mk 5 3 2 2).lag (5, 0, 1) = (true, 1) by first | rfl | decide +kernel] at h
theorem ex9d (w : World) : Calls Tryz.prog 80 #[(Mu.mk 5 3 2 2).val, pv (8, 0, 1)] w (Ans (.tuple #[wv (-2), .bool true]) w) := by
  have h := Lag.read (Mu.mk 5 3 2 2) (8, 0, 1) ex9in ex9q w
  rwa [show (Mu.mk 5 3 2 2).lag (8, 0, 1) = (true, -2) by first | rfl | decide +kernel] at h
/-- The example's variables. -/
def A9 (w : World) (g3 g4 g5 : Nat) (W : World) : Prop := (Cs W w.heap.size (pcells (5, 0, 1)) ∧ Cs W (w.heap.size + 1) (pcells (8, 0, 1)) ∧ Cs W g3 (Mu.mk 5 3 2 2).cells) ∧ (Cs W g4 [.int .i64 (hiW 1), .int .u64 (loW 1)] ∧ Cs W g5 [.int .i64 (hiW (-2)), .int .u64 (loW (-2))]) ∧ Below w.heap.size w W
theorem A9.below {w w1 w2 : World} {g3 g4 g5 : Nat} (h : A9 w g3 g4 g5 w1) (hb : Below w1.heap.size w1 w2) : A9 w g3 g4 g5 w2 := ⟨⟨h.1.1.below hb, h.1.2.1.below hb, h.1.2.2.below hb⟩, ⟨h.2.1.1.below hb, h.2.1.2.below hb⟩, below_on h.2.2 hb⟩
theorem A9.stays (w : World) (g3 g4 g5 : Nat) : Stays (A9 w g3 g4 g5) := fun _ _ h hb => h.below hb
set_option maxRecDepth 100000 in
set_option maxHeartbeats 8000000 in
theorem Law9.awake (w : World) (htab : Tab10 w.heap.size w) : Calls Tryz.prog 219 #[] w (Ans (.bool true) w) := by
  have HT := hid htab
  have HA0 : Hid ((Cs (((w.alloc (.cells #[.int .u64 5, .int .u32 0, .int .u32 1] 29)).alloc (.cells #[.int .u64 8, .int .u32 0, .int .u32 1] 29)).alloc (.cells #[.int .u64 5, .int .u32 0, .int .u32 1, .int .u64 8, .int .u32 0, .int .u32 1] 29)) w.heap.size (pcells (5, 0, 1)) ∧ Cs (((w.alloc (.cells #[.int .u64 5, .int .u32 0, .int .u32 1] 29)).alloc (.cells #[.int .u64 8, .int .u32 0, .int .u32 1] 29)).alloc (.cells #[.int .u64 5, .int .u32 0, .int .u32 1, .int .u64 8, .int .u32 0, .int .u32 1] 29)) (w.heap.size + 1) (pcells (8, 0, 1))) ∧ RdP (((w.alloc (.cells #[.int .u64 5, .int .u32 0, .int .u32 1] 29)).alloc (.cells #[.int .u64 8, .int .u32 0, .int .u32 1] 29)).alloc (.cells #[.int .u64 5, .int .u32 0, .int .u32 1, .int .u64 8, .int .u32 0, .int .u32 1] 29)) (some ⟨w.heap.size + 2, 0, none⟩) 2 [(5, 0, 1), (8, 0, 1)] ∧ Below w.heap.size w (((w.alloc (.cells #[.int .u64 5, .int .u32 0, .int .u32 1] 29)).alloc (.cells #[.int .u64 8, .int .u32 0, .int .u32 1] 29)).alloc (.cells #[.int .u64 5, .int .u32 0, .int .u32 1, .int .u64 8, .int .u32 0, .int .u32 1] 29))) := hid (by
    have h1 := Cs.alloc_new6 w 29 (pcells (5, 0, 1))
    have h2 := Cs.alloc_new6 (w.alloc (.cells #[.int .u64 5, .int .u32 0, .int .u32 1] 29)) 29 (pcells (8, 0, 1))
    have h3 := RdP.new2 ((w.alloc (.cells #[.int .u64 5, .int .u32 0, .int .u32 1] 29)).alloc (.cells #[.int .u64 8, .int .u32 0, .int .u32 1] 29)) 29 5 0 1 8 0 1
    simp only [World.size_alloc] at h2 h3
    exact ⟨⟨(h1.alloc _).alloc _, h2.alloc _⟩, h3, (((Below.refl w.heap.size w).alloc (Nat.le_refl _) _).alloc (by simp) _).alloc (by simp; omega) _⟩)
  clear htab
  go_enter Tryz.func219, Tryz.ntmps219
  go_wp2_with fail
  generalize (((w.alloc (.cells #[.int .u64 5, .int .u32 0, .int .u32 1] 29)).alloc (.cells #[.int .u64 8, .int .u32 0, .int .u32 1] 29)).alloc (.cells #[.int .u64 5, .int .u32 0, .int .u32 1, .int .u64 8, .int .u32 0, .int .u32 1] 29)) = W3 at HA0 ⊢
  refine (Mean.of 5 ⟨by decide, by decide⟩ (some ⟨w.heap.size + 2, 0, none⟩) 2 2 [(5, 0, 1), (8, 0, 1)] _ HA0.out.2.1 (fun p hp => by
    simp at hp
    rcases hp with rfl | rfl
    · exact ex9p
    · exact ex9q) (by decide)).mono ?_
  rw [ex8]
  rintro e w1 ⟨rfl, hb⟩
  have ha := (Below.refl w1.heap.size w1).alloc (Nat.le_refl _) (.cells #[.int .u64 5, .int .i64 (hiW 3), .int .u64 (loW 3), .int .u64 2, .int .i64 2] 36)
  have HA1 : Hid (((Cs (w1.alloc (.cells #[.int .u64 5, .int .i64 (hiW 3), .int .u64 (loW 3), .int .u64 2, .int .i64 2] 36)) w.heap.size (pcells (5, 0, 1)) ∧ Cs (w1.alloc (.cells #[.int .u64 5, .int .i64 (hiW 3), .int .u64 (loW 3), .int .u64 2, .int .i64 2] 36)) (w.heap.size + 1) (pcells (8, 0, 1))) ∧ Cs (w1.alloc (.cells #[.int .u64 5, .int .i64 (hiW 3), .int .u64 (loW 3), .int .u64 2, .int .i64 2] 36)) w1.heap.size (Mu.mk 5 3 2 2).cells) ∧ Below w.heap.size w (w1.alloc (.cells #[.int .u64 5, .int .i64 (hiW 3), .int .u64 (loW 3), .int .u64 2, .int .i64 2] 36))) := hid ⟨⟨⟨(HA0.out.1.1.below hb).below ha, (HA0.out.1.2.below hb).below ha⟩, Cs.alloc_new6 w1 _ (Mu.mk 5 3 2 2).cells⟩, below_on (below_on HA0.out.2.2 hb) ha⟩
  clear hb ha HA0
  obtain ⟨m0, m1, m2, m3, m4⟩ := Mu.at (Mu.mk 5 3 2 2) HA1.out.1.2
  obtain ⟨q0, q1, q2⟩ := P3.at (5, 0, 1) HA1.out.1.1.1
  dsimp only at m0 m1 m2 m3 m4 q0 q1 q2
  go_wp2_with fail
  clear m0 m1 m2 m3 m4 q0 q1 q2
  generalize w1.alloc (.cells #[.int .u64 5, .int .i64 (hiW 3), .int .u64 (loW 3), .int .u64 2, .int .i64 2] 36) = W4 at HA1 ⊢
  generalize w1.heap.size = g3 at HA1 ⊢
  refine (ex9c _).mono ?_
  rintro e w2 ⟨rfl, hb⟩
  have ha := (Below.refl w2.heap.size w2).alloc (Nat.le_refl _) (.cells #[.int .i64 (hiW 1), .int .u64 (loW 1)] 34)
  have HA2 : Hid (((Cs (w2.alloc (.cells #[.int .i64 (hiW 1), .int .u64 (loW 1)] 34)) w.heap.size (pcells (5, 0, 1)) ∧ Cs (w2.alloc (.cells #[.int .i64 (hiW 1), .int .u64 (loW 1)] 34)) (w.heap.size + 1) (pcells (8, 0, 1))) ∧ Cs (w2.alloc (.cells #[.int .i64 (hiW 1), .int .u64 (loW 1)] 34)) g3 (Mu.mk 5 3 2 2).cells) ∧ Cs (w2.alloc (.cells #[.int .i64 (hiW 1), .int .u64 (loW 1)] 34)) w2.heap.size [.int .i64 (hiW 1), .int .u64 (loW 1)] ∧ Below w.heap.size w (w2.alloc (.cells #[.int .i64 (hiW 1), .int .u64 (loW 1)] 34))) := hid ⟨⟨⟨(HA1.out.1.1.1.below hb).below ha, (HA1.out.1.1.2.below hb).below ha⟩, (HA1.out.1.2.below hb).below ha⟩, Cs.new2 w2 _ _ _, below_on (below_on HA1.out.2 hb) ha⟩
  clear hb ha HA1
  obtain ⟨m0, m1, m2, m3, m4⟩ := Mu.at (Mu.mk 5 3 2 2) HA2.out.1.2
  obtain ⟨q0, q1, q2⟩ := P3.at (8, 0, 1) HA2.out.1.1.2
  dsimp only at m0 m1 m2 m3 m4 q0 q1 q2
  go_wp2_with fail
  clear m0 m1 m2 m3 m4 q0 q1 q2
  generalize w2.alloc (.cells #[.int .i64 (hiW 1), .int .u64 (loW 1)] 34) = W5 at HA2 ⊢
  generalize w2.heap.size = g4 at HA2 ⊢
  refine (ex9d _).mono ?_
  rintro e w3 ⟨rfl, hb⟩
  have ha := (Below.refl w3.heap.size w3).alloc (Nat.le_refl _) (.cells #[.int .i64 (hiW (-2)), .int .u64 (loW (-2))] 34)
  have HA5 : Hid (A9 w g3 g4 w3.heap.size (w3.alloc (.cells #[.int .i64 (hiW (-2)), .int .u64 (loW (-2))] 34))) := hid ⟨⟨(HA2.out.1.1.1.below hb).below ha, (HA2.out.1.1.2.below hb).below ha, (HA2.out.1.2.below hb).below ha⟩, ⟨(HA2.out.2.1.below hb).below ha, Cs.new2 w3 _ _ _⟩, below_on (below_on HA2.out.2.2 hb) ha⟩
  clear hb ha HA2
  go_wp2_with fail
  generalize w3.alloc (.cells #[.int .i64 (hiW (-2)), .int .u64 (loW (-2))] 34) = W6 at HA5 ⊢
  generalize w3.heap.size = g5 at HA5 ⊢
  refine wp_region_grow (S := A9 w g3 g4 g5) 32 (by kernel_rfl) (HA5.out.below (Below.refl _ _).drew) ?_
  refine wpAnyE_take (i := 0) (v := Value.bool true) (A9.stays w g3 g4 g5) (fun _ h => h) rfl (by kernel_rfl) (by kernel_rfl) (by kernel_rfl) (by kernel_rfl) (fun _ _ _ h => h) (Or.inl ⟨by rfl, fun wq hSw => ?_⟩) ?_
  · refine RunB.of_calls (Law8.Awake wq (HT.out.at2 hSw.2.2)) (by go_simp) ?_
    rintro e wr ⟨rfl, hb⟩
    exact ⟨rfl, hb⟩
  try simp only [List.getElem_toArray, List.getElem_cons_zero, List.getElem_cons_succ, Act.put, List.setIfInBounds_toArray, List.set_cons_zero, List.set_cons_succ]
  refine wpAnyE_take (i := 1) (v := ?_) (A9.stays w g3 g4 g5) (fun _ h => h) rfl (by kernel_rfl) (by kernel_rfl) (by kernel_rfl) (by kernel_rfl) (fun _ _ _ h => h) (SteadyB.of_yields (Or.inl ⟨by rfl, ?_⟩)) ?_
  rotate_left
  · intro wq hSw
    go_simp
    (try with_reducible rfl)
  try simp only [List.getElem_toArray, List.getElem_cons_zero, List.getElem_cons_succ, Act.put, List.setIfInBounds_toArray, List.set_cons_zero, List.set_cons_succ]
  refine wpAnyE_take (i := 2) (v := ?_) (A9.stays w g3 g4 g5) (fun _ h => h) rfl (by kernel_rfl) (by kernel_rfl) (by kernel_rfl) (by kernel_rfl) (fun _ _ _ h => h) (SteadyB.of_yields (Or.inl ⟨by rfl, ?_⟩)) ?_
  rotate_left
  · intro wq hSw
    go_simp
    (try with_reducible rfl)
  try simp only [List.getElem_toArray, List.getElem_cons_zero, List.getElem_cons_succ, Act.put, List.setIfInBounds_toArray, List.set_cons_zero, List.set_cons_succ]
  refine wpAnyE_take (i := 3) (v := ?_) (A9.stays w g3 g4 g5) (fun _ h => h) rfl (by kernel_rfl) (by kernel_rfl) (by kernel_rfl) (by kernel_rfl) (fun _ _ _ h => h) (SteadyB.of_yields (Or.inl ⟨by rfl, ?_⟩)) ?_
  rotate_left
  · intro wq hSw
    go_simp
    (try with_reducible rfl)
  try simp only [List.getElem_toArray, List.getElem_cons_zero, List.getElem_cons_succ, Act.put, List.setIfInBounds_toArray, List.set_cons_zero, List.set_cons_succ]
  refine wpAnyE_take (i := 4) (v := ?_) (A9.stays w g3 g4 g5) (fun _ h => h) rfl (by kernel_rfl) (by kernel_rfl) (by kernel_rfl) (by kernel_rfl) (fun _ _ _ h => h) (SteadyB.of_yields (Or.inl ⟨by rfl, ?_⟩)) ?_
  rotate_left
  · intro wq hSw
    go_simp
    (try with_reducible rfl)
  try simp only [List.getElem_toArray, List.getElem_cons_zero, List.getElem_cons_succ, Act.put, List.setIfInBounds_toArray, List.set_cons_zero, List.set_cons_succ]
  refine wpAnyE_take (i := 5) (v := ?_) (A9.stays w g3 g4 g5) (fun _ h => h) rfl (by kernel_rfl) (by kernel_rfl) (by kernel_rfl) (by kernel_rfl) (fun _ _ _ h => h) (SteadyB.of_yields (Or.inl ⟨by rfl, ?_⟩)) ?_
  rotate_left
  · intro wq hSw
    go_simp
    (try with_reducible rfl)
  try simp only [List.getElem_toArray, List.getElem_cons_zero, List.getElem_cons_succ, Act.put, List.setIfInBounds_toArray, List.set_cons_zero, List.set_cons_succ]
  refine wpAnyE_take (i := 6) (v := ?_) (A9.stays w g3 g4 g5) (fun _ h => h) rfl (by kernel_rfl) (by kernel_rfl) (by kernel_rfl) (by kernel_rfl) (fun _ _ _ h => h) (SteadyB.of_yields (Or.inl ⟨by rfl, ?_⟩)) ?_
  rotate_left
  · intro wq hSw
    go_simp
    (try with_reducible rfl)
  try simp only [List.getElem_toArray, List.getElem_cons_zero, List.getElem_cons_succ, Act.put, List.setIfInBounds_toArray, List.set_cons_zero, List.set_cons_succ]
  refine wpAnyE_take (i := 7) (v := ?_) (A9.stays w g3 g4 g5) (fun _ h => h) rfl (by kernel_rfl) (by kernel_rfl) (by kernel_rfl) (by kernel_rfl) (fun _ _ _ h => h) (SteadyB.of_yields (Or.inl ⟨by rfl, ?_⟩)) ?_
  rotate_left
  · intro wq hSw
    go_simp
    (try with_reducible rfl)
  try simp only [List.getElem_toArray, List.getElem_cons_zero, List.getElem_cons_succ, Act.put, List.setIfInBounds_toArray, List.set_cons_zero, List.set_cons_succ]
  refine wpAnyE_take (i := 8) (v := ?_) (A9.stays w g3 g4 g5) (fun _ h => h) rfl (by kernel_rfl) (by kernel_rfl) (by kernel_rfl) (by kernel_rfl) (fun _ _ _ h => h) (SteadyB.of_yields (Or.inl ⟨by rfl, ?_⟩)) ?_
  rotate_left
  · intro wq hSw
    go_simp
    (try with_reducible rfl)
  try simp only [List.getElem_toArray, List.getElem_cons_zero, List.getElem_cons_succ, Act.put, List.setIfInBounds_toArray, List.set_cons_zero, List.set_cons_succ]
  refine wpAnyE_take (i := 9) (v := ?_) (A9.stays w g3 g4 g5) (fun _ h => h) rfl (by kernel_rfl) (by kernel_rfl) (by kernel_rfl) (by kernel_rfl) (fun _ _ _ h => h) (SteadyB.of_yields (Or.inl ⟨by rfl, ?_⟩)) ?_
  rotate_left
  · intro wq hSw
    go_simp
    (try with_reducible rfl)
  try simp only [List.getElem_toArray, List.getElem_cons_zero, List.getElem_cons_succ, Act.put, List.setIfInBounds_toArray, List.set_cons_zero, List.set_cons_succ]
  refine wpAnyE_take (i := 10) (v := ?_) (A9.stays w g3 g4 g5) (fun _ h => h) rfl (by kernel_rfl) (by kernel_rfl) (by kernel_rfl) (by kernel_rfl) (fun _ _ _ h => h) (SteadyB.of_yields (Or.inl ⟨by rfl, ?_⟩)) ?_
  rotate_left
  · intro wq hSw
    go_simp
    (try with_reducible rfl)
  try simp only [List.getElem_toArray, List.getElem_cons_zero, List.getElem_cons_succ, Act.put, List.setIfInBounds_toArray, List.set_cons_zero, List.set_cons_succ]
  refine wpAnyE_take (i := 11) (v := ?_) (A9.stays w g3 g4 g5) (fun _ h => h) rfl (by kernel_rfl) (by kernel_rfl) (by kernel_rfl) (by kernel_rfl) (fun _ _ _ h => h) (SteadyB.of_yields (Or.inl ⟨by rfl, ?_⟩)) ?_
  rotate_left
  · intro wq hSw
    obtain ⟨m0, m1, m2, m3, m4⟩ := Mu.at (Mu.mk 5 3 2 2) hSw.1.2.2
    obtain ⟨q0, q1, q2⟩ := P3.at (5, 0, 1) hSw.1.1
    obtain ⟨r0, r1, r2⟩ := P3.at (8, 0, 1) hSw.1.2.1
    have a0 := hSw.2.1.1.at0
    have a1 := hSw.2.1.1.at1
    have b0 := hSw.2.1.2.at0
    have b1 := hSw.2.1.2.at1
    dsimp only at m0 m1 m2 m3 m4 q0 q1 q2 r0 r1 r2
    go_simp
    (try with_reducible rfl)
  try simp only [List.getElem_toArray, List.getElem_cons_zero, List.getElem_cons_succ, Act.put, List.setIfInBounds_toArray, List.set_cons_zero, List.set_cons_succ]
  refine wpAnyE_take (i := 12) (v := wv 1) (A9.stays w g3 g4 g5) (fun _ h => h) rfl (by kernel_rfl) (by kernel_rfl) (by kernel_rfl) (by kernel_rfl) (fun _ _ _ h => h) (Or.inl ⟨by rfl, fun wq hSw => ?_⟩) ?_
  · refine RunB.of_calls (Wide.ofF (x := 1) (by decide) (by decide) wq) (by go_simp) ?_
    rintro e wr ⟨rfl, hb⟩
    exact ⟨rfl, hb⟩
  try simp only [List.getElem_toArray, List.getElem_cons_zero, List.getElem_cons_succ, Act.put, List.setIfInBounds_toArray, List.set_cons_zero, List.set_cons_succ]
  refine wpAnyE_take (i := 13) (v := ?_) (A9.stays w g3 g4 g5) (fun _ h => h) rfl (by kernel_rfl) (by kernel_rfl) (by kernel_rfl) (by kernel_rfl) (fun _ _ _ h => h) (SteadyB.of_yields (Or.inl ⟨by rfl, ?_⟩)) ?_
  rotate_left
  · intro wq hSw
    go_simp
    (try with_reducible rfl)
  try simp only [List.getElem_toArray, List.getElem_cons_zero, List.getElem_cons_succ, Act.put, List.setIfInBounds_toArray, List.set_cons_zero, List.set_cons_succ]
  refine wpAnyE_take (i := 14) (v := ?_) (A9.stays w g3 g4 g5) (fun _ h => h) rfl (by kernel_rfl) (by kernel_rfl) (by kernel_rfl) (by kernel_rfl) (fun _ _ _ h => h) (SteadyB.of_yields (Or.inl ⟨by rfl, ?_⟩)) ?_
  rotate_left
  · intro wq hSw
    go_simp
    (try with_reducible rfl)
  try simp only [List.getElem_toArray, List.getElem_cons_zero, List.getElem_cons_succ, Act.put, List.setIfInBounds_toArray, List.set_cons_zero, List.set_cons_succ]
  refine wpAnyE_take (i := 15) (v := ?_) (A9.stays w g3 g4 g5) (fun _ h => h) rfl (by kernel_rfl) (by kernel_rfl) (by kernel_rfl) (by kernel_rfl) (fun _ _ _ h => h) (SteadyB.of_yields (Or.inl ⟨by rfl, ?_⟩)) ?_
  rotate_left
  · intro wq hSw
    go_simp
    (try with_reducible rfl)
  try simp only [List.getElem_toArray, List.getElem_cons_zero, List.getElem_cons_succ, Act.put, List.setIfInBounds_toArray, List.set_cons_zero, List.set_cons_succ]
  refine wpAnyE_take (i := 16) (v := ?_) (A9.stays w g3 g4 g5) (fun _ h => h) rfl (by kernel_rfl) (by kernel_rfl) (by kernel_rfl) (by kernel_rfl) (fun _ _ _ h => h) (SteadyB.of_yields (Or.inl ⟨by rfl, ?_⟩)) ?_
  rotate_left
  · intro wq hSw
    obtain ⟨m0, m1, m2, m3, m4⟩ := Mu.at (Mu.mk 5 3 2 2) hSw.1.2.2
    obtain ⟨q0, q1, q2⟩ := P3.at (5, 0, 1) hSw.1.1
    obtain ⟨r0, r1, r2⟩ := P3.at (8, 0, 1) hSw.1.2.1
    have a0 := hSw.2.1.1.at0
    have a1 := hSw.2.1.1.at1
    have b0 := hSw.2.1.2.at0
    have b1 := hSw.2.1.2.at1
    dsimp only at m0 m1 m2 m3 m4 q0 q1 q2 r0 r1 r2
    go_simp
    (try with_reducible rfl)
  try simp only [List.getElem_toArray, List.getElem_cons_zero, List.getElem_cons_succ, Act.put, List.setIfInBounds_toArray, List.set_cons_zero, List.set_cons_succ]
  refine wpAnyE_take (i := 17) (v := wv (-2)) (A9.stays w g3 g4 g5) (fun _ h => h) rfl (by kernel_rfl) (by kernel_rfl) (by kernel_rfl) (by kernel_rfl) (fun _ _ _ h => h) (Or.inl ⟨by rfl, fun wq hSw => ?_⟩) ?_
  · refine RunB.of_calls (Wide.ofF (x := -2) (by decide) (by decide) wq) (by go_simp) ?_
    rintro e wr ⟨rfl, hb⟩
    exact ⟨rfl, hb⟩
  try simp only [List.getElem_toArray, List.getElem_cons_zero, List.getElem_cons_succ, Act.put, List.setIfInBounds_toArray, List.set_cons_zero, List.set_cons_succ]
  refine wpAnyE_take (i := 18) (v := ?_) (A9.stays w g3 g4 g5) (fun _ h => h) rfl (by kernel_rfl) (by kernel_rfl) (by kernel_rfl) (by kernel_rfl) (fun _ _ _ h => h) (SteadyB.of_yields (Or.inl ⟨by rfl, ?_⟩)) ?_
  rotate_left
  · intro wq hSw
    go_simp
    (try with_reducible rfl)
  try simp only [List.getElem_toArray, List.getElem_cons_zero, List.getElem_cons_succ, Act.put, List.setIfInBounds_toArray, List.set_cons_zero, List.set_cons_succ]
  refine wpAnyE_take (i := 19) (v := ?_) (A9.stays w g3 g4 g5) (fun _ h => h) rfl (by kernel_rfl) (by kernel_rfl) (by kernel_rfl) (by kernel_rfl) (fun _ _ _ h => h) (SteadyB.of_yields (Or.inl ⟨by rfl, ?_⟩)) ?_
  rotate_left
  · intro wq hSw
    go_simp
    (try with_reducible rfl)
  try simp only [List.getElem_toArray, List.getElem_cons_zero, List.getElem_cons_succ, Act.put, List.setIfInBounds_toArray, List.set_cons_zero, List.set_cons_succ]
  refine wpAnyE_take (i := 20) (v := ?_) (A9.stays w g3 g4 g5) (fun _ h => h) rfl (by kernel_rfl) (by kernel_rfl) (by kernel_rfl) (by kernel_rfl) (fun _ _ _ h => h) (SteadyB.of_yields (Or.inl ⟨by rfl, ?_⟩)) ?_
  rotate_left
  · intro wq hSw
    go_simp
    (try with_reducible rfl)
  try simp only [List.getElem_toArray, List.getElem_cons_zero, List.getElem_cons_succ, Act.put, List.setIfInBounds_toArray, List.set_cons_zero, List.set_cons_succ]
  refine wpAnyE_take (i := 21) (v := ?_) (A9.stays w g3 g4 g5) (fun _ h => h) rfl (by kernel_rfl) (by kernel_rfl) (by kernel_rfl) (by kernel_rfl) (fun _ _ _ h => h) (SteadyB.of_yields (Or.inl ⟨by rfl, ?_⟩)) ?_
  rotate_left
  · intro wq hSw
    obtain ⟨m0, m1, m2, m3, m4⟩ := Mu.at (Mu.mk 5 3 2 2) hSw.1.2.2
    obtain ⟨q0, q1, q2⟩ := P3.at (5, 0, 1) hSw.1.1
    obtain ⟨r0, r1, r2⟩ := P3.at (8, 0, 1) hSw.1.2.1
    have a0 := hSw.2.1.1.at0
    have a1 := hSw.2.1.1.at1
    have b0 := hSw.2.1.2.at0
    have b1 := hSw.2.1.2.at1
    dsimp only at m0 m1 m2 m3 m4 q0 q1 q2 r0 r1 r2
    go_simp
    (try with_reducible rfl)
  try simp only [List.getElem_toArray, List.getElem_cons_zero, List.getElem_cons_succ, Act.put, List.setIfInBounds_toArray, List.set_cons_zero, List.set_cons_succ]
  refine wpAnyE_take (i := 22) (v := ?_) (A9.stays w g3 g4 g5) (fun _ h => h) rfl (by kernel_rfl) (by kernel_rfl) (by kernel_rfl) (by kernel_rfl) (fun _ _ _ h => h) (SteadyB.of_yields (Or.inl ⟨by rfl, ?_⟩)) ?_
  rotate_left
  · intro wq hSw
    obtain ⟨m0, m1, m2, m3, m4⟩ := Mu.at (Mu.mk 5 3 2 2) hSw.1.2.2
    obtain ⟨q0, q1, q2⟩ := P3.at (5, 0, 1) hSw.1.1
    obtain ⟨r0, r1, r2⟩ := P3.at (8, 0, 1) hSw.1.2.1
    have a0 := hSw.2.1.1.at0
    have a1 := hSw.2.1.1.at1
    have b0 := hSw.2.1.2.at0
    have b1 := hSw.2.1.2.at1
    dsimp only at m0 m1 m2 m3 m4 q0 q1 q2 r0 r1 r2
    go_simp
    (try with_reducible rfl)
  try simp only [List.getElem_toArray, List.getElem_cons_zero, List.getElem_cons_succ, Act.put, List.setIfInBounds_toArray, List.set_cons_zero, List.set_cons_succ]
  refine wpAnyE_take (i := 23) (v := Value.bool true) (A9.stays w g3 g4 g5) (fun _ h => h) rfl (by kernel_rfl) (by kernel_rfl) (by kernel_rfl) (by kernel_rfl) (fun _ _ _ h => h) (Or.inl ⟨by rfl, fun wq hSw => ?_⟩) ?_
  · refine RunB.of_calls (ex9a wq) (by go_simp) ?_
    rintro e wr ⟨rfl, hb⟩
    exact ⟨rfl, hb⟩
  try simp only [List.getElem_toArray, List.getElem_cons_zero, List.getElem_cons_succ, Act.put, List.setIfInBounds_toArray, List.set_cons_zero, List.set_cons_succ]
  refine wpAnyE_take (i := 24) (v := ?_) (A9.stays w g3 g4 g5) (fun _ h => h) rfl (by kernel_rfl) (by kernel_rfl) (by kernel_rfl) (by kernel_rfl) (fun _ _ _ h => h) (SteadyB.of_yields (Or.inl ⟨by rfl, ?_⟩)) ?_
  rotate_left
  · intro wq hSw
    go_simp
    (try with_reducible rfl)
  try simp only [List.getElem_toArray, List.getElem_cons_zero, List.getElem_cons_succ, Act.put, List.setIfInBounds_toArray, List.set_cons_zero, List.set_cons_succ]
  refine wpAnyE_take (i := 25) (v := ?_) (A9.stays w g3 g4 g5) (fun _ h => h) rfl (by kernel_rfl) (by kernel_rfl) (by kernel_rfl) (by kernel_rfl) (fun _ _ _ h => h) (SteadyB.of_yields (Or.inl ⟨by rfl, ?_⟩)) ?_
  rotate_left
  · intro wq hSw
    go_simp
    (try with_reducible rfl)
  try simp only [List.getElem_toArray, List.getElem_cons_zero, List.getElem_cons_succ, Act.put, List.setIfInBounds_toArray, List.set_cons_zero, List.set_cons_succ]
  refine wpAnyE_take (i := 26) (v := ?_) (A9.stays w g3 g4 g5) (fun _ h => h) rfl (by kernel_rfl) (by kernel_rfl) (by kernel_rfl) (by kernel_rfl) (fun _ _ _ h => h) (SteadyB.of_yields (Or.inl ⟨by rfl, ?_⟩)) ?_
  rotate_left
  · intro wq hSw
    obtain ⟨m0, m1, m2, m3, m4⟩ := Mu.at (Mu.mk 5 3 2 2) hSw.1.2.2
    obtain ⟨q0, q1, q2⟩ := P3.at (5, 0, 1) hSw.1.1
    obtain ⟨r0, r1, r2⟩ := P3.at (8, 0, 1) hSw.1.2.1
    have a0 := hSw.2.1.1.at0
    have a1 := hSw.2.1.1.at1
    have b0 := hSw.2.1.2.at0
    have b1 := hSw.2.1.2.at1
    dsimp only at m0 m1 m2 m3 m4 q0 q1 q2 r0 r1 r2
    go_simp
    (try with_reducible rfl)
  try simp only [List.getElem_toArray, List.getElem_cons_zero, List.getElem_cons_succ, Act.put, List.setIfInBounds_toArray, List.set_cons_zero, List.set_cons_succ]
  refine wpAnyE_take (i := 27) (v := ?_) (A9.stays w g3 g4 g5) (fun _ h => h) rfl (by kernel_rfl) (by kernel_rfl) (by kernel_rfl) (by kernel_rfl) (fun _ _ _ h => h) (SteadyB.of_yields (Or.inl ⟨by rfl, ?_⟩)) ?_
  rotate_left
  · intro wq hSw
    obtain ⟨m0, m1, m2, m3, m4⟩ := Mu.at (Mu.mk 5 3 2 2) hSw.1.2.2
    obtain ⟨q0, q1, q2⟩ := P3.at (5, 0, 1) hSw.1.1
    obtain ⟨r0, r1, r2⟩ := P3.at (8, 0, 1) hSw.1.2.1
    have a0 := hSw.2.1.1.at0
    have a1 := hSw.2.1.1.at1
    have b0 := hSw.2.1.2.at0
    have b1 := hSw.2.1.2.at1
    dsimp only at m0 m1 m2 m3 m4 q0 q1 q2 r0 r1 r2
    go_simp
    (try with_reducible rfl)
  try simp only [List.getElem_toArray, List.getElem_cons_zero, List.getElem_cons_succ, Act.put, List.setIfInBounds_toArray, List.set_cons_zero, List.set_cons_succ]
  refine wpAnyE_take (i := 28) (v := Value.bool false) (A9.stays w g3 g4 g5) (fun _ h => h) rfl (by kernel_rfl) (by kernel_rfl) (by kernel_rfl) (by kernel_rfl) (fun _ _ _ h => h) (Or.inl ⟨by rfl, fun wq hSw => ?_⟩) ?_
  · refine RunB.of_calls (ex9b wq) (by go_simp) ?_
    rintro e wr ⟨rfl, hb⟩
    exact ⟨rfl, hb⟩
  try simp only [List.getElem_toArray, List.getElem_cons_zero, List.getElem_cons_succ, Act.put, List.setIfInBounds_toArray, List.set_cons_zero, List.set_cons_succ]
  refine wpAnyE_take (i := 29) (v := ?_) (A9.stays w g3 g4 g5) (fun _ h => h) rfl (by kernel_rfl) (by kernel_rfl) (by kernel_rfl) (by kernel_rfl) (fun _ _ _ h => h) (SteadyB.of_yields (Or.inl ⟨by rfl, ?_⟩)) ?_
  rotate_left
  · intro wq hSw
    go_simp
    (try with_reducible rfl)
  try simp only [List.getElem_toArray, List.getElem_cons_zero, List.getElem_cons_succ, Act.put, List.setIfInBounds_toArray, List.set_cons_zero, List.set_cons_succ]
  refine wpAnyE_take (i := 30) (v := ?_) (A9.stays w g3 g4 g5) (fun _ h => h) rfl (by kernel_rfl) (by kernel_rfl) (by kernel_rfl) (by kernel_rfl) (fun _ _ _ h => h) (SteadyB.of_yields (Or.inl ⟨by rfl, ?_⟩)) ?_
  rotate_left
  · intro wq hSw
    go_simp
    (try with_reducible rfl)
  try simp only [List.getElem_toArray, List.getElem_cons_zero, List.getElem_cons_succ, Act.put, List.setIfInBounds_toArray, List.set_cons_zero, List.set_cons_succ]
  refine wpAnyE_take (i := 31) (v := ?_) (A9.stays w g3 g4 g5) (fun _ h => h) rfl (by kernel_rfl) (by kernel_rfl) (by kernel_rfl) (by kernel_rfl) (fun _ _ _ h => h) (SteadyB.of_yields (Or.inl ⟨by rfl, ?_⟩)) ?_
  rotate_left
  · intro wq hSw
    go_simp
    (try with_reducible rfl)
  try simp only [List.getElem_toArray, List.getElem_cons_zero, List.getElem_cons_succ, Act.put, List.setIfInBounds_toArray, List.set_cons_zero, List.set_cons_succ]
  refine wpAnyE_done (by kernel_rfl) (fun wz hSz => ?_) _
  have HF := hid hSz.2.2
  clear hSz HA5
  go_wp2_with fail
  go_ret
  exact ⟨rfl, HF.out⟩
theorem Law9.Awake (w : World) (htab : Tab10 w.heap.size w) : Calls Tryz.prog 201 #[] w (Ans (.bool true) w) := by
  go_enter Tryz.func201, Tryz.ntmps201
  go_wp2_with (go_at_call 219; refine (Law9.awake _ htab).mono ?_; rintro e w' ⟨rfl, hb⟩)
  go_ret
  exact ⟨rfl, hb⟩
end

/- The laws of layer 10: the chapter's example; who is near. -/
section
open Go.RowKit
theorem RdP.new1 (w : World) (t : TypeId) (a b c : Int) : RdP (w.alloc (.cells #[.int .u64 a, .int .u32 b, .int .u32 c] t)) (some ⟨w.heap.size, 0, none⟩) 1 [(a, b, c)] :=
  ⟨rfl, fun _ _ => ⟨_, 0, rfl, by simp, fun j hj => by
    rcases j with _ | j
    · simp [go_sem]
    · omega⟩⟩
theorem ex10p : PIn (10, 0, 1) := ⟨⟨by decide, by decide⟩, ⟨by decide, by decide⟩, by decide, by decide⟩
theorem ex10 : Mu.of 0 [(10, 0, 1)] = (true, (Mu.mk 0 10 1 1)) := by
  rw [of_yes 0 (l := [(10, 0, 1)]) (fun p hp => by
    simp at hp
    subst hp
    exact ⟨by decide, ex10p⟩) (by decide)]
  rfl
theorem ex10in : (Mu.mk 0 10 1 1).In := by unfold Mu.In WR; refine ⟨⟨?_, ?_⟩, ⟨?_, ?_⟩, ⟨?_, ?_⟩, ?_, ?_⟩ <;> decide
theorem ex10pl : (Mu.mk 0 10 1 1).place 0 1 2 = (true, (6, 0, 1)) := by first | rfl | decide +kernel
set_option maxRecDepth 100000 in
set_option maxHeartbeats 4000000 in
theorem Law10.awake (w : World) (htab : Tab10 w.heap.size w) : Calls Tryz.prog 176 #[] w (Ans (.bool true) w) := by
  have HT := hid htab
  have HB0 := hid ((Below.refl w.heap.size w).alloc (Nat.le_refl _) (.cells #[.int .u64 10, .int .u32 0, .int .u32 1] 29))
  have HR := hid (RdP.new1 w 29 10 0 1)
  clear htab
  go_enter Tryz.func176, Tryz.ntmps176
  go_wp2_with fail
  generalize w.alloc (.cells #[.int .u64 10, .int .u32 0, .int .u32 1] 29) = W0 at HB0 HR ⊢
  refine (Mean.of 0 ⟨by decide, by decide⟩ (some ⟨w.heap.size, 0, none⟩) 1 1 [(10, 0, 1)] _ HR.out (fun p hp => by
    simp at hp
    subst hp
    exact ex10p) (by decide)).mono ?_
  rw [ex10]
  rintro e w1 ⟨rfl, hb⟩
  have HB1 := hid (below_on (below_on HB0.out hb) ((Below.refl w1.heap.size w1).alloc (Nat.le_refl _) (.cells #[.int .u64 0, .int .i64 (hiW 10), .int .u64 (loW 10), .int .u64 1, .int .i64 1] 36)))
  have HC1 : Hid (Cs (w1.alloc (.cells #[.int .u64 0, .int .i64 (hiW 10), .int .u64 (loW 10), .int .u64 1, .int .i64 1] 36)) w1.heap.size (Mu.mk 0 10 1 1).cells) := hid (Cs.alloc_new6 w1 _ (Mu.mk 0 10 1 1).cells)
  clear hb HB0 HR
  go_wp2_with fail
  generalize w1.alloc (.cells #[.int .u64 0, .int .i64 (hiW 10), .int .u64 (loW 10), .int .u64 1, .int .i64 1] 36) = W1 at HB1 HC1 ⊢
  generalize w1.heap.size = g at HC1 ⊢
  refine (Place.place (Mu.mk 0 10 1 1) 0 1 2 ex10in (by decide) (by decide) (by decide) (by decide) _).mono ?_
  rw [ex10pl]
  rintro e w2 ⟨rfl, hb⟩
  have HB2 := hid (below_on (below_on HB1.out hb) ((Below.refl w2.heap.size w2).alloc (Nat.le_refl _) (.cells #[.int .u64 6, .int .u32 0, .int .u32 1] 29)))
  have HC2 : Hid (Cs (w2.alloc (.cells #[.int .u64 6, .int .u32 0, .int .u32 1] 29)) w2.heap.size [.int .u64 6, .int .u32 0, .int .u32 1]) := hid (Cs.alloc_new6 w2 _ [.int .u64 6, .int .u32 0, .int .u32 1])
  clear hb HB1 HC1
  go_wp2_with fail
  generalize w2.alloc (.cells #[.int .u64 6, .int .u32 0, .int .u32 1] 29) = W2 at HB2 HC2 ⊢
  generalize w2.heap.size = g2 at HC2 ⊢
  refine (Law9.Awake _ (HT.out.at2 HB2.out)).mono ?_
  rintro e w3 ⟨rfl, hb⟩
  have HB3 := hid (below_on HB2.out hb)
  have HC3 := hid (HC2.out.below hb)
  obtain ⟨m0, m1, m2⟩ := HC3.out.three
  clear hb HB2 HC2
  go_wp2_with fail
  go_ret
  exact ⟨rfl, HB3.out⟩
end

/- The chapter's example of layer 11, as the laws ask it. -/
section
open Go.RowKit
theorem Law10.Awake (w : World) (htab : Tab10 w.heap.size w) : Calls Tryz.prog 152 #[] w (Ans (.bool true) w) := by
  go_enter Tryz.func152, Tryz.ntmps152
  go_wp2_with (go_at_call 176; refine (Law10.awake _ htab).mono ?_; rintro e w' ⟨rfl, hb⟩)
  go_ret
  exact ⟨rfl, hb⟩
theorem ex11 : (Mu.mk 5 3 2 2).weigh (8, 0, 1) 2 = (true, (7, 0, 2)) := by first | rfl | decide +kernel
section
attribute [local go_sem] Pos.eqB
set_option maxRecDepth 100000 in
set_option maxHeartbeats 4000000 in
theorem Law11.awake (w : World) (htab : Tab10 w.heap.size w) : Calls Tryz.prog 112 #[] w (Ans (.bool true) w) := by
  have HT := hid htab
  have HA0 : Hid ((Cs ((w.alloc (.cells #[.int .u64 8, .int .u32 0, .int .u32 1] 29)).alloc (.cells #[.int .u64 5, .int .u32 0, .int .u32 1, .int .u64 8, .int .u32 0, .int .u32 1] 29)) w.heap.size (pcells (8, 0, 1)) ∧ RdP ((w.alloc (.cells #[.int .u64 8, .int .u32 0, .int .u32 1] 29)).alloc (.cells #[.int .u64 5, .int .u32 0, .int .u32 1, .int .u64 8, .int .u32 0, .int .u32 1] 29)) (some ⟨w.heap.size + 1, 0, none⟩) 2 [(5, 0, 1), (8, 0, 1)]) ∧ Below w.heap.size w ((w.alloc (.cells #[.int .u64 8, .int .u32 0, .int .u32 1] 29)).alloc (.cells #[.int .u64 5, .int .u32 0, .int .u32 1, .int .u64 8, .int .u32 0, .int .u32 1] 29))) := hid (by
    have h2 := RdP.new2 (w.alloc (.cells #[.int .u64 8, .int .u32 0, .int .u32 1] 29)) 29 5 0 1 8 0 1
    simp only [World.size_alloc] at h2
    exact ⟨⟨(Cs.alloc_new6 w 29 (pcells (8, 0, 1))).alloc _, h2⟩, ((Below.refl w.heap.size w).alloc (Nat.le_refl _) _).alloc (by simp) _⟩)
  clear htab
  go_enter Tryz.func112, Tryz.ntmps112
  go_wp2_with fail
  generalize ((w.alloc (.cells #[.int .u64 8, .int .u32 0, .int .u32 1] 29)).alloc (.cells #[.int .u64 5, .int .u32 0, .int .u32 1, .int .u64 8, .int .u32 0, .int .u32 1] 29)) = W0 at HA0 ⊢
  refine (Mean.of 5 ⟨by decide, by decide⟩ (some ⟨w.heap.size + 1, 0, none⟩) 2 2 [(5, 0, 1), (8, 0, 1)] _ HA0.out.1.2 (fun p hp => by
    simp at hp
    rcases hp with rfl | rfl
    · exact ⟨⟨by decide, by decide⟩, ⟨by decide, by decide⟩, by decide, by decide⟩
    · exact ⟨⟨by decide, by decide⟩, ⟨by decide, by decide⟩, by decide, by decide⟩) (by decide)).mono ?_
  rw [ex8]
  rintro e w1 ⟨rfl, hb⟩
  have ha := (Below.refl w1.heap.size w1).alloc (Nat.le_refl _) (.cells #[.int .u64 5, .int .i64 (hiW 3), .int .u64 (loW 3), .int .u64 2, .int .i64 2] 36)
  have HB1 := hid (below_on (below_on HA0.out.2 hb) ha)
  have HC1 := hid ((HA0.out.1.1.below hb).below ha)
  obtain ⟨q0, q1, q2⟩ := P3.at _ HC1.out
  clear hb ha HA0
  go_wp2_with fail
  clear q0 q1 q2
  refine (Weigh.weigh ⟨5, 3, 2, 2⟩ (8, 0, 1) 2 ex9in ex9q (by decide) (by decide) _).mono ?_
  rw [ex11]
  rintro e w2 ⟨rfl, hb⟩
  have HB2 := hid (below_on (below_on HB1.out hb) ((Below.refl w2.heap.size w2).alloc (Nat.le_refl _) (.cells #[.int .u64 7, .int .u32 0, .int .u32 2] 29)))
  have HC2 : Hid (Cs (w2.alloc (.cells #[.int .u64 7, .int .u32 0, .int .u32 2] 29)) w2.heap.size [.int .u64 7, .int .u32 0, .int .u32 2]) := hid (Cs.alloc_new6 w2 _ [.int .u64 7, .int .u32 0, .int .u32 2])
  clear hb HB1 HC1
  go_wp2_with fail
  generalize w2.alloc (.cells #[.int .u64 7, .int .u32 0, .int .u32 2] 29) = W2 at HB2 HC2 ⊢
  generalize w2.heap.size = g2 at HC2 ⊢
  refine (Law10.Awake _ (HT.out.at2 HB2.out)).mono ?_
  rintro e w3 ⟨rfl, hb⟩
  have HB3 := hid (below_on HB2.out hb)
  have HC3 := hid (HC2.out.below hb)
  obtain ⟨m0, m1, m2⟩ := HC3.out.three
  clear hb HB2 HC2
  go_wp2_with fail
  go_ret
  exact ⟨rfl, HB3.out⟩
end
theorem Law11.Awake (w : World) (htab : Tab10 w.heap.size w) : Calls Tryz.prog 55 #[] w (Ans (.bool true) w) := by
  go_enter Tryz.func55, Tryz.ntmps55
  go_wp2_with (go_at_call 112; refine (Law11.awake _ htab).mono ?_; rintro e w' ⟨rfl, hb⟩)
  go_ret
  exact ⟨rfl, hb⟩
end

/- The chapter's examples of layer 12, as the laws ask them. -/
section
open Go.RowKit
theorem ex12w : winI 1 1 = 3145728 ∧ winOk 1 1 = true := by constructor <;> decide
theorem ex12c : carI [-5, 0] = 9 := by decide
section
attribute [local go_sem] Wide.eqB
set_option maxRecDepth 100000 in
set_option maxHeartbeats 4000000 in
theorem Law12.awake (w : World) (htab : Tab10 w.heap.size w) : Calls Tryz.prog 15 #[] w (Ans (.bool true) w) := by
  have HT := hid htab
  clear htab
  go_enter Tryz.func15, Tryz.ntmps15
  go_wp2_with fail
  refine (Clamp.window 1 1 ⟨by decide, by decide⟩ ⟨by decide, by decide⟩ _).mono ?_
  rw [ex12w.1, ex12w.2]
  rintro e w1 ⟨rfl, hb⟩
  have HB1 := hid hb
  clear hb
  go_wp2_with fail
  refine (Law11.Awake _ (HT.out.at2 HB1.out)).mono ?_
  rintro e w2 ⟨rfl, hb⟩
  have HB2 := hid (below_on HB1.out hb)
  clear hb HB1
  go_wp2_with fail
  refine (Wide.ofF (x := -5) (by decide) (by decide) _).mono ?_
  rintro e w3 ⟨rfl, hb⟩
  have HB3 := hid (below_on HB2.out hb)
  clear hb HB2
  go_wp2_with fail
  refine (Wide.ofF (x := 0) (by decide) (by decide) _).mono ?_
  rintro e w4 ⟨rfl, hb⟩
  have HB4 := hid (below_on HB3.out hb)
  have HR := hid (RdW.new2 w4 34 (-5) 0)
  have HB5 := hid (HB4.out.alloc HB4.out.size (.cells #[.int .i64 (hiW (-5)), .int .u64 (loW (-5)), .int .i64 (hiW 0), .int .u64 (loW 0)] 34))
  clear hb HB3 HB4
  go_wp2_with fail
  refine (Clamp.carried (some ⟨w4.heap.size, 0, none⟩) 2 2 [-5, 0] _ HR.out (fun x hx => by
    simp at hx
    rcases hx with rfl | rfl <;> (unfold WR; omega)) (by decide)).mono ?_
  rw [ex12c]
  rintro e w5 ⟨rfl, hb⟩
  have HB6 := hid (below_on HB5.out hb)
  clear hb HB5 HR
  go_wp2_with fail
  refine (Wide.ofF (x := 9) (by decide) (by decide) _).mono ?_
  rintro e w6 ⟨rfl, hb⟩
  have HB7 := hid (below_on HB6.out hb)
  clear hb HB6
  go_wp2_with fail
  go_ret
  exact ⟨rfl, HB7.out⟩
end
end

/- The contracts of the document's answer for layer 12. -/
section
open Go.RowKit
theorem Var.fin {w W : World} {g : Nat} {s0 : Bool} {A0 : Option Addr} {n0 c0 : Nat} (hv : Var W g s0 A0 n0 c0) (hb : Below w.heap.size w W) (hg : w.heap.size ≤ g) {L : Nat} {s : Bool} {A : Option Addr} {n c : Nat} {z : Int} (h : IsB W L s A n c z) :
    IsB ((W.setCell ⟨g, 0, none⟩ (.bool s)).setCell ⟨g, 1, none⟩ (.slice A n c)) L s A n c z ∧ Below w.heap.size w ((W.setCell ⟨g, 0, none⟩ (.bool s)).setCell ⟨g, 1, none⟩ (.slice A n c)) :=
  ⟨h.storeV hv _ _ _ _, (hb.setCell hg _).setCell hg _⟩
theorem two127 : (2 : Int) ^ 127 - 1 = mxW := by unfold mxW; decide
set_option maxRecDepth 100000 in
set_option maxHeartbeats 2000000 in
theorem Ref12.greatest (w : World) : Calls Tryz.prog 64 #[] w (BAns 133 mxW w) := by
  have HVr := hid (Var.new w 41 false none 0 0)
  have HBW := hid ((Below.refl w.heap.size w).alloc (Nat.le_refl _) (.cells #[.bool false, .slice none 0 0] 41))
  go_enter Tryz.func64, Tryz.ntmps64
  go_wp2_with fail
  generalize w.alloc (.cells #[.bool false, .slice none 0 0] 41) = W0 at HVr HBW ⊢
  refine (Ref.power 127 (by decide) _).mono ?_
  rintro e w1 ⟨s1, A1, n1, c1, rfl, hB, hb⟩
  have H1 := hid (hB)
  clear hB
  replace HVr := hid (HVr.out.below hb)
  replace HBW := hid (below_keep HBW.out hb)
  clear hb
  obtain ⟨r0, r1, r2, r3, _⟩ := HVr.out
  have rl := HVr.out.lt
  go_wp2_with fail
  clear r0 r1 r2 r3 rl
  refine (Ref.N 1 (by decide) (by decide) _).mono ?_
  rintro e w2 ⟨s2, A2, n2, c2, rfl, hB, hb⟩
  have H2 := hid (hB.mono (show _ ≤ 132 by omega))
  clear hB
  replace H1 := hid (H1.out.below hb)
  replace HVr := hid (HVr.out.below hb)
  replace HBW := hid (below_keep HBW.out hb)
  clear hb
  obtain ⟨r0, r1, r2, r3, _⟩ := HVr.out
  have rl := HVr.out.lt
  go_wp2_with fail
  clear r0 r1 r2 r3 rl
  refine (Ref.sub 132 s1 s2 A1 A2 n1 c1 n2 c2 _ _ _ H1.out H2.out (by decide)).mono ?_
  rintro e w3 ⟨s3, A3, n3, c3, rfl, hB, hb⟩
  have H3 := hid (hB)
  clear hB
  replace H1 := hid (H1.out.below hb)
  replace H2 := hid (H2.out.below hb)
  replace HVr := hid (HVr.out.below hb)
  replace HBW := hid (below_keep HBW.out hb)
  clear hb
  rw [two127] at H3
  obtain ⟨r0, r1, r2, r3, _⟩ := HVr.out
  have rl := HVr.out.lt
  go_wp2_with fail
  have HFN := HVr.out.fin HBW.out (Nat.le_refl _) H3.out
  refine bodyPost_ret (v := .agg #[.bool s3, .slice A3 n3 c3]) (by simp [results, Tryz.results64, go_sem, r0, r1, rl]) rfl ⟨_, _, _, _, rfl, HFN.1, HFN.2⟩
set_option maxRecDepth 100000 in
set_option maxHeartbeats 8000000 in
theorem Ref12.size (s0 : Bool) (A0 : Option Addr) (n0 c0 : Nat) (z : Int) (w : World) (hz : IsB w 18 s0 A0 n0 c0 z) (hw : WR z) : Calls Tryz.prog 19 #[.agg #[.bool s0, .slice A0 n0 c0]] w (BAns 133 (szI z) w) := by
  have HBW := hid (((Below.refl w.heap.size w).alloc (Nat.le_refl _) (.cells #[.bool s0, .slice A0 n0 c0] 41)).alloc (by simp) (.cells #[.bool false, .slice none 0 0] 41))
  have HVx := hid ((Var.new w 41 s0 A0 n0 c0).alloc (.cells #[.bool false, .slice none 0 0] 41))
  have HVr := hid (show Var _ (w.heap.size + 1) false none 0 0 by have := Var.new (w.alloc (.cells #[.bool s0, .slice A0 n0 c0] 41)) 41 false none 0 0; simpa using this)
  have H0 := hid ((hz.alloc (.cells #[.bool s0, .slice A0 n0 c0] 41)).alloc (.cells #[.bool false, .slice none 0 0] 41))
  have HW := hid hw
  unfold WR at hw
  by_cases c : z < 0
  · have c1 : cmpI z 0 < 0 := cmpI_lt0.2 c
    have HC := hid c
    by_cases d : z = -170141183460469231731687303715884105728
    · have E : Hid (szI z = mxW) := hid (by subst d; unfold szI; rw [if_neg (by omega), if_pos rfl])
      have HD : Hid (¬ (-170141183460469231731687303715884105728 ≤ 0 - z ∧ 0 - z < 170141183460469231731687303715884105728)) := hid (by omega)
      rw [E.out]
      clear hz hw d c
      go_enter Tryz.func19, Tryz.ntmps19
      go_wp2_with fail
      generalize ((w.alloc (.cells #[.bool s0, .slice A0 n0 c0] 41)).alloc (.cells #[.bool false, .slice none 0 0] 41)) = W0 at HVx HVr H0 HBW ⊢
      obtain ⟨x0, x1, x2, x3, _⟩ := HVx.out
      have xl := HVx.out.lt
      obtain ⟨r0, r1, r2, r3, _⟩ := HVr.out
      have rl := HVr.out.lt
      go_wp2_with fail
      clear x0 x1 x2 x3 xl r0 r1 r2 r3 rl
      refine (Ref.sign 18 s0 A0 n0 c0 z _ H0.out).mono ?_
      rintro e w1 ⟨rfl, hb⟩
      replace H0 := hid (H0.out.below hb)
      replace HVx := hid (HVx.out.below hb)
      replace HVr := hid (HVr.out.below hb)
      replace HBW := hid (below_keep HBW.out hb)
      clear hb
      obtain ⟨x0, x1, x2, x3, _⟩ := HVx.out
      have xl := HVx.out.lt
      obtain ⟨r0, r1, r2, r3, _⟩ := HVr.out
      have rl := HVr.out.lt
      go_wp2_with fail
      clear x0 x1 x2 x3 xl r0 r1 r2 r3 rl
      refine (Ref.neg 18 s0 A0 n0 c0 z _ H0.out (by decide)).mono ?_
      rintro e w2 ⟨s2, A2, n2, c2, rfl, hB, hb⟩
      have H2 := hid (hB)
      clear hB
      replace H0 := hid (H0.out.below hb)
      replace HVx := hid (HVx.out.below hb)
      replace HVr := hid (HVr.out.below hb)
      replace HBW := hid (below_keep HBW.out hb)
      clear hb
      obtain ⟨x0, x1, x2, x3, _⟩ := HVx.out
      have xl := HVx.out.lt
      obtain ⟨r0, r1, r2, r3, _⟩ := HVr.out
      have rl := HVr.out.lt
      go_wp2_with fail
      clear x0 x1 x2 x3 xl r0 r1 r2 r3 rl
      replace HVr := hid (HVr.out.far (b := w.heap.size) (by omega) 0 1 (.bool s2) (.slice A2 n2 c2))
      have H3 := hid (H2.out.storeV HVx.out 0 1 (.bool s2) (.slice A2 n2 c2))
      replace HBW := hid (show Below w.heap.size w ((w2.setCell ⟨w.heap.size, 0, none⟩ (.bool s2)).setCell ⟨w.heap.size, 1, none⟩ (.slice A2 n2 c2)) from (HBW.out.setCell (Nat.le_refl _) _).setCell (Nat.le_refl _) _)
      replace HVx := hid (HVx.out.store s2 A2 n2 c2)
      clear H2 H0
      obtain ⟨x0, x1, x2, x3, _⟩ := HVx.out
      have xl := HVx.out.lt
      obtain ⟨r0, r1, r2, r3, _⟩ := HVr.out
      have rl := HVr.out.lt
      skip
      clear x0 x1 x2 x3 xl r0 r1 r2 r3 rl
      refine (Ref.is 18 (by decide) s2 A2 n2 c2 _ _ H3.out false ⟨fun h => absurd h (by decide), fun h => absurd h HD.out⟩).mono ?_
      rintro e w4 ⟨rfl, hb⟩
      replace H3 := hid (H3.out.below hb)
      replace HVx := hid (HVx.out.below hb)
      replace HVr := hid (HVr.out.below hb)
      replace HBW := hid (below_keep HBW.out hb)
      clear hb
      obtain ⟨x0, x1, x2, x3, _⟩ := HVx.out
      have xl := HVx.out.lt
      obtain ⟨r0, r1, r2, r3, _⟩ := HVr.out
      have rl := HVr.out.lt
      go_wp2_with fail
      clear x0 x1 x2 x3 xl r0 r1 r2 r3 rl
      refine (Ref12.greatest _).mono ?_
      rintro e w5 ⟨s5, A5, n5, c5, rfl, hB, hb⟩
      have H5 := hid (hB)
      clear hB
      replace H3 := hid (H3.out.below hb)
      replace HVx := hid (HVx.out.below hb)
      replace HVr := hid (HVr.out.below hb)
      replace HBW := hid (below_keep HBW.out hb)
      clear hb
      obtain ⟨x0, x1, x2, x3, _⟩ := HVx.out
      have xl := HVx.out.lt
      obtain ⟨r0, r1, r2, r3, _⟩ := HVr.out
      have rl := HVr.out.lt
      go_wp2_with fail
      have HFN := HVr.out.fin HBW.out (Nat.le_succ _) H5.out
      refine bodyPost_ret (v := .agg #[.bool s5, .slice A5 n5 c5]) (by simp [results, Tryz.results19, go_sem, r0, r1, rl]) rfl ⟨_, _, _, _, rfl, HFN.1, HFN.2⟩
    · have E : Hid (szI z = 0 - z) := hid (by unfold szI; rw [if_neg (by omega), if_neg d]; omega)
      have HD : Hid (-170141183460469231731687303715884105728 ≤ 0 - z ∧ 0 - z < 170141183460469231731687303715884105728) := hid (by omega)
      rw [E.out]
      clear hz hw d c
      go_enter Tryz.func19, Tryz.ntmps19
      go_wp2_with fail
      generalize ((w.alloc (.cells #[.bool s0, .slice A0 n0 c0] 41)).alloc (.cells #[.bool false, .slice none 0 0] 41)) = W0 at HVx HVr H0 HBW ⊢
      obtain ⟨x0, x1, x2, x3, _⟩ := HVx.out
      have xl := HVx.out.lt
      obtain ⟨r0, r1, r2, r3, _⟩ := HVr.out
      have rl := HVr.out.lt
      go_wp2_with fail
      clear x0 x1 x2 x3 xl r0 r1 r2 r3 rl
      refine (Ref.sign 18 s0 A0 n0 c0 z _ H0.out).mono ?_
      rintro e w1 ⟨rfl, hb⟩
      replace H0 := hid (H0.out.below hb)
      replace HVx := hid (HVx.out.below hb)
      replace HVr := hid (HVr.out.below hb)
      replace HBW := hid (below_keep HBW.out hb)
      clear hb
      obtain ⟨x0, x1, x2, x3, _⟩ := HVx.out
      have xl := HVx.out.lt
      obtain ⟨r0, r1, r2, r3, _⟩ := HVr.out
      have rl := HVr.out.lt
      go_wp2_with fail
      clear x0 x1 x2 x3 xl r0 r1 r2 r3 rl
      refine (Ref.neg 18 s0 A0 n0 c0 z _ H0.out (by decide)).mono ?_
      rintro e w2 ⟨s2, A2, n2, c2, rfl, hB, hb⟩
      have H2 := hid (hB)
      clear hB
      replace H0 := hid (H0.out.below hb)
      replace HVx := hid (HVx.out.below hb)
      replace HVr := hid (HVr.out.below hb)
      replace HBW := hid (below_keep HBW.out hb)
      clear hb
      obtain ⟨x0, x1, x2, x3, _⟩ := HVx.out
      have xl := HVx.out.lt
      obtain ⟨r0, r1, r2, r3, _⟩ := HVr.out
      have rl := HVr.out.lt
      go_wp2_with fail
      clear x0 x1 x2 x3 xl r0 r1 r2 r3 rl
      replace HVr := hid (HVr.out.far (b := w.heap.size) (by omega) 0 1 (.bool s2) (.slice A2 n2 c2))
      have H3 := hid (H2.out.storeV HVx.out 0 1 (.bool s2) (.slice A2 n2 c2))
      replace HBW := hid (show Below w.heap.size w ((w2.setCell ⟨w.heap.size, 0, none⟩ (.bool s2)).setCell ⟨w.heap.size, 1, none⟩ (.slice A2 n2 c2)) from (HBW.out.setCell (Nat.le_refl _) _).setCell (Nat.le_refl _) _)
      replace HVx := hid (HVx.out.store s2 A2 n2 c2)
      clear H2 H0
      obtain ⟨x0, x1, x2, x3, _⟩ := HVx.out
      have xl := HVx.out.lt
      obtain ⟨r0, r1, r2, r3, _⟩ := HVr.out
      have rl := HVr.out.lt
      clear x0 x1 x2 x3 xl r0 r1 r2 r3 rl
      refine (Ref.is 18 (by decide) s2 A2 n2 c2 _ _ H3.out true ⟨fun _ => HD.out, fun _ => rfl⟩).mono ?_
      rintro e w4 ⟨rfl, hb⟩
      replace H3 := hid (H3.out.below hb)
      replace HVx := hid (HVx.out.below hb)
      replace HVr := hid (HVr.out.below hb)
      replace HBW := hid (below_keep HBW.out hb)
      clear hb
      obtain ⟨x0, x1, x2, x3, _⟩ := HVx.out
      have xl := HVx.out.lt
      obtain ⟨r0, r1, r2, r3, _⟩ := HVr.out
      have rl := HVr.out.lt
      go_wp2_with fail
      have HFN := HVr.out.fin HBW.out (Nat.le_succ _) H3.out
      refine bodyPost_ret (v := .agg #[.bool s2, .slice A2 n2 c2]) (by simp [results, Tryz.results19, go_sem, r0, r1, rl]) rfl ⟨_, _, _, _, rfl, HFN.1.mono (by omega), HFN.2⟩
  · have c1 : ¬ cmpI z 0 < 0 := fun h => c (cmpI_lt0.1 h)
    have E : Hid (szI z = z) := hid (by unfold szI; rw [if_pos (by omega)])
    have HD : Hid (-170141183460469231731687303715884105728 ≤ z ∧ z < 170141183460469231731687303715884105728) := hid (by omega)
    rw [E.out]
    clear hz hw c
    go_enter Tryz.func19, Tryz.ntmps19
    go_wp2_with fail
    generalize ((w.alloc (.cells #[.bool s0, .slice A0 n0 c0] 41)).alloc (.cells #[.bool false, .slice none 0 0] 41)) = W0 at HVx HVr H0 HBW ⊢
    obtain ⟨x0, x1, x2, x3, _⟩ := HVx.out
    have xl := HVx.out.lt
    obtain ⟨r0, r1, r2, r3, _⟩ := HVr.out
    have rl := HVr.out.lt
    go_wp2_with fail
    clear x0 x1 x2 x3 xl r0 r1 r2 r3 rl
    refine (Ref.sign 18 s0 A0 n0 c0 z _ H0.out).mono ?_
    rintro e w1 ⟨rfl, hb⟩
    replace H0 := hid (H0.out.below hb)
    replace HVx := hid (HVx.out.below hb)
    replace HVr := hid (HVr.out.below hb)
    replace HBW := hid (below_keep HBW.out hb)
    clear hb
    obtain ⟨x0, x1, x2, x3, _⟩ := HVx.out
    have xl := HVx.out.lt
    obtain ⟨r0, r1, r2, r3, _⟩ := HVr.out
    have rl := HVr.out.lt
    go_wp2_with fail
    clear x0 x1 x2 x3 xl r0 r1 r2 r3 rl
    refine (Ref.is 18 (by decide) s0 A0 n0 c0 _ _ H0.out true ⟨fun _ => HD.out, fun _ => rfl⟩).mono ?_
    rintro e w4 ⟨rfl, hb⟩
    replace H0 := hid (H0.out.below hb)
    replace HVx := hid (HVx.out.below hb)
    replace HVr := hid (HVr.out.below hb)
    replace HBW := hid (below_keep HBW.out hb)
    clear hb
    obtain ⟨x0, x1, x2, x3, _⟩ := HVx.out
    have xl := HVx.out.lt
    obtain ⟨r0, r1, r2, r3, _⟩ := HVr.out
    have rl := HVr.out.lt
    go_wp2_with fail
    have HFN := HVr.out.fin HBW.out (Nat.le_succ _) H0.out
    refine bodyPost_ret (v := .agg #[.bool s0, .slice A0 n0 c0]) (by simp [results, Tryz.results19, go_sem, r0, r1, rl]) rfl ⟨_, _, _, _, rfl, HFN.1.mono (by omega), HFN.2⟩
end

/- ClampCarries: the document's sum of sizes, whose digits are its own. -/
section
open Go.RowKit
set_option maxRecDepth 100000 in
set_option maxHeartbeats 4000000 in
theorem Ref.wideF (a b : Int) (a0 : -9223372036854775808 ≤ a) (a1 : a ≤ 9223372036854775807) (b0 : 0 ≤ b) (b1 : b ≤ 18446744073709551615) (w : World) :
    Calls Tryz.prog 57 #[.int .i64 a, .int .u64 b] w (BAnsF w.heap.size 18 (a * 18446744073709551616 + b) w) := by
  go_enter Tryz.func57, Tryz.ntmps57
  go_wp2_with fail
  refine (Ref.U 4294967296 (by decide) (by decide) _).mono ?_
  rintro e w1 ⟨s1, A1, n1, c1, rfl, hB1, hb1⟩
  have H1 := hid hB1
  have HF := hid ((Fresh.new w 41).below hb1)
  have hbw := ((Below.refl _ w).alloc (Nat.le_refl _) (Obj.cells #[Value.bool false, Value.slice none 0 0] 41)).trans (hb1.mono (by simp))
  have HBW := hid hbw
  clear hB1 hb1 hbw
  go_wp2_with fail
  refine (Ref.U 4294967296 (by decide) (by decide) _).mono ?_
  rintro e w2 ⟨s2, A2, n2, c2, rfl, hB2, hb2⟩
  have H2 := hid hB2
  have H12 := hid (H1.out.below hb2)
  have HF2 := hid (HF.out.below hb2)
  have HBW2 := hid (below_keep HBW.out hb2)
  clear hB2 hb2
  go_wp2_with fail
  refine (Ref.mul 5 5 s1 s2 A1 A2 n1 c1 n2 c2 _ _ _ H12.out H2.out (by decide) (by decide)).mono ?_
  rintro e w3 ⟨s3, A3, n3, c3, rfl, hB3, hb3⟩
  have hF3 := HF2.out.below hb3
  have hBW3 := below_keep HBW2.out hb3
  have hlt : w.heap.size < w3.heap.size := World.block_lt_of_cell? w3 _ hF3.1
  have H3 := hid hB3
  have HF3 := hid hF3
  have HBW3 := hid hBW3
  clear hB3 hb3 hF3 hBW3
  go_wp2_with fail
  obtain ⟨W0, hW⟩ : ∃ W0, W0 = w3.alloc (Obj.cells #[Value.bool s3, Value.slice A3 n3 c3] 41) := ⟨_, rfl⟩
  rw [← hW]
  have HS0 : Hid ((W0.cell? ⟨w3.heap.size, 0, none⟩ = some (.bool s3) ∧ W0.cell? ⟨w3.heap.size, 1, none⟩ = some (.slice A3 n3 c3) ∧ W0.cell? ⟨w3.heap.size, 0, none⟩ = some (.bool s3) ∧ W0.cell? ⟨w3.heap.size, 1, none⟩ = some (.slice A3 n3 c3)) ∧ Below w.heap.size w W0) := hid (by rw [hW]; exact ⟨⟨by simp [go_sem], by simp [go_sem], by simp [go_sem], by simp [go_sem]⟩, HBW3.out.alloc (by omega) _⟩)
  have HF0 : Hid (Fresh W0 w.heap.size) := hid (by rw [hW]; exact HF3.out.below ((Below.refl _ _).alloc (Nat.le_refl _) _))
  have HT0 : Hid (IsB W0 11 s3 A3 n3 c3 18446744073709551616) := hid (by rw [hW]; exact H3.out.alloc _)
  clear hW
  go_region_held3 (fun w' => (w'.cell? ⟨w3.heap.size, 0, none⟩ = some (.bool s3) ∧ w'.cell? ⟨w3.heap.size, 1, none⟩ = some (.slice A3 n3 c3) ∧ w'.cell? ⟨w3.heap.size, 0, none⟩ = some (.bool s3) ∧ w'.cell? ⟨w3.heap.size, 1, none⟩ = some (.slice A3 n3 c3)) ∧ Below w.heap.size w w')
    (first | exact ⟨HS0.out.1, HS0.out.2.drew⟩ | exact keepP (by assumption) hb2 (fun h => below_keep h hb2) | exact keepSt (by assumption) (by omega) (by omega) (by omega) (by omega) (by omega))
    (first
      | (go_at_call 67; refine (Ref.N a a0 a1 _).mono ?_; rintro e w4 ⟨s4, A4, n4, c4, rfl, hB, hb2⟩; have H4 := hid hB; have HT4 := hid (IsB.below (w := W0.drew) HT0.out hb2); have HF4 := hid (Fresh.below (w := W0.drew) HF0.out hb2); clear hB)
      | (go_at_call 113; refine (Ref.mul 5 11 s4 s3 A4 A3 n4 c4 n3 c3 _ _ _ H4.out HT4.out (by decide) (by decide)).mono ?_; rintro e w5 ⟨s5, A5, n5, c5, rfl, hB, hb2⟩; have H5 := hid hB; have HF5 := hid (HF4.out.below hb2); clear hB)
      | (go_at_call 29; refine (Ref.U b b0 b1 _).mono ?_; rintro e w6 ⟨s6, A6, n6, c6, rfl, hB, hb2⟩; have H6 := hid (hB.mono (show 5 ≤ 17 by decide)); have H56 := hid (H5.out.below hb2); have HF6 := hid (HF5.out.below hb2); clear hB)
      | (go_at_call 66; refine (Ref.addF 17 s5 s6 A5 A6 n5 c5 n6 c6 _ _ _ H56.out H6.out (by decide)).mono ?_; rintro e w7 ⟨s', A', n', c', rfl, hB, hb2, hfr7⟩; have HFR := hid (frA.mono hfr7 (Below.size (And.right (by assumption : (_ ∧ _ ∧ _ ∧ _) ∧ Below w.heap.size w _)))); clear hfr7; have HB := hid hB; have HF7 := hid (HF6.out.below hb2); obtain ⟨t0, t1, t2, t3, _⟩ := HF7.out; clear hB))
  obtain ⟨_, hfin⟩ : (_ ∧ _ ∧ _ ∧ _) ∧ Below w.heap.size w ((w7.setCell ⟨w.heap.size, 0, none⟩ (.bool s')).setCell ⟨w.heap.size, 1, none⟩ (.slice A' n' c')) := by assumption
  have HFIN := hid hfin
  clear hfin
  go_wp2
  exact bodyPost_ret (v := .agg #[.bool s', .slice A' n' c']) (by simp [results, Tryz.results57, go_sem, t0, t1]) rfl ⟨_, _, _, _, rfl, HB.out.store HF7.out.2.2.2.2 _ _ _ _, HFIN.out, HFR.out⟩
set_option maxHeartbeats 1000000 in
theorem Law.ofF (h l n : Int) (hw : IsW h l n) (w : World) :
    Calls Tryz.prog 16 #[.agg #[.int .i64 h, .int .u64 l]] w (BAnsF w.heap.size 18 n w) := by
  obtain ⟨h0, h1, l0, l1, rfl⟩ := hw
  go_enter Tryz.func16, Tryz.ntmps16
  go_wp2_with fail
  refine (Ref.wideF h l h0 h1 l0 l1 _).mono ?_
  rintro e w1 ⟨s', A', n', c', rfl, hB, hb, hfr⟩
  have HFR := hid (hfr.mono (show w.heap.size ≤ _ by simp; omega))
  clear hfr
  have hF := (Fresh.new (w.alloc (.cells #[.int .i64 h, .int .u64 l] 34)) 41).below hb
  simp only [World.size_alloc] at hF
  have HB := hid hB
  have HF := hid hF
  obtain ⟨t0, t1, t2, t3, _⟩ := hF
  clear hB
  go_wp2
  refine bodyPost_ret (v := .agg #[.bool s', .slice A' n' c']) (by simp [results, Tryz.results16, go_sem, t0, t1]) rfl ⟨_, _, _, _, rfl, HB.out.store HF.out.2.2.2.2 _ _ _ _, ?_, HFR.out⟩
  exact (((((Below.refl _ _).alloc (Nat.le_refl _) _).alloc (by simp) _).trans (hb.mono (by simp; omega))).setCell (by simp) _).setCell (by simp) _
set_option maxRecDepth 100000 in
set_option maxHeartbeats 16000000 in
theorem Ref12.carried (A : Option Addr) (n c : Nat) (l : List (Bq × Int)) (w : World) (hr : RdB w A n l) (hi : ∀ p ∈ l, WR p.2) (hn : n ≤ 1000000) :
    Calls Tryz.prog 21 #[.slice A n c] w (BAns 135 (carI (l.map Prod.snd)) w) := by
  have HR := hid hr
  have HI := hid hi
  have HLN := hid hr.1
  have HWI : Hid (∀ x ∈ l.map Prod.snd, WR x) := hid (fun x hx => by obtain ⟨p, hp, rfl⟩ := List.mem_map.1 hx; exact hi p hp)
  have hni : (n : Int) ≤ 1000000 := by omega
  have HS : Hid ((((w.alloc (.cells #[.bool false, .slice none 0 0] 41)).alloc (.cells #[.bool false, .slice none 0 0] 41))).heap.size = w.heap.size + 2) := hid (by simp)
  have HV0 : Hid (Var ((w.alloc (.cells #[.bool false, .slice none 0 0] 41)).alloc (.cells #[.bool false, .slice none 0 0] 41)) w.heap.size false none 0 0) := hid ((Var.new w 41 false none 0 0).alloc _)
  have HV1 : Hid (Var ((w.alloc (.cells #[.bool false, .slice none 0 0] 41)).alloc (.cells #[.bool false, .slice none 0 0] 41)) (w.heap.size + 1) false none 0 0) := hid (by have := Var.new (w.alloc (.cells #[.bool false, .slice none 0 0] 41)) 41 false none 0 0; simpa using this)
  have HBW : Hid (Below w.heap.size w ((w.alloc (.cells #[.bool false, .slice none 0 0] 41)).alloc (.cells #[.bool false, .slice none 0 0] 41))) := hid (((Below.refl w.heap.size w).alloc (Nat.le_refl _) _).alloc (by simp) _)
  clear hr hi
  go_enter Tryz.func21, Tryz.ntmps21
  go_wp2_with fail
  generalize ((w.alloc (.cells #[.bool false, .slice none 0 0] 41)).alloc (.cells #[.bool false, .slice none 0 0] 41)) = W0 at HV0 HV1 HBW HS ⊢
  go_loopg [8] n (fun s i wr => ∃ (k : Nat) (s' : Bool) (A' : Option Addr) (n' c' : Nat), i = .int .i64 k ∧ k ≤ n ∧ s = n - k ∧ carS ((l.map Prod.snd).take k) ≤ mxW ∧ (Var wr w.heap.size false none 0 0 ∧ (Var wr (w.heap.size + 1) s' A' n' c' ∧ IsB wr 18 s' A' n' c' (carS ((l.map Prod.snd).take k)))) ∧ Below w.heap.size w wr)
  case atStart => exact ⟨0, false, none, 0, 0, rfl, Nat.zero_le _, by omega, by rw [List.take_zero, carS_nil]; decide, ⟨HV0.out, HV1.out, by rw [List.take_zero, carS_nil]; exact IsB.zero _ _⟩, HBW.out⟩
  case round =>
    obtain ⟨k, s', A', n', c', rfl, hk, hs, hle, hv, hb⟩ := hrel
    have HG := hid hs
    have HLE := hid hle
    have HV := hid hv
    have HB := hid hb
    clear hs hle hv hb HV0 HV1 HBW
    by_cases hkn : k < n
    · obtain ⟨bb, off, hA, hlb, hc⟩ := (HR.out.below HB.out).2.1 (by omega)
      obtain ⟨p0, p1⟩ := hc k hkn
      have hkl : k < l.length := by have := HLN.out; omega
      have hkm : k < (l.map Prod.snd).length := by rw [List.length_map]; exact hkl
      have HX : Hid (bqR 18 (l.getD k zB).2 (l.getD k zB).1 wr) := hid ((HR.out.below HB.out).get hkn)
      have e2 : (l.map Prod.snd).getD k 0 = (l.getD k zB).2 := by simp [List.getD, hkl]
      have HZ : Hid (WR (l.getD k zB).2) := hid (by have e : l.getD k zB = l[k] := by simp [List.getD, hkl]
                                                    rw [e]; exact HI.out _ (List.getElem_mem hkl))
      have HST : Hid (carS ((l.map Prod.snd).take (k + 1)) = carS ((l.map Prod.snd).take k) + (szI (l.getD k zB).2 + 2)) := hid (by rw [carS_take hkm, e2])
      have HSM : Hid (∀ j, carS ((l.map Prod.snd).take j) ≤ mxW ∨ mxW < carS ((l.map Prod.snd).take j)) := hid (fun j => by omega)
      have HNN : Hid (0 ≤ carS ((l.map Prod.snd).take k)) := hid (carS_nn (fun x hx => HWI.out x (List.mem_of_mem_take hx)))
      have HSZ := hid (szI_bd HZ.out)
      clear e2 hkm
      generalize carS ((l.map Prod.snd).take k) = V at *
      generalize hx : l.getD k zB = x at *
      clear hx
      subst hA
      have hki : (k : Int) < n := by omega
      clear hc hkl
      have ha := (Below.refl wr.heap.size wr).alloc (Nat.le_refl _) (.cells #[.bool x.1.1, .slice x.1.2.1 x.1.2.2.1 x.1.2.2.2] 41)
      have HG1 : Hid (w.heap.size + 1 < wr.heap.size) := hid HV.out.2.1.lt
      obtain ⟨⟨s0, A0, n0, c0⟩, z⟩ := x
      dsimp only at p0 p1 HX HZ HST HSZ ha
      have HQ : Hid ((((Var (wr.alloc (.cells #[.bool s0, .slice A0 n0 c0] 41)) w.heap.size false none 0 0 ∧ w.heap.size < w.heap.size + 1) ∧ (Var (wr.alloc (.cells #[.bool s0, .slice A0 n0 c0] 41)) (w.heap.size + 1) s' A' n' c' ∧ IsB (wr.alloc (.cells #[.bool s0, .slice A0 n0 c0] 41)) 18 s' A' n' c' V) ∧ w.heap.size + 1 < wr.heap.size) ∧ (Var (wr.alloc (.cells #[.bool s0, .slice A0 n0 c0] 41)) wr.heap.size s0 A0 n0 c0 ∧ IsB (wr.alloc (.cells #[.bool s0, .slice A0 n0 c0] 41)) 18 s0 A0 n0 c0 z)) ∧ Below (wr.alloc (.cells #[.bool s0, .slice A0 n0 c0] 41)).heap.size (wr.alloc (.cells #[.bool s0, .slice A0 n0 c0] 41)) (wr.alloc (.cells #[.bool s0, .slice A0 n0 c0] 41))) := hid ⟨⟨⟨⟨HV.out.1.below ha, by omega⟩, ⟨HV.out.2.1.below ha, HV.out.2.2.below ha⟩, HG1.out⟩, Var.new wr _ _ _ _ _, IsB.below (z := z) HX.out ha⟩, Below.refl _ _⟩
      have HBa := hid (below_on HB.out ha)
      clear ha HV HB HX
      go_upto_region 5 with fail
      clear p0 p1
      generalize wr.alloc (.cells #[.bool s0, .slice A0 n0 c0] 41) = Wa at HQ HBa ⊢
      generalize wr.heap.size = gx at HQ HG1 ⊢
      have hsT1 : Stays (fun wx => (((Var wx w.heap.size false none 0 0 ∧ w.heap.size < (w.heap.size + 1)) ∧ (Var wx (w.heap.size + 1) s' A' n' c' ∧ IsB wx 18 s' A' n' c' V) ∧ (w.heap.size + 1) < gx) ∧ (Var wx gx s0 A0 n0 c0 ∧ IsB wx 18 s0 A0 n0 c0 z)) ∧ Below Wa.heap.size Wa wx) := fun _ _ h hb => ⟨⟨⟨⟨h.1.1.1.1.below hb, h.1.1.1.2⟩, ⟨h.1.1.2.1.1.below hb, h.1.1.2.1.2.below hb⟩, h.1.1.2.2⟩, h.1.2.1.below hb, h.1.2.2.below hb⟩, below_on h.2 hb⟩
      refine wp_region_grow (S := fun wx => (((Var wx w.heap.size false none 0 0 ∧ w.heap.size < (w.heap.size + 1)) ∧ (Var wx (w.heap.size + 1) s' A' n' c' ∧ IsB wx 18 s' A' n' c' V) ∧ (w.heap.size + 1) < gx) ∧ (Var wx gx s0 A0 n0 c0 ∧ IsB wx 18 s0 A0 n0 c0 z)) ∧ Below Wa.heap.size Wa wx) 6 (by kernel_rfl) (hsT1 _ _ (HQ.out) (Below.refl _ _).drew) ?_
      refine wpAnyE_take (i := 0) (v := ?_) (hsT1) (fun _ h => h) rfl (by kernel_rfl) (by kernel_rfl) (by kernel_rfl) (by kernel_rfl) (fun _ _ _ h => h) (SteadyB.of_yields (Or.inl ⟨by rfl, ?_⟩)) ?_
      rotate_left
      · intro wq hSw
        obtain ⟨o0, o1, o2, o3, _⟩ := hSw.1.1.2.1.1
        have ol := hSw.1.1.2.1.1.lt
        obtain ⟨z0, z1, z2, z3, _⟩ := hSw.1.2.1
        have zl := hSw.1.2.1.lt
        go_simp
        (try with_reducible rfl)
      try simp only [List.getElem_toArray, List.getElem_cons_zero, List.getElem_cons_succ, Act.put, List.setIfInBounds_toArray, List.set_cons_zero, List.set_cons_succ]
      refine wpAnyE_take (i := 1) (v := ?_) (hsT1) (fun _ h => h) rfl (by kernel_rfl) (by kernel_rfl) (by kernel_rfl) (by kernel_rfl) (fun _ _ _ h => h) (SteadyB.of_yields (Or.inl ⟨by rfl, ?_⟩)) ?_
      rotate_left
      · intro wq hSw
        obtain ⟨o0, o1, o2, o3, _⟩ := hSw.1.1.2.1.1
        have ol := hSw.1.1.2.1.1.lt
        obtain ⟨z0, z1, z2, z3, _⟩ := hSw.1.2.1
        have zl := hSw.1.2.1.lt
        go_simp
        (try with_reducible rfl)
      try simp only [List.getElem_toArray, List.getElem_cons_zero, List.getElem_cons_succ, Act.put, List.setIfInBounds_toArray, List.set_cons_zero, List.set_cons_succ]
      refine wpAnyE_call (i := 2) (bqV) (bqR 133 (szI z)) rfl (by kernel_rfl) (by decide) (by rfl) (hsT1) (fun _ h => h) (fun yq => bqR.stays 133 (szI z) yq) (fun wq hSw => ?_) (fun yq => ?_)
      · exact RunI.big (Ref12.size s0 A0 n0 c0 z wq hSw.1.2.2 HZ.out) (by go_simp)
      obtain ⟨s2, A2, n2, c2⟩ := yq
      dsimp only [bqV, bqR]
      try simp only [List.getElem_toArray, List.getElem_cons_zero, List.getElem_cons_succ, Act.put, List.setIfInBounds_toArray, List.set_cons_zero, List.set_cons_succ]
      refine wpAnyE_call (i := 3) (bqV) (bqR 134 (V + szI z)) rfl (by kernel_rfl) (by decide) (by rfl) (Stays.and_ (hsT1) (bqR.stays 133 (szI z) (s2, A2, n2, c2))) (fun _ h => h.1) (fun yq => bqR.stays 134 (V + szI z) yq) (fun wq hSw => ?_) (fun yq => ?_)
      · exact RunI.big (Ref.add 133 s' s2 A' A2 n' c' n2 c2 V (szI z) wq (hSw.1.1.1.2.1.2.mono (by decide)) hSw.2 (by decide)) (by go_simp)
      obtain ⟨s3, A3, n3, c3⟩ := yq
      dsimp only [bqV, bqR]
      try simp only [List.getElem_toArray, List.getElem_cons_zero, List.getElem_cons_succ, Act.put, List.setIfInBounds_toArray, List.set_cons_zero, List.set_cons_succ]
      refine wpAnyE_call (i := 4) (bqV) (bqR 5 2) rfl (by kernel_rfl) (by decide) (by rfl) (Stays.and_ (Stays.and_ (hsT1) (bqR.stays 133 (szI z) (s2, A2, n2, c2))) (bqR.stays 134 (V + szI z) (s3, A3, n3, c3))) (fun _ h => h.1.1) (fun yq => bqR.stays 5 2 yq) (fun wq hSw => ?_) (fun yq => ?_)
      · exact RunI.big (Ref.N 2 (by decide) (by decide) wq) (by go_simp)
      obtain ⟨s4, A4, n4, c4⟩ := yq
      dsimp only [bqV, bqR]
      try simp only [List.getElem_toArray, List.getElem_cons_zero, List.getElem_cons_succ, Act.put, List.setIfInBounds_toArray, List.set_cons_zero, List.set_cons_succ]
      refine wpAnyE_call (i := 5) (bqV) (bqR 135 (V + szI z + 2)) rfl (by kernel_rfl) (by decide) (by rfl) (Stays.and_ (Stays.and_ (Stays.and_ (hsT1) (bqR.stays 133 (szI z) (s2, A2, n2, c2))) (bqR.stays 134 (V + szI z) (s3, A3, n3, c3))) (bqR.stays 5 2 (s4, A4, n4, c4))) (fun _ h => h.1.1.1) (fun yq => bqR.stays 135 (V + szI z + 2) yq) (fun wq hSw => ?_) (fun yq => ?_)
      · exact RunI.big (Ref.add 134 s3 s4 A3 A4 n3 c3 n4 c4 (V + szI z) 2 wq hSw.1.2 (IsB.mono hSw.2 (by decide)) (by decide)) (by go_simp)
      obtain ⟨s5, A5, n5, c5⟩ := yq
      dsimp only [bqV, bqR]
      try simp only [List.getElem_toArray, List.getElem_cons_zero, List.getElem_cons_succ, Act.put, List.setIfInBounds_toArray, List.set_cons_zero, List.set_cons_succ]
      refine wpAnyE_rest (n := 6) rfl rfl (by kernel_rfl) (fun wz hSz => ?_)
      simp only [List.toList_toArray, List.drop_succ_cons, List.drop_zero]
      have HQ9 := hid hSz
      clear hSz HQ
      have HV4 : Hid (Var ((wz.setCell ⟨(w.heap.size + 1), 0, none⟩ (.bool s5)).setCell ⟨(w.heap.size + 1), 1, none⟩ (.slice A5 n5 c5)) (w.heap.size + 1) s5 A5 n5 c5) := hid (HQ9.out.1.1.1.1.1.1.2.1.1.store s5 A5 n5 c5)
      have HZ4 : Hid (Var ((wz.setCell ⟨(w.heap.size + 1), 0, none⟩ (.bool s5)).setCell ⟨(w.heap.size + 1), 1, none⟩ (.slice A5 n5 c5)) w.heap.size false none 0 0) := hid (HQ9.out.1.1.1.1.1.1.1.1.far (by have := HQ9.out.1.1.1.1.1.1.1.2; omega) 0 1 _ _)
      have H4 : Hid (IsB ((wz.setCell ⟨(w.heap.size + 1), 0, none⟩ (.bool s5)).setCell ⟨(w.heap.size + 1), 1, none⟩ (.slice A5 n5 c5)) 135 s5 A5 n5 c5 (V + szI z + 2)) := hid (IsB.storeV HQ9.out.2 HQ9.out.1.1.1.1.1.1.2.1.1 0 1 _ _)
      have HB4 : Hid (Below w.heap.size w ((wz.setCell ⟨(w.heap.size + 1), 0, none⟩ (.bool s5)).setCell ⟨(w.heap.size + 1), 1, none⟩ (.slice A5 n5 c5))) := hid (((below_on HBa.out HQ9.out.1.1.1.1.2).setCell (Nat.le_succ _) _).setCell (Nat.le_succ _) _)
      obtain ⟨o0, o1, o2, o3, _⟩ := HQ9.out.1.1.1.1.1.1.2.1.1
      have ol := HQ9.out.1.1.1.1.1.1.2.1.1.lt
      clear HQ9 HBa
      go_wp2_with fail
      clear o0 o1 o2 o3 ol
      generalize ((wz.setCell ⟨(w.heap.size + 1), 0, none⟩ (.bool s5)).setCell ⟨(w.heap.size + 1), 1, none⟩ (.slice A5 n5 c5)) = W4 at HV4 HZ4 H4 HB4 ⊢
      by_cases hwr : WR (V + szI z + 2)
      · have HWR := hid hwr
        have GV := hid (show -170141183460469231731687303715884105728 ≤ V + szI z + 2 ∧ V + szI z + 2 < 170141183460469231731687303715884105728 by unfold WR at hwr; omega)
        clear hwr
        refine (Ref.is 135 (by omega) s5 A5 n5 c5 _ _ H4.out true ⟨fun _ => GV.out, fun _ => rfl⟩).mono ?_
        rintro e w5 ⟨rfl, hb⟩
        have H5 := hid ((H4.out.below hb).narrowR HWR.out)
        have HV5 := hid (HV4.out.below hb)
        have HZ5 := hid (HZ4.out.below hb)
        have HB5 := hid (below_on HB4.out hb)
        clear hb H4 HV4 HZ4 HB4
        go_wp2_with fail
        go_roundg (n - (k + 1))
        case measure => have := HG.out; omega
        case rel =>
          have e : carS ((l.map Prod.snd).take (k + 1)) = V + szI z + 2 := by have := HST.out; omega
          refine ⟨k + 1, s5, A5, n5, c5, by go_num, by omega, rfl, ?_, ⟨HZ5.out, HV5.out, by rw [e]; exact H5.out⟩, HB5.out⟩
          rw [e]; have := HWR.out; unfold WR at this; unfold mxW; omega
      · have GV := hid (show ¬ (-170141183460469231731687303715884105728 ≤ V + szI z + 2 ∧ V + szI z + 2 < 170141183460469231731687303715884105728) by unfold WR at hwr; omega)
        have HK : Hid (carI (l.map Prod.snd) = mxW) := hid (carI_stop (k := k + 1) HWI.out (by have h1 := HST.out; have h2 := HNN.out; have h3 := HSZ.out.1; unfold WR at hwr; unfold mxW; omega))
        clear hwr
        refine (Ref.is 135 (by omega) s5 A5 n5 c5 _ _ H4.out false ⟨fun h => absurd h (by decide), fun h => absurd h GV.out⟩).mono ?_
        rintro e w5 ⟨rfl, hb⟩
        have HZ5 := hid (HZ4.out.below hb)
        have HB5 := hid (below_on HB4.out hb)
        clear hb H4 HV4 HZ4 HB4
        go_wp2_with fail
        refine (Ref12.greatest _).mono ?_
        rintro e w6 ⟨s6, A6, n6, c6, rfl, hB, hb⟩
        have H6 := hid hB
        have HZ6 := hid (HZ5.out.below hb)
        have HB6 := hid (below_on HB5.out hb)
        clear hb hB HZ5 HB5
        have HF := hid (HZ6.out.finB HB6.out (by omega) H6.out)
        obtain ⟨t0, t1, t2, t3, _⟩ := HZ6.out
        have tl := HZ6.out.lt
        go_wp2_with fail
        refine bodyPost_ret (v := .agg #[.bool s6, .slice A6 n6 c6]) (by simp [results, Tryz.results21, go_sem, t0, t1, tl]) rfl ⟨_, _, _, _, rfl, ?_, HF.out.2⟩
        rw [HK.out]
        exact HF.out.1.mono (by decide)
    · obtain rfl : k = n := by omega
      have hki : ¬ (k : Int) < k := by omega
      have e : (l.map Prod.snd).take k = l.map Prod.snd := List.take_of_length_le (by rw [List.length_map]; have := HLN.out; omega)
      have HK : Hid (carI (l.map Prod.snd) = carS (l.map Prod.snd)) := hid (carI_go (by have := HLE.out; rwa [e] at this))
      rw [e] at HV
      clear e
      have HF := hid (HV.out.1.finB HB.out (Nat.le_refl _) HV.out.2.2)
      obtain ⟨t0, t1, t2, t3, _⟩ := HV.out.1
      have tl := HV.out.1.lt
      obtain ⟨o0, o1, o2, o3, _⟩ := HV.out.2.1
      have ol := HV.out.2.1.lt
      go_wp2_with fail
      refine bodyPost_ret (v := .agg #[.bool s', .slice A' n' c']) (by simp [results, Tryz.results21, go_sem, t0, t1, tl]) rfl ⟨_, _, _, _, rfl, ?_, HF.out.2⟩
      rw [HK.out]
      exact HF.out.1.mono (by decide)
end

/- ClampCarries: the walk. -/
section
open Go.RowKit
theorem take_w {l : List Int} {k : Nat} (hk : k < l.length) : l.take (k + 1) = l.take k ++ [l.getD k 0] := by
  have e : l.getD k 0 = l[k] := by simp [List.getD, hk]
  rw [List.take_succ_eq_append_getElem hk, e]
set_option maxRecDepth 100000 in
set_option maxHeartbeats 4000000 in
theorem Ccar.away (x : Int) (A : Option Addr) (n c : Nat) (w : World) (hn : 100 < n) (htab : Tab10 w.heap.size w) :
    Calls Tryz.prog 4 #[wv x, .slice A n c] w (Ans (.bool true) w) := by
  have HT := hid htab
  have HB0 := hid ((Below.refl w.heap.size w).alloc (Nat.le_refl _) (.cells #[.int .i64 (hiW x), .int .u64 (loW x)] 34))
  have h2 : (100 : Int) < (n : Int) := by omega
  clear htab hn
  unfold wv
  go_enter Tryz.func4, Tryz.ntmps4
  go_wp2_with fail
  refine (Law12.awake _ (HT.out.at2 HB0.out)).mono ?_
  rintro e w1 ⟨rfl, hb⟩
  have HB1 := hid (below_on HB0.out hb)
  clear hb HT HB0
  go_wp2_with fail
  go_ret
  exact ⟨rfl, HB1.out⟩
set_option maxRecDepth 100000 in
set_option maxHeartbeats 16000000 in
theorem Ccar.core (x : Int) (hx : WR x) (A : Option Addr) (n c : Nat) (l : List Int) (w : World) (hr : RdW w A n (wds l)) (hl : ∀ z ∈ l, WR z) (hn : n ≤ 100) (htab : Tab10 w.heap.size w) :
    Calls Tryz.prog 4 #[wv x, .slice A n c] w (Ans (.bool true) w) := by
  have HT := hid htab
  have HX := hid hx
  have HR := hid hr
  have HL := hid hl
  have HLN : Hid (l.length = n) := hid (by rw [← wds_length]; exact hr.1)
  have h2 : ¬ (100 : Int) < (n : Int) := by omega
  have hn100 : (n : Int) ≤ 100 := by omega
  have HSX := hid (szI_wr hx)
  have HCW := hid (carI_wr hl)
  have HB0 := hid ((Below.refl w.heap.size w).alloc (Nat.le_refl _) (.cells #[.int .i64 (hiW x), .int .u64 (loW x)] 34))
  have HC0 : Hid (Cs (w.alloc (.cells #[.int .i64 (hiW x), .int .u64 (loW x)] 34)) w.heap.size [.int .i64 (hiW x), .int .u64 (loW x)]) := hid (Cs.new2 w _ _ _)
  clear htab hx hr hl hn
  unfold wv
  go_enter Tryz.func4, Tryz.ntmps4
  go_wp2_with fail
  refine (Law12.awake _ (HT.out.at2 HB0.out)).mono ?_
  rintro e w1 ⟨rfl, hb⟩
  have HG1 := hid (And.intro (HC0.out.below hb) (below_on HB0.out hb))
  clear hb HT HB0 HC0
  go_wp2_with fail
  go_loopg [5, 15] n (fun s a i wr => ∃ (k : Nat) (A1 : Option Addr) (c1 : Nat) (q : List (Bq × Int)), a = .slice A1 k c1 ∧ i = .int .i64 k ∧ k ≤ n ∧ s = n - k ∧ (OwnB wr w1.heap.size A1 k c1 q ∧ q.map Prod.snd = l.take k) ∧ Below w1.heap.size w1 wr)
  case atStart => exact ⟨0, none, 0, [], rfl, rfl, Nat.zero_le _, by omega, ⟨OwnB.nil _ _, by simp⟩, Below.refl _ _⟩
  case round =>
    obtain ⟨k, A1, c1, q, rfl, rfl, hk, hs, ho, hb⟩ := hrel
    have HS := hid hs
    have HO := hid ho.1
    have HE := hid ho.2
    have HB := hid hb
    clear hs ho hb
    by_cases hkn : k < n
    · obtain ⟨bb, off, hA, _, hc⟩ := (HR.out.below (below_on HG1.out.2 HB.out)).2 k hkn
      obtain ⟨p0, p1⟩ := hc k hkn
      have hkl : k < l.length := by have := HLN.out; omega
      have HTK := hid (take_w hkl)
      rw [wds_get hkl] at p0 p1
      have HY : Hid (WR (l.getD k 0)) := hid (by
        have e : l.getD k 0 = l[k] := by simp [List.getD, hkl]
        rw [e]; exact HL.out _ (List.getElem_mem hkl))
      generalize l.getD k 0 = y at *
      subst hA
      have hki : (k : Int) < n := by omega
      dsimp only at p0 p1
      clear hc hkl
      have HYc : Hid (Cs (wr.alloc (.cells #[.int .i64 (hiW y), .int .u64 (loW y)] 34)) wr.heap.size [.int .i64 (hiW y), .int .u64 (loW y)]) := hid (Cs.new2 wr _ _ _)
      have HOa := hid (HO.out.alloc (.cells #[.int .i64 (hiW y), .int .u64 (loW y)] 34))
      have HBa := hid (HB.out.alloc HB.out.size (.cells #[.int .i64 (hiW y), .int .u64 (loW y)] 34))
      go_upto_region 9 with fail
      clear p0 p1 HO HB
      generalize (wr.alloc (.cells #[.int .i64 (hiW y), .int .u64 (loW y)] 34)) = Wa at HYc HOa HBa ⊢
      generalize wr.heap.size = gp at HYc ⊢
      obtain ⟨y0, y1⟩ := HYc.out.two
      go_wp2_with fail
      clear y0 y1 HYc
      refine (Law.ofF _ _ y (isW_of HY.out) _).mono ?_
      rintro e w3 ⟨s3, A3, n3, c3, rfl, hB, hb, hf⟩
      have hoff : offA (rowOf A1) (s3, A3, n3, c3) := frA.off (x := (s3, A3, n3, c3)) hf (fun j hj => (HOa.out.rowGe j hj).2)
      have HO3 := hid (HOa.out.below hb)
      have HB3 := hid (below_on HBa.out hb)
      have hOW := HO3.out.alloc (.cells #[.bool s3, .slice A3 n3 c3] 41)
      have hCB : Cs (w3.alloc (.cells #[.bool s3, .slice A3 n3 c3] 41)) w3.heap.size (bcells (s3, A3, n3, c3)) := Cs.new2 w3 _ _ _
      have hy : bqR 18 y (s3, A3, n3, c3) (w3.alloc (.cells #[.bool s3, .slice A3 n3 c3] 41)) := IsB.alloc hB _
      have HB4 := hid (HB3.out.alloc HB3.out.size (.cells #[.bool s3, .slice A3 n3 c3] 41))
      have hbs := HB4.out.size
      have hk1 : k ≤ 1000000 := by omega
      clear hb hB hf HOa HBa HO3 HB3
      go_wp2_with (first
        | (at_builtin; (with_reducible refine wpList_append_big _ rfl (.tmp 19) (.tmp 22) rfl w1.heap.size A1 k c1 q ?a1 hOW w3.heap.size (s3, A3, n3, c3) y ?a2 hCB hy hoff hk1 hbs ?a3); (case a1 => rfl); (case a2 => rfl); (intro A4 c4 w4 ho4 hc4 hr4); (have HO4 := hid ho4); (have HB5 := hid (Below.chg HB4.out hc4 (fun j hj => (hOW.rowGe j hj).1))); (clear ho4 hc4 hr4 hOW hCB hy hoff hbs))
        | fail)
      go_roundg (n - (k + 1))
      case measure => have := HS.out; omega
      case rel => exact ⟨k + 1, A4, c4, q ++ [((s3, A3, n3, c3), y)], rfl, by go_num, by omega, rfl, ⟨HO4.out, by rw [List.map_append, HE.out, HTK.out]; rfl⟩, HB5.out⟩
    · obtain rfl : k = n := by omega
      have hki : ¬ (k : Int) < k := by omega
      have HE2 : Hid (q.map Prod.snd = l) := hid (by rw [HE.out]; exact List.take_of_length_le (by have := HLN.out; omega))
      have HQI : Hid (∀ p ∈ q, WR p.2) := hid (fun p hp => HL.out _ (by rw [← HE2.out]; exact List.mem_map_of_mem hp))
      have HRC : Hid (∀ wq, RdB wq A1 k q → Calls Tryz.prog 21 #[.slice A1 k c1] wq (BAns 135 (carI l) wq)) := hid (fun wq hq => by
        have := Ref12.carried A1 k c1 q wq hq HQI.out (by omega)
        rwa [HE2.out] at this)
      have HQ : Hid ((Cs wr w.heap.size [.int .i64 (hiW x), .int .u64 (loW x)] ∧ (RdB wr A1 k q ∧ RdW wr A k (wds l))) ∧ Below w.heap.size w wr) := hid ⟨⟨HG1.out.1.below HB.out, HO.out.rdb, HR.out.below (below_on HG1.out.2 HB.out)⟩, below_on HG1.out.2 HB.out⟩
      clear HO HB HG1 HS HE
      go_wp2_with fail
      have hsT1 : Stays (fun wx => (Cs wx w.heap.size [.int .i64 (hiW x), .int .u64 (loW x)] ∧ (RdB wx A1 k q ∧ RdW wx A k (wds l))) ∧ Below w.heap.size w wx) := fun _ _ h hb => ⟨⟨h.1.1.below hb, h.1.2.1.below hb, h.1.2.2.below hb⟩, below_on h.2 hb⟩
      refine wp_region_grow (S := fun wx => (Cs wx w.heap.size [.int .i64 (hiW x), .int .u64 (loW x)] ∧ (RdB wx A1 k q ∧ RdW wx A k (wds l))) ∧ Below w.heap.size w wx) 14 (by kernel_rfl) (hsT1 _ _ (HQ.out) (Below.refl _ _).drew) ?_
      refine wpAnyE_take (i := 0) (v := ?_) (hsT1) (fun _ h => h) rfl (by kernel_rfl) (by kernel_rfl) (by kernel_rfl) (by kernel_rfl) (fun _ _ _ h => h) (SteadyB.of_yields (Or.inl ⟨by rfl, ?_⟩)) ?_
      rotate_left
      · intro wq hSw
        obtain ⟨x0, x1⟩ := hSw.1.1.two
        go_simp
        (try with_reducible rfl)
      try simp only [List.getElem_toArray, List.getElem_cons_zero, List.getElem_cons_succ, Act.put, List.setIfInBounds_toArray, List.set_cons_zero, List.set_cons_succ]
      refine wpAnyE_take (i := 1) (v := wv (szI x)) (hsT1) (fun _ h => h) rfl (by kernel_rfl) (by kernel_rfl) (by kernel_rfl) (by kernel_rfl) (fun _ _ _ h => h) (Or.inl ⟨by rfl, fun wq hSw => ?_⟩) ?_
      · refine RunB.of_calls (Clamp.size x HX.out wq) (by go_simp) ?_
        rintro e wr ⟨rfl, hb⟩
        exact ⟨rfl, hb⟩
      try simp only [List.getElem_toArray, List.getElem_cons_zero, List.getElem_cons_succ, Act.put, List.setIfInBounds_toArray, List.set_cons_zero, List.set_cons_succ]
      refine wpAnyE_take (i := 2) (v := ?_) (hsT1) (fun _ h => h) rfl (by kernel_rfl) (by kernel_rfl) (by kernel_rfl) (by kernel_rfl) (fun _ _ _ h => h) (SteadyB.of_yields (Or.inl ⟨by rfl, ?_⟩)) ?_
      rotate_left
      · intro wq hSw
        obtain ⟨x0, x1⟩ := hSw.1.1.two
        go_simp
        (try with_reducible rfl)
      try simp only [List.getElem_toArray, List.getElem_cons_zero, List.getElem_cons_succ, Act.put, List.setIfInBounds_toArray, List.set_cons_zero, List.set_cons_succ]
      refine wpAnyE_call (i := 3) (bqV) (bqR 18 x) rfl (by kernel_rfl) (by decide) (by rfl) (hsT1) (fun _ h => h) (fun yq => bqR.stays 18 x yq) (fun wq hSw => ?_) (fun yq => ?_)
      · exact RunI.big (Law.of _ _ x (isW_of HX.out) wq) (by go_simp)
      obtain ⟨s3, A3, n3, c3⟩ := yq
      dsimp only [bqV, bqR]
      try simp only [List.getElem_toArray, List.getElem_cons_zero, List.getElem_cons_succ, Act.put, List.setIfInBounds_toArray, List.set_cons_zero, List.set_cons_succ]
      refine wpAnyE_call (i := 4) (bqV) (bqR 133 (szI x)) rfl (by kernel_rfl) (by decide) (by rfl) (Stays.and_ (hsT1) (bqR.stays 18 x (s3, A3, n3, c3))) (fun _ h => h.1) (fun yq => bqR.stays 133 (szI x) yq) (fun wq hSw => ?_) (fun yq => ?_)
      · exact RunI.big (Ref12.size s3 A3 n3 c3 x wq hSw.2 HX.out) (by go_simp)
      obtain ⟨s4, A4, n4, c4⟩ := yq
      dsimp only [bqV, bqR]
      try simp only [List.getElem_toArray, List.getElem_cons_zero, List.getElem_cons_succ, Act.put, List.setIfInBounds_toArray, List.set_cons_zero, List.set_cons_succ]
      refine wpAnyE_call (i := 5) (fun _ : Unit => Value.bool true) (fun (_ : Unit) (_ : World) => True) rfl (by kernel_rfl) (by decide) (by rfl) (Stays.and_ (Stays.and_ (hsT1) (bqR.stays 18 x (s3, A3, n3, c3))) (bqR.stays 133 (szI x) (s4, A4, n4, c4))) (fun _ h => h.1.1) (fun yq => stays_unit yq) (fun wq hSw => ?_) (fun yq => ?_)
      · exact RunI.of_calls (Law.same 133 (by decide) _ _ (szI x) (isW_of HSX.out) s4 A4 n4 c4 (szI x) wq hSw.2 true ⟨fun _ => rfl, fun _ => rfl⟩) (by go_simp) (fun e w' h => ⟨(), h.1, trivial, h.2⟩)
      obtain ⟨⟩ := yq
      skip
      try simp only [List.getElem_toArray, List.getElem_cons_zero, List.getElem_cons_succ, Act.put, List.setIfInBounds_toArray, List.set_cons_zero, List.set_cons_succ]
      refine wpAnyE_take (i := 6) (v := ?_) (Stays.and_ (Stays.and_ (Stays.and_ (hsT1) (bqR.stays 18 x (s3, A3, n3, c3))) (bqR.stays 133 (szI x) (s4, A4, n4, c4))) (stays_unit ())) (fun _ h => h.1.1.1) rfl (by kernel_rfl) (by kernel_rfl) (by kernel_rfl) (by kernel_rfl) (fun _ _ _ h => h) (SteadyB.of_yields (Or.inl ⟨by rfl, ?_⟩)) ?_
      rotate_left
      · intro wq hSw
        go_simp
        (try with_reducible rfl)
      try simp only [List.getElem_toArray, List.getElem_cons_zero, List.getElem_cons_succ, Act.put, List.setIfInBounds_toArray, List.set_cons_zero, List.set_cons_succ]
      refine wpAnyE_take (i := 7) (v := ?_) (Stays.and_ (Stays.and_ (Stays.and_ (hsT1) (bqR.stays 18 x (s3, A3, n3, c3))) (bqR.stays 133 (szI x) (s4, A4, n4, c4))) (stays_unit ())) (fun _ h => h.1.1.1) rfl (by kernel_rfl) (by kernel_rfl) (by kernel_rfl) (by kernel_rfl) (fun _ _ _ h => h) (SteadyB.of_yields (Or.inl ⟨by rfl, ?_⟩)) ?_
      rotate_left
      · intro wq hSw
        go_simp
        (try with_reducible rfl)
      try simp only [List.getElem_toArray, List.getElem_cons_zero, List.getElem_cons_succ, Act.put, List.setIfInBounds_toArray, List.set_cons_zero, List.set_cons_succ]
      refine wpAnyE_take (i := 8) (v := wv (carI l)) (Stays.and_ (Stays.and_ (Stays.and_ (hsT1) (bqR.stays 18 x (s3, A3, n3, c3))) (bqR.stays 133 (szI x) (s4, A4, n4, c4))) (stays_unit ())) (fun _ h => h.1.1.1) rfl (by kernel_rfl) (by kernel_rfl) (by kernel_rfl) (by kernel_rfl) (fun _ _ _ h => h) (Or.inl ⟨by rfl, fun wq hSw => ?_⟩) ?_
      · refine RunB.of_calls (Clamp.carried A k c l wq hSw.1.2.2 HL.out (by omega)) (by go_simp) ?_
        rintro e wr ⟨rfl, hb⟩
        exact ⟨rfl, hb⟩
      try simp only [List.getElem_toArray, List.getElem_cons_zero, List.getElem_cons_succ, Act.put, List.setIfInBounds_toArray, List.set_cons_zero, List.set_cons_succ]
      refine wpAnyE_take (i := 9) (v := ?_) (Stays.and_ (Stays.and_ (Stays.and_ (hsT1) (bqR.stays 18 x (s3, A3, n3, c3))) (bqR.stays 133 (szI x) (s4, A4, n4, c4))) (stays_unit ())) (fun _ h => h.1.1.1) rfl (by kernel_rfl) (by kernel_rfl) (by kernel_rfl) (by kernel_rfl) (fun _ _ _ h => h) (SteadyB.of_yields (Or.inl ⟨by rfl, ?_⟩)) ?_
      rotate_left
      · intro wq hSw
        go_simp
        (try with_reducible rfl)
      try simp only [List.getElem_toArray, List.getElem_cons_zero, List.getElem_cons_succ, Act.put, List.setIfInBounds_toArray, List.set_cons_zero, List.set_cons_succ]
      refine wpAnyE_call (i := 10) (bqV) (bqR 135 (carI l)) rfl (by kernel_rfl) (by decide) (by rfl) (Stays.and_ (Stays.and_ (Stays.and_ (hsT1) (bqR.stays 18 x (s3, A3, n3, c3))) (bqR.stays 133 (szI x) (s4, A4, n4, c4))) (stays_unit ())) (fun _ h => h.1.1.1) (fun yq => bqR.stays 135 (carI l) yq) (fun wq hSw => ?_) (fun yq => ?_)
      · exact RunI.big (HRC.out wq hSw.1.1.1.1.2.1) (by go_simp)
      obtain ⟨s10, A10, n10, c10⟩ := yq
      dsimp only [bqV, bqR]
      try simp only [List.getElem_toArray, List.getElem_cons_zero, List.getElem_cons_succ, Act.put, List.setIfInBounds_toArray, List.set_cons_zero, List.set_cons_succ]
      refine wpAnyE_call (i := 11) (fun _ : Unit => Value.bool true) (fun (_ : Unit) (_ : World) => True) rfl (by kernel_rfl) (by decide) (by rfl) (Stays.and_ (Stays.and_ (Stays.and_ (Stays.and_ (hsT1) (bqR.stays 18 x (s3, A3, n3, c3))) (bqR.stays 133 (szI x) (s4, A4, n4, c4))) (stays_unit ())) (bqR.stays 135 (carI l) (s10, A10, n10, c10))) (fun _ h => h.1.1.1.1) (fun yq => stays_unit yq) (fun wq hSw => ?_) (fun yq => ?_)
      · exact RunI.of_calls (Law.same 135 (by decide) _ _ (carI l) (isW_of HCW.out) s10 A10 n10 c10 (carI l) wq hSw.2 true ⟨fun _ => rfl, fun _ => rfl⟩) (by go_simp) (fun e w' h => ⟨(), h.1, trivial, h.2⟩)
      obtain ⟨⟩ := yq
      skip
      try simp only [List.getElem_toArray, List.getElem_cons_zero, List.getElem_cons_succ, Act.put, List.setIfInBounds_toArray, List.set_cons_zero, List.set_cons_succ]
      refine wpAnyE_take (i := 12) (v := ?_) (Stays.and_ (Stays.and_ (Stays.and_ (Stays.and_ (Stays.and_ (hsT1) (bqR.stays 18 x (s3, A3, n3, c3))) (bqR.stays 133 (szI x) (s4, A4, n4, c4))) (stays_unit ())) (bqR.stays 135 (carI l) (s10, A10, n10, c10))) (stays_unit ())) (fun _ h => h.1.1.1.1.1) rfl (by kernel_rfl) (by kernel_rfl) (by kernel_rfl) (by kernel_rfl) (fun _ _ _ h => h) (SteadyB.of_yields (Or.inl ⟨by rfl, ?_⟩)) ?_
      rotate_left
      · intro wq hSw
        go_simp
        (try with_reducible rfl)
      try simp only [List.getElem_toArray, List.getElem_cons_zero, List.getElem_cons_succ, Act.put, List.setIfInBounds_toArray, List.set_cons_zero, List.set_cons_succ]
      refine wpAnyE_take (i := 13) (v := ?_) (Stays.and_ (Stays.and_ (Stays.and_ (Stays.and_ (Stays.and_ (hsT1) (bqR.stays 18 x (s3, A3, n3, c3))) (bqR.stays 133 (szI x) (s4, A4, n4, c4))) (stays_unit ())) (bqR.stays 135 (carI l) (s10, A10, n10, c10))) (stays_unit ())) (fun _ h => h.1.1.1.1.1) rfl (by kernel_rfl) (by kernel_rfl) (by kernel_rfl) (by kernel_rfl) (fun _ _ _ h => h) (SteadyB.of_yields (Or.inl ⟨by rfl, ?_⟩)) ?_
      rotate_left
      · intro wq hSw
        go_simp
        (try with_reducible rfl)
      try simp only [List.getElem_toArray, List.getElem_cons_zero, List.getElem_cons_succ, Act.put, List.setIfInBounds_toArray, List.set_cons_zero, List.set_cons_succ]
      refine wpAnyE_done (by kernel_rfl) (fun wz hSz => ?_) _
      have HQ9 := hid hSz.1.1.1.1.1.2
      clear hSz HQ
      go_wp2_with fail
      go_ret
      exact ⟨by first | rfl | simp, HQ9.out⟩
theorem Ccar.law (h1 l1 : Int) (A : Option Addr) (n c : Nat) (ps : List (Int × Int)) (w : World) (w0 : IsWd h1 l1) (h : RdW w A n ps ∧ AllW ps ∧ n ≤ 9223372036854775807) (htab : Tab10 w.heap.size w) :
    Calls Tryz.prog 4 #[.agg #[.int .i64 h1, .int .u64 l1], .slice A n c] w fun e w' => e = .returned (.bool true) ∧ Below w.heap.size w w' := by
  obtain ⟨e1, e2⟩ := IsW.words w0
  have hx := w0.wr
  generalize h1 * 18446744073709551616 + l1 = x at *
  rw [e1, e2]
  by_cases hn : 100 < n
  · exact Ccar.away x A n c w hn htab
  · obtain ⟨g1, g2⟩ := wds_of h.2.1
    exact Ccar.core x hx A n c (ps.map vW) w (by rw [g1]; exact h.1) g2 (by omega) htab
end

end Go.Proofs.YtklaghleghncoaaGreatDoor
