/- Texts of ReqServes's proof, together. -/
import Derived.Test.YtjndmmcjobbcbaaGreatDoorReqServesZ34
import Derived.Test.YtjndmmcjobbcbaaGreatDoorReqServesZ20
import Derived.Test.YtjndmmcjobbcbaaGreatDoorReqServesZ25
import Derived.Test.YtjndmmcjobbcbaaGreatDoorReqServesZ37
import Derived.Test.YtjndmmcjobbcbaaGreatDoorStr
import Derived.Test.YtjndmmcjobbcbaaGreatDoorReqServesZ13
import Derived.Test.YtjndmmcjobbcbaaGreatDoorReqServesZ28
namespace Go.Proofs.YtjndmmcjobbcbaaGreatDoor

section
open Go.RowKit
theorem Law7.Awake (w : World) : Calls Tryz.prog 269 #[] w (Ans (.bool true) w) := by
 go_enter Tryz.func269, Tryz.ntmps269
 go_wp2_with (go_at_call 271; refine (Law7.awake _).mono ?_; rintro e w' ⟨rfl, hb⟩)
 go_ret
 exact ⟨rfl, hb⟩
theorem ex8 : Mu.of 5 [(5, 0, 1), (8, 0, 1)] = (true, ⟨5, 3, 2, 2⟩) := by
 rw [of_yes 5 (l := [(5, 0, 1), (8, 0, 1)]) (fun p hp => by
  simp at hp
  rcases hp with rfl | rfl
  ·exact ⟨by decide, ⟨by decide, by decide⟩, ⟨by decide, by decide⟩, by decide, by decide⟩
  ·exact ⟨by decide, ⟨by decide, by decide⟩, ⟨by decide, by decide⟩, by decide, by decide⟩) (by decide)]
 rfl
theorem ex8f : Mu.fl ⟨5, 3, 2, 2⟩ = (true, 6) := by first | rfl | decide +kernel
theorem ex8t : txtOf 3 = [51] := by first | decide +kernel | (unfold txtOf; rw [if_neg (by decide)]; simp [Lib.decDigits])
theorem Tab10.at2 {w0 w : World} (h : Tab10 w0.heap.size w0) (hb : Below w0.heap.size w0 w) : Tab10 w.heap.size w := Tab10.of (h.on hb).here
set_option maxRecDepth 100000 in
set_option maxHeartbeats 4000000 in
theorem Law8.awake (w : World) (htab : Tab10 w.heap.size w) : Calls Tryz.prog 268 #[] w (Ans (.bool true) w) := by
 have HT := hid htab
 have HB0 := hid ((Below.refl w.heap.size w).alloc (Nat.le_refl _) (.cells #[.int .u64 5, .int .u32 0, .int .u32 1, .int .u64 8, .int .u32 0, .int .u32 1] 27))
 have HR := hid (RdP.new2 w 27 5 0 1 8 0 1)
 clear htab
 go_enter Tryz.func268, Tryz.ntmps268
 go_wp2_with fail

 generalize (w.alloc (.cells #[.int .u64 5, .int .u32 0, .int .u32 1, .int .u64 8, .int .u32 0, .int .u32 1] 27)) = W0 at HB0 HR ⊢
 refine (Mean.of 5 ⟨by decide, by decide⟩ (some ⟨w.heap.size, 0, none⟩) 2 2 [(5, 0, 1), (8, 0, 1)] _ HR.out (fun p hp => by
  simp at hp
  rcases hp with rfl | rfl
  ·exact ⟨⟨by decide, by decide⟩, ⟨by decide, by decide⟩, by decide, by decide⟩
  ·exact ⟨⟨by decide, by decide⟩, ⟨by decide, by decide⟩, by decide, by decide⟩) (by decide)).mono ?_
 rw [ex8]
 rintro e w1 ⟨rfl, hb⟩
 have ha := (Below.refl w1.heap.size w1).alloc (Nat.le_refl _) (.cells #[.int .u64 5, .int .i64 (hiW 3), .int .u64 (loW 3), .int .u64 2, .int .i64 2] 127)
 have HB1 := hid (below_on (below_on HB0.out hb) ha)
 have HC1 : Hid (Cs (w1.alloc (.cells #[.int .u64 5, .int .i64 (hiW 3), .int .u64 (loW 3), .int .u64 2, .int .i64 2] 127)) w1.heap.size (Mu.mk 5 3 2 2).cells) := hid (Cs.alloc_new6 w1 _ (Mu.mk 5 3 2 2).cells)
 clear hb ha HB0 HR
 go_wp2_with fail
 generalize (w1.alloc (.cells #[.int .u64 5, .int .i64 (hiW 3), .int .u64 (loW 3), .int .u64 2, .int .i64 2] 127)) = W1 at HB1 HC1 ⊢
 generalize w1.heap.size = g at HC1 ⊢
 refine (Mean.floor ⟨5, 3, 2, 2⟩ (by unfold Mu.In WR; refine ⟨⟨?_, ?_⟩, ⟨?_, ?_⟩, ⟨?_, ?_⟩, ?_, ?_⟩ <;> decide) _).mono ?_
 rw [ex8f]
 rintro e w2 ⟨rfl, hb⟩
 have HB2 := hid (below_on HB1.out hb)
 have HC2 := hid (HC1.out.below hb)
 clear hb HB1 HC1
 go_wp2_with fail
 refine (Law7.Awake _).mono ?_
 rintro e w3 ⟨rfl, hb⟩
 have HB3 := hid (below_on HB2.out hb)
 have HC3 := hid (HC2.out.below hb)
 clear hb HB2 HC2
 obtain ⟨m0, m1, m2, m3, m4⟩ := Mu.at _ HC3.out
 go_wp2_with fail
 refine (Wide.string (hiW 3) (loW 3) 3 (isW_of (by unfold WR; omega)) _ (HT.out.at2 HB3.out)).mono ?_
 rw [ex8t]
 rintro e w4 ⟨rfl, hb⟩
 have HB4 := hid (below_on HB3.out hb)
 have HC4 := hid (HC3.out.below hb)
 clear hb HB3 HC3 m0 m1 m2 m3 m4
 obtain ⟨m0, m1, m2, m3, m4⟩ := Mu.at _ HC4.out
 go_wp2_with fail
 go_ret
 exact ⟨rfl, HB4.out⟩
theorem Law8.Awake (w : World) (htab : Tab10 w.heap.size w) : Calls Tryz.prog 267 #[] w (Ans (.bool true) w) := by
 go_enter Tryz.func267, Tryz.ntmps267
 go_wp2_with (go_at_call 268; refine (Law8.awake _ htab).mono ?_; rintro e w' ⟨rfl, hb⟩)
 go_ret
 exact ⟨rfl, hb⟩
end


section
open Go.RowKit
theorem ex9in : (Mu.mk 5 3 2 2).In := by unfold Mu.In WR; refine ⟨⟨?_, ?_⟩, ⟨?_, ?_⟩, ⟨?_, ?_⟩, ?_, ?_⟩ <;> decide
theorem ex9p : PIn (5, 0, 1) := ⟨⟨by decide, by decide⟩, ⟨by decide, by decide⟩, by decide, by decide⟩
theorem ex9q : PIn (8, 0, 1) := ⟨⟨by decide, by decide⟩, ⟨by decide, by decide⟩, by decide, by decide⟩
theorem ex9a (w : World) : Calls Tryz.prog 76 #[(Mu.mk 5 3 2 2).val, pv (5, 0, 1)] w (Ans (.bool true) w) := by
 have h := Lag.eligible (Mu.mk 5 3 2 2) (5, 0, 1) ex9in ex9p w
 rwa [show (Mu.mk 5 3 2 2).elig (5, 0, 1) = true by first | rfl | decide +kernel] at h
theorem ex9b (w : World) : Calls Tryz.prog 76 #[(Mu.mk 5 3 2 2).val, pv (8, 0, 1)] w (Ans (.bool false) w) := by
 have h := Lag.eligible (Mu.mk 5 3 2 2) (8, 0, 1) ex9in ex9q w
 rwa [show (Mu.mk 5 3 2 2).elig (8, 0, 1) = false by first | rfl | decide +kernel] at h
theorem ex9c (w : World) : Calls Tryz.prog 73 #[(Mu.mk 5 3 2 2).val, pv (5, 0, 1)] w (Ans (.tuple #[wv 1, .bool true]) w) := by
 have h := Lag.read (Mu.mk 5 3 2 2) (5, 0, 1) ex9in ex9p w
 rwa [show (Mu.mk 5 3 2 2).lag (5, 0, 1) = (true, 1) by first | rfl | decide +kernel] at h
theorem ex9d (w : World) : Calls Tryz.prog 73 #[(Mu.mk 5 3 2 2).val, pv (8, 0, 1)] w (Ans (.tuple #[wv (-2), .bool true]) w) := by
 have h := Lag.read (Mu.mk 5 3 2 2) (8, 0, 1) ex9in ex9q w
 rwa [show (Mu.mk 5 3 2 2).lag (8, 0, 1) = (true, -2) by first | rfl | decide +kernel] at h
def A9 (w : World) (g3 g4 g5 : Nat) (W : World) : Prop := (Cs W w.heap.size (pcells (5, 0, 1)) ∧ Cs W (w.heap.size + 1) (pcells (8, 0, 1)) ∧ Cs W g3 (Mu.mk 5 3 2 2).cells) ∧ (Cs W g4 [.int .i64 (hiW 1), .int .u64 (loW 1)] ∧ Cs W g5 [.int .i64 (hiW (-2)), .int .u64 (loW (-2))]) ∧ Below w.heap.size w W
theorem A9.below {w w1 w2 : World} {g3 g4 g5 : Nat} (h : A9 w g3 g4 g5 w1) (hb : Below w1.heap.size w1 w2) : A9 w g3 g4 g5 w2 := ⟨⟨h.1.1.below hb, h.1.2.1.below hb, h.1.2.2.below hb⟩, ⟨h.2.1.1.below hb, h.2.1.2.below hb⟩, below_on h.2.2 hb⟩
theorem A9.stays (w : World) (g3 g4 g5 : Nat) : Stays (A9 w g3 g4 g5) := fun _ _ h hb => h.below hb
set_option maxRecDepth 100000 in
set_option maxHeartbeats 8000000 in
theorem Law9.awake (w : World) (htab : Tab10 w.heap.size w) : Calls Tryz.prog 266 #[] w (Ans (.bool true) w) := by
 have HT := hid htab
 have HA0 : Hid ((Cs (((w.alloc (.cells #[.int .u64 5, .int .u32 0, .int .u32 1] 27)).alloc (.cells #[.int .u64 8, .int .u32 0, .int .u32 1] 27)).alloc (.cells #[.int .u64 5, .int .u32 0, .int .u32 1, .int .u64 8, .int .u32 0, .int .u32 1] 27)) w.heap.size (pcells (5, 0, 1)) ∧ Cs (((w.alloc (.cells #[.int .u64 5, .int .u32 0, .int .u32 1] 27)).alloc (.cells #[.int .u64 8, .int .u32 0, .int .u32 1] 27)).alloc (.cells #[.int .u64 5, .int .u32 0, .int .u32 1, .int .u64 8, .int .u32 0, .int .u32 1] 27)) (w.heap.size + 1) (pcells (8, 0, 1))) ∧ RdP (((w.alloc (.cells #[.int .u64 5, .int .u32 0, .int .u32 1] 27)).alloc (.cells #[.int .u64 8, .int .u32 0, .int .u32 1] 27)).alloc (.cells #[.int .u64 5, .int .u32 0, .int .u32 1, .int .u64 8, .int .u32 0, .int .u32 1] 27)) (some ⟨w.heap.size + 2, 0, none⟩) 2 [(5, 0, 1), (8, 0, 1)] ∧ Below w.heap.size w (((w.alloc (.cells #[.int .u64 5, .int .u32 0, .int .u32 1] 27)).alloc (.cells #[.int .u64 8, .int .u32 0, .int .u32 1] 27)).alloc (.cells #[.int .u64 5, .int .u32 0, .int .u32 1, .int .u64 8, .int .u32 0, .int .u32 1] 27))) := hid (by
  have h1 := Cs.alloc_new6 w 27 (pcells (5, 0, 1))
  have h2 := Cs.alloc_new6 (w.alloc (.cells #[.int .u64 5, .int .u32 0, .int .u32 1] 27)) 27 (pcells (8, 0, 1))
  have h3 := RdP.new2 ((w.alloc (.cells #[.int .u64 5, .int .u32 0, .int .u32 1] 27)).alloc (.cells #[.int .u64 8, .int .u32 0, .int .u32 1] 27)) 27 5 0 1 8 0 1
  simp only [World.size_alloc] at h2 h3
  exact ⟨⟨(h1.alloc _).alloc _, h2.alloc _⟩, h3, (((Below.refl w.heap.size w).alloc (Nat.le_refl _) _).alloc (by simp) _).alloc (by simp; omega) _⟩)
 clear htab
 go_enter Tryz.func266, Tryz.ntmps266
 go_wp2_with fail
 generalize (((w.alloc (.cells #[.int .u64 5, .int .u32 0, .int .u32 1] 27)).alloc (.cells #[.int .u64 8, .int .u32 0, .int .u32 1] 27)).alloc (.cells #[.int .u64 5, .int .u32 0, .int .u32 1, .int .u64 8, .int .u32 0, .int .u32 1] 27)) = W3 at HA0 ⊢
 refine (Mean.of 5 ⟨by decide, by decide⟩ (some ⟨w.heap.size + 2, 0, none⟩) 2 2 [(5, 0, 1), (8, 0, 1)] _ HA0.out.2.1 (fun p hp => by
  simp at hp
  rcases hp with rfl | rfl
  ·exact ex9p
  ·exact ex9q) (by decide)).mono ?_
 rw [ex8]
 rintro e w1 ⟨rfl, hb⟩
 have ha := (Below.refl w1.heap.size w1).alloc (Nat.le_refl _) (.cells #[.int .u64 5, .int .i64 (hiW 3), .int .u64 (loW 3), .int .u64 2, .int .i64 2] 127)
 have HA1 : Hid (((Cs (w1.alloc (.cells #[.int .u64 5, .int .i64 (hiW 3), .int .u64 (loW 3), .int .u64 2, .int .i64 2] 127)) w.heap.size (pcells (5, 0, 1)) ∧ Cs (w1.alloc (.cells #[.int .u64 5, .int .i64 (hiW 3), .int .u64 (loW 3), .int .u64 2, .int .i64 2] 127)) (w.heap.size + 1) (pcells (8, 0, 1))) ∧ Cs (w1.alloc (.cells #[.int .u64 5, .int .i64 (hiW 3), .int .u64 (loW 3), .int .u64 2, .int .i64 2] 127)) w1.heap.size (Mu.mk 5 3 2 2).cells) ∧ Below w.heap.size w (w1.alloc (.cells #[.int .u64 5, .int .i64 (hiW 3), .int .u64 (loW 3), .int .u64 2, .int .i64 2] 127))) := hid ⟨⟨⟨(HA0.out.1.1.below hb).below ha, (HA0.out.1.2.below hb).below ha⟩, Cs.alloc_new6 w1 _ (Mu.mk 5 3 2 2).cells⟩, below_on (below_on HA0.out.2.2 hb) ha⟩
 clear hb ha HA0
 obtain ⟨m0, m1, m2, m3, m4⟩ := Mu.at (Mu.mk 5 3 2 2) HA1.out.1.2
 obtain ⟨q0, q1, q2⟩ := P3.at (5, 0, 1) HA1.out.1.1.1
 dsimp only at m0 m1 m2 m3 m4 q0 q1 q2
 go_wp2_with fail
 clear m0 m1 m2 m3 m4 q0 q1 q2
 generalize w1.alloc (.cells #[.int .u64 5, .int .i64 (hiW 3), .int .u64 (loW 3), .int .u64 2, .int .i64 2] 127) = W4 at HA1 ⊢
 generalize w1.heap.size = g3 at HA1 ⊢
 refine (ex9c _).mono ?_
 rintro e w2 ⟨rfl, hb⟩
 have ha := (Below.refl w2.heap.size w2).alloc (Nat.le_refl _) (.cells #[.int .i64 (hiW 1), .int .u64 (loW 1)] 45)
 have HA2 : Hid (((Cs (w2.alloc (.cells #[.int .i64 (hiW 1), .int .u64 (loW 1)] 45)) w.heap.size (pcells (5, 0, 1)) ∧ Cs (w2.alloc (.cells #[.int .i64 (hiW 1), .int .u64 (loW 1)] 45)) (w.heap.size + 1) (pcells (8, 0, 1))) ∧ Cs (w2.alloc (.cells #[.int .i64 (hiW 1), .int .u64 (loW 1)] 45)) g3 (Mu.mk 5 3 2 2).cells) ∧ Cs (w2.alloc (.cells #[.int .i64 (hiW 1), .int .u64 (loW 1)] 45)) w2.heap.size [.int .i64 (hiW 1), .int .u64 (loW 1)] ∧ Below w.heap.size w (w2.alloc (.cells #[.int .i64 (hiW 1), .int .u64 (loW 1)] 45))) := hid ⟨⟨⟨(HA1.out.1.1.1.below hb).below ha, (HA1.out.1.1.2.below hb).below ha⟩, (HA1.out.1.2.below hb).below ha⟩, Cs.new2 w2 _ _ _, below_on (below_on HA1.out.2 hb) ha⟩
 clear hb ha HA1
 obtain ⟨m0, m1, m2, m3, m4⟩ := Mu.at (Mu.mk 5 3 2 2) HA2.out.1.2
 obtain ⟨q0, q1, q2⟩ := P3.at (8, 0, 1) HA2.out.1.1.2
 dsimp only at m0 m1 m2 m3 m4 q0 q1 q2
 go_wp2_with fail
 clear m0 m1 m2 m3 m4 q0 q1 q2
 generalize w2.alloc (.cells #[.int .i64 (hiW 1), .int .u64 (loW 1)] 45) = W5 at HA2 ⊢
 generalize w2.heap.size = g4 at HA2 ⊢
 refine (ex9d _).mono ?_
 rintro e w3 ⟨rfl, hb⟩
 have ha := (Below.refl w3.heap.size w3).alloc (Nat.le_refl _) (.cells #[.int .i64 (hiW (-2)), .int .u64 (loW (-2))] 45)
 have HA5 : Hid (A9 w g3 g4 w3.heap.size (w3.alloc (.cells #[.int .i64 (hiW (-2)), .int .u64 (loW (-2))] 45))) := hid ⟨⟨(HA2.out.1.1.1.below hb).below ha, (HA2.out.1.1.2.below hb).below ha, (HA2.out.1.2.below hb).below ha⟩, ⟨(HA2.out.2.1.below hb).below ha, Cs.new2 w3 _ _ _⟩, below_on (below_on HA2.out.2.2 hb) ha⟩
 clear hb ha HA2
 go_wp2_with fail
 generalize w3.alloc (.cells #[.int .i64 (hiW (-2)), .int .u64 (loW (-2))] 45) = W6 at HA5 ⊢
 generalize w3.heap.size = g5 at HA5 ⊢
 refine wp_region_grow (S := A9 w g3 g4 g5) 32 (by kernel_rfl) (HA5.out.below (Below.refl _ _).drew) ?_
 refine tC 0 (v := Value.bool true) (A9.stays w g3 g4 g5) (fun _ h => h) (fun wq hSw => Law8.Awake wq (HT.out.at2 hSw.2.2)) ?_
 try simp only [tdy]
 refine tF 1 (A9.stays w g3 g4 g5) (fun _ h => h) ?_
 try simp only [tdy]
 refine tF 2 (A9.stays w g3 g4 g5) (fun _ h => h) ?_
 try simp only [tdy]
 refine tF 3 (A9.stays w g3 g4 g5) (fun _ h => h) ?_
 try simp only [tdy]
 refine tF 4 (A9.stays w g3 g4 g5) (fun _ h => h) ?_
 try simp only [tdy]
 refine tF 5 (A9.stays w g3 g4 g5) (fun _ h => h) ?_
 try simp only [tdy]
 refine tF 6 (A9.stays w g3 g4 g5) (fun _ h => h) ?_
 try simp only [tdy]
 refine tF 7 (A9.stays w g3 g4 g5) (fun _ h => h) ?_
 try simp only [tdy]
 refine tF 8 (A9.stays w g3 g4 g5) (fun _ h => h) ?_
 try simp only [tdy]
 refine tF 9 (A9.stays w g3 g4 g5) (fun _ h => h) ?_
 try simp only [tdy]
 refine tF 10 (A9.stays w g3 g4 g5) (fun _ h => h) ?_
 try simp only [tdy]
 refine tE 11 (v := ?_) (A9.stays w g3 g4 g5) (fun _ h => h) rfl (by kernel_rfl) (by rfl) ?_ ?_
 rotate_left
 ·intro wq hSw
  obtain ⟨m0, m1, m2, m3, m4⟩ := Mu.at (Mu.mk 5 3 2 2) hSw.1.2.2
  obtain ⟨q0, q1, q2⟩ := P3.at (5, 0, 1) hSw.1.1
  obtain ⟨r0, r1, r2⟩ := P3.at (8, 0, 1) hSw.1.2.1
  have a0 := hSw.2.1.1.at0
  have a1 := hSw.2.1.1.at1
  have b0 := hSw.2.1.2.at0
  have b1 := hSw.2.1.2.at1
  dsimp only at m0 m1 m2 m3 m4 q0 q1 q2 r0 r1 r2
  go_simp; try with_reducible rfl
 try simp only [tdy]
 refine tC 12 (v := wv 1) (A9.stays w g3 g4 g5) (fun _ h => h) (fun wq hSw => Wide.ofF (x := 1) (by decide) (by decide) wq) ?_
 try simp only [tdy]
 refine tF 13 (A9.stays w g3 g4 g5) (fun _ h => h) ?_
 try simp only [tdy]
 refine tF 14 (A9.stays w g3 g4 g5) (fun _ h => h) ?_
 try simp only [tdy]
 refine tF 15 (A9.stays w g3 g4 g5) (fun _ h => h) ?_
 try simp only [tdy]
 refine tE 16 (v := ?_) (A9.stays w g3 g4 g5) (fun _ h => h) rfl (by kernel_rfl) (by rfl) ?_ ?_
 rotate_left
 ·intro wq hSw
  obtain ⟨m0, m1, m2, m3, m4⟩ := Mu.at (Mu.mk 5 3 2 2) hSw.1.2.2
  obtain ⟨q0, q1, q2⟩ := P3.at (5, 0, 1) hSw.1.1
  obtain ⟨r0, r1, r2⟩ := P3.at (8, 0, 1) hSw.1.2.1
  have a0 := hSw.2.1.1.at0
  have a1 := hSw.2.1.1.at1
  have b0 := hSw.2.1.2.at0
  have b1 := hSw.2.1.2.at1
  dsimp only at m0 m1 m2 m3 m4 q0 q1 q2 r0 r1 r2
  go_simp; try with_reducible rfl
 try simp only [tdy]
 refine tC 17 (v := wv (-2)) (A9.stays w g3 g4 g5) (fun _ h => h) (fun wq hSw => Wide.ofF (x := -2) (by decide) (by decide) wq) ?_
 try simp only [tdy]
 refine tF 18 (A9.stays w g3 g4 g5) (fun _ h => h) ?_
 try simp only [tdy]
 refine tF 19 (A9.stays w g3 g4 g5) (fun _ h => h) ?_
 try simp only [tdy]
 refine tF 20 (A9.stays w g3 g4 g5) (fun _ h => h) ?_
 try simp only [tdy]
 refine tE 21 (v := ?_) (A9.stays w g3 g4 g5) (fun _ h => h) rfl (by kernel_rfl) (by rfl) ?_ ?_
 rotate_left
 ·intro wq hSw
  obtain ⟨m0, m1, m2, m3, m4⟩ := Mu.at (Mu.mk 5 3 2 2) hSw.1.2.2
  obtain ⟨q0, q1, q2⟩ := P3.at (5, 0, 1) hSw.1.1
  obtain ⟨r0, r1, r2⟩ := P3.at (8, 0, 1) hSw.1.2.1
  have a0 := hSw.2.1.1.at0
  have a1 := hSw.2.1.1.at1
  have b0 := hSw.2.1.2.at0
  have b1 := hSw.2.1.2.at1
  dsimp only at m0 m1 m2 m3 m4 q0 q1 q2 r0 r1 r2
  go_simp; try with_reducible rfl
 try simp only [tdy]
 refine tE 22 (v := ?_) (A9.stays w g3 g4 g5) (fun _ h => h) rfl (by kernel_rfl) (by rfl) ?_ ?_
 rotate_left
 ·intro wq hSw
  obtain ⟨m0, m1, m2, m3, m4⟩ := Mu.at (Mu.mk 5 3 2 2) hSw.1.2.2
  obtain ⟨q0, q1, q2⟩ := P3.at (5, 0, 1) hSw.1.1
  obtain ⟨r0, r1, r2⟩ := P3.at (8, 0, 1) hSw.1.2.1
  have a0 := hSw.2.1.1.at0
  have a1 := hSw.2.1.1.at1
  have b0 := hSw.2.1.2.at0
  have b1 := hSw.2.1.2.at1
  dsimp only at m0 m1 m2 m3 m4 q0 q1 q2 r0 r1 r2
  go_simp; try with_reducible rfl
 try simp only [tdy]
 refine tC 23 (v := Value.bool true) (A9.stays w g3 g4 g5) (fun _ h => h) (fun wq hSw => ex9a wq) ?_
 try simp only [tdy]
 refine tF 24 (A9.stays w g3 g4 g5) (fun _ h => h) ?_
 try simp only [tdy]
 refine tF 25 (A9.stays w g3 g4 g5) (fun _ h => h) ?_
 try simp only [tdy]
 refine tE 26 (v := ?_) (A9.stays w g3 g4 g5) (fun _ h => h) rfl (by kernel_rfl) (by rfl) ?_ ?_
 rotate_left
 ·intro wq hSw
  obtain ⟨m0, m1, m2, m3, m4⟩ := Mu.at (Mu.mk 5 3 2 2) hSw.1.2.2
  obtain ⟨q0, q1, q2⟩ := P3.at (5, 0, 1) hSw.1.1
  obtain ⟨r0, r1, r2⟩ := P3.at (8, 0, 1) hSw.1.2.1
  have a0 := hSw.2.1.1.at0
  have a1 := hSw.2.1.1.at1
  have b0 := hSw.2.1.2.at0
  have b1 := hSw.2.1.2.at1
  dsimp only at m0 m1 m2 m3 m4 q0 q1 q2 r0 r1 r2
  go_simp; try with_reducible rfl
 try simp only [tdy]
 refine tE 27 (v := ?_) (A9.stays w g3 g4 g5) (fun _ h => h) rfl (by kernel_rfl) (by rfl) ?_ ?_
 rotate_left
 ·intro wq hSw
  obtain ⟨m0, m1, m2, m3, m4⟩ := Mu.at (Mu.mk 5 3 2 2) hSw.1.2.2
  obtain ⟨q0, q1, q2⟩ := P3.at (5, 0, 1) hSw.1.1
  obtain ⟨r0, r1, r2⟩ := P3.at (8, 0, 1) hSw.1.2.1
  have a0 := hSw.2.1.1.at0
  have a1 := hSw.2.1.1.at1
  have b0 := hSw.2.1.2.at0
  have b1 := hSw.2.1.2.at1
  dsimp only at m0 m1 m2 m3 m4 q0 q1 q2 r0 r1 r2
  go_simp; try with_reducible rfl
 try simp only [tdy]
 refine tC 28 (v := Value.bool false) (A9.stays w g3 g4 g5) (fun _ h => h) (fun wq hSw => ex9b wq) ?_
 try simp only [tdy]
 refine tF 29 (A9.stays w g3 g4 g5) (fun _ h => h) ?_
 try simp only [tdy]
 refine tF 30 (A9.stays w g3 g4 g5) (fun _ h => h) ?_
 try simp only [tdy]
 refine tF 31 (A9.stays w g3 g4 g5) (fun _ h => h) ?_
 try simp only [tdy]
 refine wpAnyE_done (by kernel_rfl) (fun wz hSz => ?_) _
 have HF := hid hSz.2.2
 clear hSz HA5
 go_wp2_with fail
 go_ret
 exact ⟨rfl, HF.out⟩
theorem Law9.Awake (w : World) (htab : Tab10 w.heap.size w) : Calls Tryz.prog 264 #[] w (Ans (.bool true) w) := by
 go_enter Tryz.func264, Tryz.ntmps264
 go_wp2_with (go_at_call 266; refine (Law9.awake _ htab).mono ?_; rintro e w' ⟨rfl, hb⟩)
 go_ret
 exact ⟨rfl, hb⟩
end


section
open Go.RowKit
theorem RdP.new1 (w : World) (t : TypeId) (a b c : Int) : RdP (w.alloc (.cells #[.int .u64 a, .int .u32 b, .int .u32 c] t)) (some ⟨w.heap.size, 0, none⟩) 1 [(a, b, c)] :=
 ⟨rfl, fun _ _ => ⟨_, 0, rfl, by simp, fun j hj => by
  rcases j with _ | j
  ·simp [go_sem]
  ·omega⟩⟩
theorem ex10p : PIn (10, 0, 1) := ⟨⟨by decide, by decide⟩, ⟨by decide, by decide⟩, by decide, by decide⟩
theorem ex10 : Mu.of 0 [(10, 0, 1)] = (true, (Mu.mk 0 10 1 1)) := by
 rw [of_yes 0 (l := [(10, 0, 1)]) (fun p hp => by
  simp at hp
  subst hp
  exact ⟨by decide, ex10p⟩) (by decide)]
 rfl
theorem ex10in : (Mu.mk 0 10 1 1).In := by unfold Mu.In WR; refine ⟨⟨?_, ?_⟩, ⟨?_, ?_⟩, ⟨?_, ?_⟩, ?_, ?_⟩ <;> decide
theorem ex10pl : (Mu.mk 0 10 1 1).place 0 1 2 = (true, (6, 0, 1)) := by first | rfl | decide +kernel
set_option maxRecDepth 100000 in
set_option maxHeartbeats 4000000 in
theorem Law10.awake (w : World) (htab : Tab10 w.heap.size w) : Calls Tryz.prog 262 #[] w (Ans (.bool true) w) := by
 have HT := hid htab
 have HB0 := hid ((Below.refl w.heap.size w).alloc (Nat.le_refl _) (.cells #[.int .u64 10, .int .u32 0, .int .u32 1] 27))
 have HR := hid (RdP.new1 w 27 10 0 1)
 clear htab
 go_enter Tryz.func262, Tryz.ntmps262
 go_wp2_with fail
 generalize w.alloc (.cells #[.int .u64 10, .int .u32 0, .int .u32 1] 27) = W0 at HB0 HR ⊢
 refine (Mean.of 0 ⟨by decide, by decide⟩ (some ⟨w.heap.size, 0, none⟩) 1 1 [(10, 0, 1)] _ HR.out (fun p hp => by
  simp at hp
  subst hp
  exact ex10p) (by decide)).mono ?_
 rw [ex10]
 rintro e w1 ⟨rfl, hb⟩
 have HB1 := hid (below_on (below_on HB0.out hb) ((Below.refl w1.heap.size w1).alloc (Nat.le_refl _) (.cells #[.int .u64 0, .int .i64 (hiW 10), .int .u64 (loW 10), .int .u64 1, .int .i64 1] 127)))
 have HC1 : Hid (Cs (w1.alloc (.cells #[.int .u64 0, .int .i64 (hiW 10), .int .u64 (loW 10), .int .u64 1, .int .i64 1] 127)) w1.heap.size (Mu.mk 0 10 1 1).cells) := hid (Cs.alloc_new6 w1 _ (Mu.mk 0 10 1 1).cells)
 clear hb HB0 HR
 go_wp2_with fail
 generalize w1.alloc (.cells #[.int .u64 0, .int .i64 (hiW 10), .int .u64 (loW 10), .int .u64 1, .int .i64 1] 127) = W1 at HB1 HC1 ⊢
 generalize w1.heap.size = g at HC1 ⊢
 refine (Place.place (Mu.mk 0 10 1 1) 0 1 2 ex10in (by decide) (by decide) (by decide) (by decide) _).mono ?_
 rw [ex10pl]
 rintro e w2 ⟨rfl, hb⟩
 have HB2 := hid (below_on (below_on HB1.out hb) ((Below.refl w2.heap.size w2).alloc (Nat.le_refl _) (.cells #[.int .u64 6, .int .u32 0, .int .u32 1] 27)))
 have HC2 : Hid (Cs (w2.alloc (.cells #[.int .u64 6, .int .u32 0, .int .u32 1] 27)) w2.heap.size [.int .u64 6, .int .u32 0, .int .u32 1]) := hid (Cs.alloc_new6 w2 _ [.int .u64 6, .int .u32 0, .int .u32 1])
 clear hb HB1 HC1
 go_wp2_with fail
 generalize w2.alloc (.cells #[.int .u64 6, .int .u32 0, .int .u32 1] 27) = W2 at HB2 HC2 ⊢
 generalize w2.heap.size = g2 at HC2 ⊢
 refine (Law9.Awake _ (HT.out.at2 HB2.out)).mono ?_
 rintro e w3 ⟨rfl, hb⟩
 have HB3 := hid (below_on HB2.out hb)
 have HC3 := hid (HC2.out.below hb)
 obtain ⟨m0, m1, m2⟩ := HC3.out.three
 clear hb HB2 HC2
 go_wp2_with fail
 go_ret
 exact ⟨rfl, HB3.out⟩
end


section
open Go.RowKit
theorem Law10.Awake (w : World) (htab : Tab10 w.heap.size w) : Calls Tryz.prog 260 #[] w (Ans (.bool true) w) := by
 go_enter Tryz.func260, Tryz.ntmps260
 go_wp2_with (go_at_call 262; refine (Law10.awake _ htab).mono ?_; rintro e w' ⟨rfl, hb⟩)
 go_ret
 exact ⟨rfl, hb⟩
theorem ex11 : (Mu.mk 5 3 2 2).weigh (8, 0, 1) 2 = (true, (7, 0, 2)) := by first | rfl | decide +kernel
section
attribute [local go_sem] Pos.eqB
set_option maxRecDepth 100000 in
set_option maxHeartbeats 4000000 in
theorem Law11.awake (w : World) (htab : Tab10 w.heap.size w) : Calls Tryz.prog 253 #[] w (Ans (.bool true) w) := by
 have HT := hid htab
 have HA0 : Hid ((Cs ((w.alloc (.cells #[.int .u64 8, .int .u32 0, .int .u32 1] 27)).alloc (.cells #[.int .u64 5, .int .u32 0, .int .u32 1, .int .u64 8, .int .u32 0, .int .u32 1] 27)) w.heap.size (pcells (8, 0, 1)) ∧ RdP ((w.alloc (.cells #[.int .u64 8, .int .u32 0, .int .u32 1] 27)).alloc (.cells #[.int .u64 5, .int .u32 0, .int .u32 1, .int .u64 8, .int .u32 0, .int .u32 1] 27)) (some ⟨w.heap.size + 1, 0, none⟩) 2 [(5, 0, 1), (8, 0, 1)]) ∧ Below w.heap.size w ((w.alloc (.cells #[.int .u64 8, .int .u32 0, .int .u32 1] 27)).alloc (.cells #[.int .u64 5, .int .u32 0, .int .u32 1, .int .u64 8, .int .u32 0, .int .u32 1] 27))) := hid (by
  have h2 := RdP.new2 (w.alloc (.cells #[.int .u64 8, .int .u32 0, .int .u32 1] 27)) 27 5 0 1 8 0 1
  simp only [World.size_alloc] at h2
  exact ⟨⟨(Cs.alloc_new6 w 27 (pcells (8, 0, 1))).alloc _, h2⟩, ((Below.refl w.heap.size w).alloc (Nat.le_refl _) _).alloc (by simp) _⟩)
 clear htab
 go_enter Tryz.func253, Tryz.ntmps253
 go_wp2_with fail
 generalize ((w.alloc (.cells #[.int .u64 8, .int .u32 0, .int .u32 1] 27)).alloc (.cells #[.int .u64 5, .int .u32 0, .int .u32 1, .int .u64 8, .int .u32 0, .int .u32 1] 27)) = W0 at HA0 ⊢
 refine (Mean.of 5 ⟨by decide, by decide⟩ (some ⟨w.heap.size + 1, 0, none⟩) 2 2 [(5, 0, 1), (8, 0, 1)] _ HA0.out.1.2 (fun p hp => by
  simp at hp
  rcases hp with rfl | rfl
  ·exact ⟨⟨by decide, by decide⟩, ⟨by decide, by decide⟩, by decide, by decide⟩
  ·exact ⟨⟨by decide, by decide⟩, ⟨by decide, by decide⟩, by decide, by decide⟩) (by decide)).mono ?_
 rw [ex8]
 rintro e w1 ⟨rfl, hb⟩
 have ha := (Below.refl w1.heap.size w1).alloc (Nat.le_refl _) (.cells #[.int .u64 5, .int .i64 (hiW 3), .int .u64 (loW 3), .int .u64 2, .int .i64 2] 127)
 have HB1 := hid (below_on (below_on HA0.out.2 hb) ha)
 have HC1 := hid ((HA0.out.1.1.below hb).below ha)
 obtain ⟨q0, q1, q2⟩ := P3.at _ HC1.out
 clear hb ha HA0
 go_wp2_with fail
 clear q0 q1 q2
 refine (Weigh.weigh ⟨5, 3, 2, 2⟩ (8, 0, 1) 2 ex9in ex9q (by decide) (by decide) _).mono ?_
 rw [ex11]
 rintro e w2 ⟨rfl, hb⟩
 have HB2 := hid (below_on (below_on HB1.out hb) ((Below.refl w2.heap.size w2).alloc (Nat.le_refl _) (.cells #[.int .u64 7, .int .u32 0, .int .u32 2] 27)))
 have HC2 : Hid (Cs (w2.alloc (.cells #[.int .u64 7, .int .u32 0, .int .u32 2] 27)) w2.heap.size [.int .u64 7, .int .u32 0, .int .u32 2]) := hid (Cs.alloc_new6 w2 _ [.int .u64 7, .int .u32 0, .int .u32 2])
 clear hb HB1 HC1
 go_wp2_with fail
 generalize w2.alloc (.cells #[.int .u64 7, .int .u32 0, .int .u32 2] 27) = W2 at HB2 HC2 ⊢
 generalize w2.heap.size = g2 at HC2 ⊢
 refine (Law10.Awake _ (HT.out.at2 HB2.out)).mono ?_
 rintro e w3 ⟨rfl, hb⟩
 have HB3 := hid (below_on HB2.out hb)
 have HC3 := hid (HC2.out.below hb)
 obtain ⟨m0, m1, m2⟩ := HC3.out.three
 clear hb HB2 HC2
 go_wp2_with fail
 go_ret
 exact ⟨rfl, HB3.out⟩
end
theorem Law11.Awake (w : World) (htab : Tab10 w.heap.size w) : Calls Tryz.prog 240 #[] w (Ans (.bool true) w) := by
 go_enter Tryz.func240, Tryz.ntmps240
 go_wp2_with (go_at_call 253; refine (Law11.awake _ htab).mono ?_; rintro e w' ⟨rfl, hb⟩)
 go_ret
 exact ⟨rfl, hb⟩
end


section
open Go.RowKit
theorem ex12w : winI 1 1 = 3145728 ∧ winOk 1 1 = true := by constructor <;> decide
theorem ex12c : carI [-5, 0] = 9 := by decide
section
attribute [local go_sem] Wide.eqB
set_option maxRecDepth 100000 in
set_option maxHeartbeats 4000000 in
theorem Law12.awake (w : World) (htab : Tab10 w.heap.size w) : Calls Tryz.prog 206 #[] w (Ans (.bool true) w) := by
 have HT := hid htab
 clear htab
 go_enter Tryz.func206, Tryz.ntmps206
 go_wp2_with fail
 refine (Clamp.window 1 1 ⟨by decide, by decide⟩ ⟨by decide, by decide⟩ _).mono ?_
 rw [ex12w.1, ex12w.2]
 rintro e w1 ⟨rfl, hb⟩
 have HB1 := hid hb
 clear hb
 go_wp2_with fail
 refine (Law11.Awake _ (HT.out.at2 HB1.out)).mono ?_
 rintro e w2 ⟨rfl, hb⟩
 have HB2 := hid (below_on HB1.out hb)
 clear hb HB1
 go_wp2_with fail
 refine (Wide.ofF (x := -5) (by decide) (by decide) _).mono ?_
 rintro e w3 ⟨rfl, hb⟩
 have HB3 := hid (below_on HB2.out hb)
 clear hb HB2
 go_wp2_with fail
 refine (Wide.ofF (x := 0) (by decide) (by decide) _).mono ?_
 rintro e w4 ⟨rfl, hb⟩
 have HB4 := hid (below_on HB3.out hb)
 have HR := hid (RdW.new2 w4 45 (-5) 0)
 have HB5 := hid (HB4.out.alloc HB4.out.size (.cells #[.int .i64 (hiW (-5)), .int .u64 (loW (-5)), .int .i64 (hiW 0), .int .u64 (loW 0)] 45))
 clear hb HB3 HB4
 go_wp2_with fail
 refine (Clamp.carried (some ⟨w4.heap.size, 0, none⟩) 2 2 [-5, 0] _ HR.out (fun x hx => by
  simp at hx
  rcases hx with rfl | rfl <;> (unfold WR; omega)) (by decide)).mono ?_
 rw [ex12c]
 rintro e w5 ⟨rfl, hb⟩
 have HB6 := hid (below_on HB5.out hb)
 clear hb HB5 HR
 go_wp2_with fail
 refine (Wide.ofF (x := 9) (by decide) (by decide) _).mono ?_
 rintro e w6 ⟨rfl, hb⟩
 have HB7 := hid (below_on HB6.out hb)
 clear hb HB6
 go_wp2_with fail
 go_ret
 exact ⟨rfl, HB7.out⟩
end
end

end Go.Proofs.YtjndmmcjobbcbaaGreatDoor
