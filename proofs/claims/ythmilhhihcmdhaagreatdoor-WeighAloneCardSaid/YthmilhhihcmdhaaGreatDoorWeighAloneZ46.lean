/- Texts of WeighAlone's proof, together. -/
import Derived.Test.YthmilhhihcmdhaaGreatDoorMuQ
import Derived.Test.YthmilhhihcmdhaaGreatDoorWgB
namespace Go.Proofs.YthmilhhihcmdhaaGreatDoor
/- The chapter's example of layer 11, as the laws ask it. -/
section
open Go.RowKit
theorem Law10.Awake (w : World) (htab : Tab10 w.heap.size w) : Calls Tryz.prog 89 #[] w (Ans (.bool true) w) := by
  go_enter Tryz.func89, Tryz.ntmps89
  go_wp2_with (go_at_call 41; refine (Law10.awake _ htab).mono ?_; rintro e w' ⟨rfl, hb⟩)
  go_ret
  exact ⟨rfl, hb⟩
theorem ex11 : (Mu.mk 5 3 2 2).weigh (8, 0, 1) 2 = (true, (7, 0, 2)) := by first | rfl | decide +kernel
section
attribute [local go_sem] Pos.eqB
set_option maxRecDepth 100000 in
set_option maxHeartbeats 4000000 in
theorem Law11.awake (w : World) (htab : Tab10 w.heap.size w) : Calls Tryz.prog 44 #[] w (Ans (.bool true) w) := by
  have HT := hid htab
  have HA0 : Hid ((Cs ((w.alloc (.cells #[.int .u64 8, .int .u32 0, .int .u32 1] 29)).alloc (.cells #[.int .u64 5, .int .u32 0, .int .u32 1, .int .u64 8, .int .u32 0, .int .u32 1] 29)) w.heap.size (pcells (8, 0, 1)) ∧ RdP ((w.alloc (.cells #[.int .u64 8, .int .u32 0, .int .u32 1] 29)).alloc (.cells #[.int .u64 5, .int .u32 0, .int .u32 1, .int .u64 8, .int .u32 0, .int .u32 1] 29)) (some ⟨w.heap.size + 1, 0, none⟩) 2 [(5, 0, 1), (8, 0, 1)]) ∧ Below w.heap.size w ((w.alloc (.cells #[.int .u64 8, .int .u32 0, .int .u32 1] 29)).alloc (.cells #[.int .u64 5, .int .u32 0, .int .u32 1, .int .u64 8, .int .u32 0, .int .u32 1] 29))) := hid (by
    have h2 := RdP.new2 (w.alloc (.cells #[.int .u64 8, .int .u32 0, .int .u32 1] 29)) 29 5 0 1 8 0 1
    simp only [World.size_alloc] at h2
    exact ⟨⟨(Cs.alloc_new6 w 29 (pcells (8, 0, 1))).alloc _, h2⟩, ((Below.refl w.heap.size w).alloc (Nat.le_refl _) _).alloc (by simp) _⟩)
  clear htab
  go_enter Tryz.func44, Tryz.ntmps44
  go_wp2_with fail
  generalize ((w.alloc (.cells #[.int .u64 8, .int .u32 0, .int .u32 1] 29)).alloc (.cells #[.int .u64 5, .int .u32 0, .int .u32 1, .int .u64 8, .int .u32 0, .int .u32 1] 29)) = W0 at HA0 ⊢
  refine (Mean.of 5 ⟨by decide, by decide⟩ (some ⟨w.heap.size + 1, 0, none⟩) 2 2 [(5, 0, 1), (8, 0, 1)] _ HA0.out.1.2 (fun p hp => by
    simp at hp
    rcases hp with rfl | rfl
    · exact ⟨⟨by decide, by decide⟩, ⟨by decide, by decide⟩, by decide, by decide⟩
    · exact ⟨⟨by decide, by decide⟩, ⟨by decide, by decide⟩, by decide, by decide⟩) (by decide)).mono ?_
  rw [ex8]
  rintro e w1 ⟨rfl, hb⟩
  have ha := (Below.refl w1.heap.size w1).alloc (Nat.le_refl _) (.cells #[.int .u64 5, .int .i64 (hiW 3), .int .u64 (loW 3), .int .u64 2, .int .i64 2] 36)
  have HB1 := hid (below_on (below_on HA0.out.2 hb) ha)
  have HC1 := hid ((HA0.out.1.1.below hb).below ha)
  obtain ⟨q0, q1, q2⟩ := P3.at _ HC1.out
  clear hb ha HA0
  go_wp2_with fail
  clear q0 q1 q2
  refine (Weigh.weigh ⟨5, 3, 2, 2⟩ (8, 0, 1) 2 ex9in ex9q (by decide) (by decide) _).mono ?_
  rw [ex11]
  rintro e w2 ⟨rfl, hb⟩
  have HB2 := hid (below_on (below_on HB1.out hb) ((Below.refl w2.heap.size w2).alloc (Nat.le_refl _) (.cells #[.int .u64 7, .int .u32 0, .int .u32 2] 29)))
  have HC2 : Hid (Cs (w2.alloc (.cells #[.int .u64 7, .int .u32 0, .int .u32 2] 29)) w2.heap.size [.int .u64 7, .int .u32 0, .int .u32 2]) := hid (Cs.alloc_new6 w2 _ [.int .u64 7, .int .u32 0, .int .u32 2])
  clear hb HB1 HC1
  go_wp2_with fail
  generalize w2.alloc (.cells #[.int .u64 7, .int .u32 0, .int .u32 2] 29) = W2 at HB2 HC2 ⊢
  generalize w2.heap.size = g2 at HC2 ⊢
  refine (Law10.Awake _ (HT.out.at2 HB2.out)).mono ?_
  rintro e w3 ⟨rfl, hb⟩
  have HB3 := hid (below_on HB2.out hb)
  have HC3 := hid (HC2.out.below hb)
  obtain ⟨m0, m1, m2⟩ := HC3.out.three
  clear hb HB2 HC2
  go_wp2_with fail
  go_ret
  exact ⟨rfl, HB3.out⟩
end
theorem Law11.Awake (w : World) (htab : Tab10 w.heap.size w) : Calls Tryz.prog 94 #[] w (Ans (.bool true) w) := by
  go_enter Tryz.func94, Tryz.ntmps94
  go_wp2_with (go_at_call 44; refine (Law11.awake _ htab).mono ?_; rintro e w' ⟨rfl, hb⟩)
  go_ret
  exact ⟨rfl, hb⟩
end

/- WeighAlone: the walk. -/
section
open Go.RowKit
set_option maxRecDepth 100000 in
set_option maxHeartbeats 1000000 in
theorem Walone.away1 (p : P3) (v : Int) (w : World) (hr : pR p = false) (htab : Tab10 w.heap.size w) : Calls Tryz.prog 9 #[pv p, .int .u32 v] w (Ans (.bool true) w) := by
  have HT := hid htab
  have HB0 := hid ((Below.refl w.heap.size w).alloc (Nat.le_refl _) (.cells #[.int .u64 p.1, .int .u32 p.2.1, .int .u32 p.2.2] 29))
  have HC0 : Hid (Cs (w.alloc (.cells #[.int .u64 p.1, .int .u32 p.2.1, .int .u32 p.2.2] 29)) w.heap.size (pcells p)) := hid (Cs.alloc_new6 w 29 (pcells p))
  have HR := hid hr
  clear htab hr
  unfold pv
  go_enter Tryz.func9, Tryz.ntmps9
  go_wp2_with fail
  refine (Law11.awake _ (HT.out.at2 HB0.out)).mono ?_
  rintro e w1 ⟨rfl, hb⟩
  have HB1 := hid (below_on HB0.out hb)
  obtain ⟨q0, q1, q2⟩ := P3.at p (HC0.out.below hb)
  clear hb
  go_wp2_with fail
  refine (Pos.rightF p _).mono ?_
  rw [HR.out]
  rintro e w2 ⟨rfl, hb⟩
  have HB2 := hid (below_on HB1.out hb)
  clear hb q0 q1 q2
  go_wp2_with fail
  go_ret
  exact ⟨rfl, HB2.out⟩
set_option maxRecDepth 100000 in
set_option maxHeartbeats 1000000 in
theorem Walone.away2 (p : P3) (v : Int) (w : World) (hr : pR p = true) (hv : v < 1) (htab : Tab10 w.heap.size w) : Calls Tryz.prog 9 #[pv p, .int .u32 v] w (Ans (.bool true) w) := by
  have HT := hid htab
  have HB0 := hid ((Below.refl w.heap.size w).alloc (Nat.le_refl _) (.cells #[.int .u64 p.1, .int .u32 p.2.1, .int .u32 p.2.2] 29))
  have HC0 : Hid (Cs (w.alloc (.cells #[.int .u64 p.1, .int .u32 p.2.1, .int .u32 p.2.2] 29)) w.heap.size (pcells p)) := hid (Cs.alloc_new6 w 29 (pcells p))
  have HR := hid hr
  clear htab hr
  unfold pv
  go_enter Tryz.func9, Tryz.ntmps9
  go_wp2_with fail
  refine (Law11.awake _ (HT.out.at2 HB0.out)).mono ?_
  rintro e w1 ⟨rfl, hb⟩
  have HB1 := hid (below_on HB0.out hb)
  obtain ⟨q0, q1, q2⟩ := P3.at p (HC0.out.below hb)
  clear hb
  go_wp2_with fail
  refine (Pos.rightF p _).mono ?_
  rw [HR.out]
  rintro e w2 ⟨rfl, hb⟩
  have HB2 := hid (below_on HB1.out hb)
  clear hb q0 q1 q2
  go_wp2_with fail
  go_ret
  exact ⟨rfl, HB2.out⟩
set_option maxRecDepth 100000 in
set_option maxHeartbeats 1000000 in
theorem Walone.away3 (p : P3) (v : Int) (w : World) (hr : pR p = true) (hv : ¬ v < 1) (hv2 : 1048576 < v) (htab : Tab10 w.heap.size w) : Calls Tryz.prog 9 #[pv p, .int .u32 v] w (Ans (.bool true) w) := by
  have HT := hid htab
  have HB0 := hid ((Below.refl w.heap.size w).alloc (Nat.le_refl _) (.cells #[.int .u64 p.1, .int .u32 p.2.1, .int .u32 p.2.2] 29))
  have HC0 : Hid (Cs (w.alloc (.cells #[.int .u64 p.1, .int .u32 p.2.1, .int .u32 p.2.2] 29)) w.heap.size (pcells p)) := hid (Cs.alloc_new6 w 29 (pcells p))
  have HR := hid hr
  clear htab hr
  unfold pv
  go_enter Tryz.func9, Tryz.ntmps9
  go_wp2_with fail
  refine (Law11.awake _ (HT.out.at2 HB0.out)).mono ?_
  rintro e w1 ⟨rfl, hb⟩
  have HB1 := hid (below_on HB0.out hb)
  obtain ⟨q0, q1, q2⟩ := P3.at p (HC0.out.below hb)
  clear hb
  go_wp2_with fail
  refine (Pos.rightF p _).mono ?_
  rw [HR.out]
  rintro e w2 ⟨rfl, hb⟩
  have HB2 := hid (below_on HB1.out hb)
  clear hb q0 q1 q2
  go_wp2_with fail
  go_ret
  exact ⟨rfl, HB2.out⟩
set_option maxRecDepth 100000 in
set_option maxHeartbeats 16000000 in
theorem Walone.core (p : P3) (v : Int) (w : World) (hp : pR p = true ∧ PIn p) (v0 : 1 ≤ v) (v1 : v ≤ 1048576) (htab : Tab10 w.heap.size w) : Calls Tryz.prog 9 #[pv p, .int .u32 v] w (Ans (.bool true) w) := by
  have HT := hid htab
  have HP := hid hp
  have HV := hid (And.intro v0 v1)
  have HWG := hid (alone_wg hp)
  have HWE := hid (HWG.out.1.weigh (by decide) (by decide) v0 v1)
  have HSW := hid (HWG.out.1.swap (by decide) (by decide) v0 v1)
  have HAS := hid (alone_sign hp v0 v1)
  have hone : ∀ q ∈ [p], PIn q := fun q hq => by simp at hq; subst hq; exact hp.2
  have HONE := hid hone
  have E1 : Hid (Mu.of p.1 [p] = (true, Mu.sums p.1 [p])) := hid (of_yes p.1 HWG.out.1.ok (by simp))
  have HI1 := hid (sums_in hp.2.1 HWG.out.1.ok (by simp))
  have HI2 := hid (sums_in hp.2.1 (l := [wgP p.1 [p] 0 v]) (fun q hq => by simp at hq; subst hq; exact HWE.out.2.1) (by simp))
  rw [show [p].getD 0 (0, 0, 0) = p from rfl] at HWE HSW
  rw [show [p].set 0 (wgP p.1 [p] 0 v) = [wgP p.1 [p] 0 v] from rfl] at HSW
  obtain ⟨P, hP⟩ : ∃ P, wgP p.1 [p] 0 v = P := ⟨_, rfl⟩
  rw [hP] at HWE HSW HAS HI2
  obtain ⟨M, hM⟩ : ∃ M, Mu.sums p.1 [p] = M := ⟨_, rfl⟩
  rw [hM] at HWE HSW E1 HI1
  obtain ⟨N, hN⟩ : ∃ N, Mu.sums p.1 [P] = N := ⟨_, rfl⟩
  rw [hN] at HSW HAS HI2
  have HB0 := hid ((Below.refl w.heap.size w).alloc (Nat.le_refl _) (.cells #[.int .u64 p.1, .int .u32 p.2.1, .int .u32 p.2.2] 29))
  have HC0 : Hid (Cs (w.alloc (.cells #[.int .u64 p.1, .int .u32 p.2.1, .int .u32 p.2.2] 29)) w.heap.size (pcells p)) := hid (Cs.alloc_new6 w 29 (pcells p))
  have h1 : ¬ v < 1 := by omega
  have h2 : ¬ 1048576 < v := by omega
  have HSG : Hid (N.sign P = (true, 0)) := hid (by unfold Mu.sign; rw [HAS.out.1]; rfl)
  have HPT := hid HAS.out.2
  clear htab hp v0 v1 hone hP hM hN HWG HAS
  unfold pv
  go_enter Tryz.func9, Tryz.ntmps9
  go_wp2_with fail
  refine (Law11.awake _ (HT.out.at2 HB0.out)).mono ?_
  rintro e w1 ⟨rfl, hb⟩
  have HG1 := hid (And.intro (HC0.out.below hb) (below_on HB0.out hb))
  clear hb HT HC0 HB0
  obtain ⟨q0, q1, q2⟩ := P3.at p HG1.out.1
  go_wp2_with fail
  refine (Pos.rightF p _).mono ?_
  rw [HP.out.1]
  rintro e w2 ⟨rfl, hb⟩
  have HG2 := hid (And.intro (HG1.out.1.below hb) (below_on HG1.out.2 hb))
  clear hb HG1 q0 q1 q2
  obtain ⟨q0, q1, q2⟩ := P3.at p HG2.out.1
  go_wp2_with fail
  clear q0 q1 q2 h1 h2
  have ha := (Below.refl w2.heap.size w2).alloc (Nat.le_refl _) (.cells #[.int .u64 p.1, .int .u32 p.2.1, .int .u32 p.2.2] 29)
  have HR := hid (RdP.new1 w2 29 p.1 p.2.1 p.2.2)
  have HG3 := hid (And.intro (HG2.out.1.below ha) (below_on HG2.out.2 ha))
  clear ha HG2
  refine (Mean.of p.1 HP.out.2.1 (some ⟨w2.heap.size, 0, none⟩) 1 1 [p] _ HR.out HONE.out (by decide)).mono ?_
  rw [E1.out]
  rintro e w3 ⟨rfl, hb⟩
  have ha := (Below.refl w3.heap.size w3).alloc (Nat.le_refl _) (.cells #[.int .u64 M.b, .int .i64 (hiW M.a), .int .u64 (loW M.a), .int .u64 M.w, .int .i64 M.n] 36)
  have HG4 : Hid ((Cs (w3.alloc (.cells #[.int .u64 M.b, .int .i64 (hiW M.a), .int .u64 (loW M.a), .int .u64 M.w, .int .i64 M.n] 36)) w3.heap.size M.cells ∧ Cs (w3.alloc (.cells #[.int .u64 M.b, .int .i64 (hiW M.a), .int .u64 (loW M.a), .int .u64 M.w, .int .i64 M.n] 36)) w.heap.size (pcells p)) ∧ Below w.heap.size w (w3.alloc (.cells #[.int .u64 M.b, .int .i64 (hiW M.a), .int .u64 (loW M.a), .int .u64 M.w, .int .i64 M.n] 36))) := hid ⟨⟨Cs.alloc_new6 w3 36 M.cells, (HG3.out.1.below hb).below ha⟩, below_on (below_on HG3.out.2 hb) ha⟩
  clear hb ha HG3 HR
  obtain ⟨m0, m1, m2, m3, m4⟩ := Mu.at M HG4.out.1.1
  obtain ⟨q0, q1, q2⟩ := P3.at p HG4.out.1.2
  go_wp2_with fail
  clear m0 m1 m2 m3 m4 q0 q1 q2
  generalize w3.alloc (.cells #[.int .u64 M.b, .int .i64 (hiW M.a), .int .u64 (loW M.a), .int .u64 M.w, .int .i64 M.n] 36) = W4 at HG4 ⊢
  generalize w3.heap.size = gm at HG4 ⊢
  refine (Weigh.weigh M p v HI1.out HP.out.2 (by have := HV.out; omega) (by have := HV.out; omega) _).mono ?_
  rw [HWE.out.1]
  rintro e w5 ⟨rfl, hb⟩
  have ha := (Below.refl w5.heap.size w5).alloc (Nat.le_refl _) (.cells #[.int .u64 P.1, .int .u32 P.2.1, .int .u32 P.2.2] 29)
  have HG5 : Hid ((Cs (w5.alloc (.cells #[.int .u64 P.1, .int .u32 P.2.1, .int .u32 P.2.2] 29)) gm M.cells ∧ Cs (w5.alloc (.cells #[.int .u64 P.1, .int .u32 P.2.1, .int .u32 P.2.2] 29)) w.heap.size (pcells p) ∧ Cs (w5.alloc (.cells #[.int .u64 P.1, .int .u32 P.2.1, .int .u32 P.2.2] 29)) w5.heap.size (pcells P)) ∧ Below w.heap.size w (w5.alloc (.cells #[.int .u64 P.1, .int .u32 P.2.1, .int .u32 P.2.2] 29))) := hid ⟨⟨(HG4.out.1.1.below hb).below ha, (HG4.out.1.2.below hb).below ha, Cs.alloc_new6 w5 29 (pcells P)⟩, below_on (below_on HG4.out.2 hb) ha⟩
  clear hb ha HG4
  obtain ⟨m0, m1, m2, m3, m4⟩ := Mu.at M HG5.out.1.1
  obtain ⟨q0, q1, q2⟩ := P3.at p HG5.out.1.2.1
  go_wp2_with fail
  clear m0 m1 m2 m3 m4 q0 q1 q2
  generalize w5.alloc (.cells #[.int .u64 P.1, .int .u32 P.2.1, .int .u32 P.2.2] 29) = W5 at HG5 ⊢
  generalize w5.heap.size = gp at HG5 ⊢
  refine (Weigh.shifted M p P HI1.out HP.out.2 HWE.out.2.1.2 _).mono ?_
  rw [HSW.out]
  rintro e w6 ⟨rfl, hb⟩
  have ha := (Below.refl w6.heap.size w6).alloc (Nat.le_refl _) (.cells #[.int .u64 N.b, .int .i64 (hiW N.a), .int .u64 (loW N.a), .int .u64 N.w, .int .i64 N.n] 36)
  have HG6 : Hid ((Cs (w6.alloc (.cells #[.int .u64 N.b, .int .i64 (hiW N.a), .int .u64 (loW N.a), .int .u64 N.w, .int .i64 N.n] 36)) w6.heap.size N.cells ∧ Cs (w6.alloc (.cells #[.int .u64 N.b, .int .i64 (hiW N.a), .int .u64 (loW N.a), .int .u64 N.w, .int .i64 N.n] 36)) w.heap.size (pcells p) ∧ Cs (w6.alloc (.cells #[.int .u64 N.b, .int .i64 (hiW N.a), .int .u64 (loW N.a), .int .u64 N.w, .int .i64 N.n] 36)) gp (pcells P)) ∧ Below w.heap.size w (w6.alloc (.cells #[.int .u64 N.b, .int .i64 (hiW N.a), .int .u64 (loW N.a), .int .u64 N.w, .int .i64 N.n] 36))) := hid ⟨⟨Cs.alloc_new6 w6 36 N.cells, (HG5.out.1.2.1.below hb).below ha, (HG5.out.1.2.2.below hb).below ha⟩, below_on (below_on HG5.out.2 hb) ha⟩
  clear hb ha HG5
  obtain ⟨m0, m1, m2, m3, m4⟩ := Mu.at N HG6.out.1.1
  obtain ⟨q0, q1, q2⟩ := P3.at P HG6.out.1.2.2
  go_wp2_with fail
  clear m0 m1 m2 m3 m4 q0 q1 q2
  generalize w6.alloc (.cells #[.int .u64 N.b, .int .i64 (hiW N.a), .int .u64 (loW N.a), .int .u64 N.w, .int .i64 N.n] 36) = W6 at HG6 ⊢
  generalize w6.heap.size = gn at HG6 ⊢
  refine (Lag.sign N P HI2.out HWE.out.2.1.2 _).mono ?_
  rw [HSG.out]
  rintro e w7 ⟨rfl, hb⟩
  have HG7 := hid (And.intro (And.intro (HG6.out.1.2.1.below hb) (HG6.out.1.2.2.below hb)) (below_on HG6.out.2 hb))
  clear hb HG6
  obtain ⟨q0, q1, q2⟩ := P3.at p HG7.out.1.1
  obtain ⟨r0, r1, r2⟩ := P3.at P HG7.out.1.2
  rw [HPT.out] at r0
  go_wp2_with fail
  go_ret
  exact ⟨rfl, HG7.out.2⟩
theorem Walone.law (t r y v : Int) (w : World) (h0 : (0 ≤ t ∧ t ≤ 18446744073709551615) ∧ (0 ≤ r ∧ r ≤ 4294967295) ∧ (0 ≤ y ∧ y ≤ 4294967295)) (w1 : (Lit.int .u32 v).wf = true) (htab : Tab10 w.heap.size w) :
    Calls Tryz.prog 9 #[.agg #[.int .u64 t, .int .u32 r, .int .u32 y], .int .u32 v] w fun e w' => e = .returned (.bool true) ∧ Below w.heap.size w w' := by
  cases hr : pR (t, r, y) with
  | false => exact Walone.away1 (t, r, y) v w hr htab
  | true =>
    by_cases h1 : v < 1
    · exact Walone.away2 (t, r, y) v w hr h1 htab
    · by_cases h2 : 1048576 < v
      · exact Walone.away3 (t, r, y) v w hr h1 h2 htab
      · exact Walone.core (t, r, y) v w ⟨hr, h0⟩ (by omega) (by omega) htab
end

end Go.Proofs.YthmilhhihcmdhaaGreatDoor
