/- The chapter's example of layer 11, as the laws ask it. -/
import Derived.Test.YthmilhhihcmdhaaGreatDoorMuQ
import Derived.Test.YthmilhhihcmdhaaGreatDoorWgB
namespace Go.Proofs.YthmilhhihcmdhaaGreatDoor
open Go.RowKit
theorem Law10.Awake (w : World) (htab : Tab10 w.heap.size w) : Calls Tryz.prog 89 #[] w (Ans (.bool true) w) := by
  go_enter Tryz.func89, Tryz.ntmps89
  go_wp2_with (go_at_call 41; refine (Law10.awake _ htab).mono ?_; rintro e w' ⟨rfl, hb⟩)
  go_ret
  exact ⟨rfl, hb⟩
theorem ex11 : (Mu.mk 5 3 2 2).weigh (8, 0, 1) 2 = (true, (7, 0, 2)) := by first | rfl | decide +kernel
section
attribute [local go_sem] Pos.eqB
set_option maxRecDepth 100000 in
set_option maxHeartbeats 4000000 in
theorem Law11.awake (w : World) (htab : Tab10 w.heap.size w) : Calls Tryz.prog 44 #[] w (Ans (.bool true) w) := by
  have HT := hid htab
  have HA0 : Hid ((Cs ((w.alloc (.cells #[.int .u64 8, .int .u32 0, .int .u32 1] 29)).alloc (.cells #[.int .u64 5, .int .u32 0, .int .u32 1, .int .u64 8, .int .u32 0, .int .u32 1] 29)) w.heap.size (pcells (8, 0, 1)) ∧ RdP ((w.alloc (.cells #[.int .u64 8, .int .u32 0, .int .u32 1] 29)).alloc (.cells #[.int .u64 5, .int .u32 0, .int .u32 1, .int .u64 8, .int .u32 0, .int .u32 1] 29)) (some ⟨w.heap.size + 1, 0, none⟩) 2 [(5, 0, 1), (8, 0, 1)]) ∧ Below w.heap.size w ((w.alloc (.cells #[.int .u64 8, .int .u32 0, .int .u32 1] 29)).alloc (.cells #[.int .u64 5, .int .u32 0, .int .u32 1, .int .u64 8, .int .u32 0, .int .u32 1] 29))) := hid (by
    have h2 := RdP.new2 (w.alloc (.cells #[.int .u64 8, .int .u32 0, .int .u32 1] 29)) 29 5 0 1 8 0 1
    simp only [World.size_alloc] at h2
    exact ⟨⟨(Cs.alloc_new6 w 29 (pcells (8, 0, 1))).alloc _, h2⟩, ((Below.refl w.heap.size w).alloc (Nat.le_refl _) _).alloc (by simp) _⟩)
  clear htab
  go_enter Tryz.func44, Tryz.ntmps44
  go_wp2_with fail
  generalize ((w.alloc (.cells #[.int .u64 8, .int .u32 0, .int .u32 1] 29)).alloc (.cells #[.int .u64 5, .int .u32 0, .int .u32 1, .int .u64 8, .int .u32 0, .int .u32 1] 29)) = W0 at HA0 ⊢
  refine (Mean.of 5 ⟨by decide, by decide⟩ (some ⟨w.heap.size + 1, 0, none⟩) 2 2 [(5, 0, 1), (8, 0, 1)] _ HA0.out.1.2 (fun p hp => by
    simp at hp
    rcases hp with rfl | rfl
    · exact ⟨⟨by decide, by decide⟩, ⟨by decide, by decide⟩, by decide, by decide⟩
    · exact ⟨⟨by decide, by decide⟩, ⟨by decide, by decide⟩, by decide, by decide⟩) (by decide)).mono ?_
  rw [ex8]
  rintro e w1 ⟨rfl, hb⟩
  have ha := (Below.refl w1.heap.size w1).alloc (Nat.le_refl _) (.cells #[.int .u64 5, .int .i64 (hiW 3), .int .u64 (loW 3), .int .u64 2, .int .i64 2] 36)
  have HB1 := hid (below_on (below_on HA0.out.2 hb) ha)
  have HC1 := hid ((HA0.out.1.1.below hb).below ha)
  obtain ⟨q0, q1, q2⟩ := P3.at _ HC1.out
  clear hb ha HA0
  go_wp2_with fail
  clear q0 q1 q2
  refine (Weigh.weigh ⟨5, 3, 2, 2⟩ (8, 0, 1) 2 ex9in ex9q (by decide) (by decide) _).mono ?_
  rw [ex11]
  rintro e w2 ⟨rfl, hb⟩
  have HB2 := hid (below_on (below_on HB1.out hb) ((Below.refl w2.heap.size w2).alloc (Nat.le_refl _) (.cells #[.int .u64 7, .int .u32 0, .int .u32 2] 29)))
  have HC2 : Hid (Cs (w2.alloc (.cells #[.int .u64 7, .int .u32 0, .int .u32 2] 29)) w2.heap.size [.int .u64 7, .int .u32 0, .int .u32 2]) := hid (Cs.alloc_new6 w2 _ [.int .u64 7, .int .u32 0, .int .u32 2])
  clear hb HB1 HC1
  go_wp2_with fail
  generalize w2.alloc (.cells #[.int .u64 7, .int .u32 0, .int .u32 2] 29) = W2 at HB2 HC2 ⊢
  generalize w2.heap.size = g2 at HC2 ⊢
  refine (Law10.Awake _ (HT.out.at2 HB2.out)).mono ?_
  rintro e w3 ⟨rfl, hb⟩
  have HB3 := hid (below_on HB2.out hb)
  have HC3 := hid (HC2.out.below hb)
  obtain ⟨m0, m1, m2⟩ := HC3.out.three
  clear hb HB2 HC2
  go_wp2_with fail
  go_ret
  exact ⟨rfl, HB3.out⟩
end
theorem Law11.Awake (w : World) (htab : Tab10 w.heap.size w) : Calls Tryz.prog 94 #[] w (Ans (.bool true) w) := by
  go_enter Tryz.func94, Tryz.ntmps94
  go_wp2_with (go_at_call 44; refine (Law11.awake _ htab).mono ?_; rintro e w' ⟨rfl, hb⟩)
  go_ret
  exact ⟨rfl, hb⟩
end Go.Proofs.YthmilhhihcmdhaaGreatDoor
