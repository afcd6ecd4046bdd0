/- Texts of ItemSoonest's proof, together. -/
import Derived.Test.YtklaghleghncoaaItemSoonestZ10
import Derived.Test.YtklaghleghncoaaItemSoonestZ8
import Derived.Test.YtklaghleghncoaaVturns
import Derived.Test.YtklaghleghncoaaOpen
namespace Go.Proofs.Ytklaghleghncoaa
/- The chapter's example of layer 4, as the laws ask it; how a position is opened. -/
section
open Go.ChangeShapes Go.WideShapes Go.ChangeAt Go.RowKit Go.Joins
theorem Law2.Awake (w : World) : Calls Try.prog 33 #[] w (Ans (.bool true) w) := by
  go_enter Try.func33, Try.ntmps33
  go_wp2_with (go_at_call 45; refine (Law2.awake _).mono ?_; rintro e w' ⟨rfl, hb⟩)
  go_ret
  exact ⟨rfl, hb⟩
theorem Law3.Awake (w : World) : Calls Try.prog 34 #[] w (Ans (.bool true) w) := by
  go_enter Try.func34, Try.ntmps34
  go_wp2_with (go_at_call 46; refine (Law3.awake _).mono ?_; rintro e w' ⟨rfl, hb⟩)
  go_ret
  exact ⟨rfl, hb⟩
set_option maxHeartbeats 2000000 in
theorem Law4.awake (w : World) : Calls Try.prog 23 #[] w (Ans (.bool true) w) := by
  go_enter Try.func23, Try.ntmps23
  go_wp2_with fail
  refine (Pos.move_yes 5 0 3 7 (by decide) (by decide) (by decide) (by decide) (by unfold AtOk; decide) _).mono ?_
  have E1 : adv 5 ((7 + 0) / 3) = 7 := by decide
  have E2 : ((7 + 0) % 3 : Int) = 1 := by decide
  rw [E1, E2]
  clear E1 E2
  rintro e w1 ⟨rfl, hb1⟩
  have H1 := hid (show Cs _ _ [.int .u64 7, .int .u32 1, .int .u32 3] from Cs.new3 w1 30 (.int .u64 7) (.int .u32 1) (.int .u32 3))
  have B1 := hid (hb1.alloc hb1.size (.cells #[.int .u64 7, .int .u32 1, .int .u32 3] 30))
  clear hb1
  go_wp2_with fail
  refine (Law2.Awake _).mono ?_
  rintro e w2 ⟨rfl, hb2⟩
  have B2 := hid (below_on B1.out hb2)
  have H2 := hid (H1.out.below hb2)
  clear hb2
  go_wp2_with fail
  refine (Law3.Awake _).mono ?_
  rintro e w3 ⟨rfl, hb3⟩
  have B3 := hid (below_on B2.out hb3)
  have H3 := H2.out.below hb3
  have x0 := H3.at0
  have x1 := H3.at1
  have x2 := H3.at2
  clear hb3 H3
  go_wp2
  go_ret
  exact ⟨rfl, B3.out⟩
end

/- The law of layer 5: the chapter's example; which items are near. -/
section
open Go.RowKit
set_option maxHeartbeats 1000000 in
theorem Law4.Awake (w : World) : Calls Try.prog 13 #[] w (Ans (.bool true) w) := by
  go_enter Try.func13, Try.ntmps13
  go_wp2_with fail
  refine (Law4.awake _).mono ?_
  rintro e w1 ⟨rfl, hb⟩
  have HB := hid hb
  clear hb
  go_wp2_with fail
  go_ret
  exact ⟨rfl, HB.out⟩
theorem exIn1 : (It.mk 1 0 1 1 2 0 1).In := by unfold It.In; refine ⟨?_, ?_, ?_, ?_, ?_, ?_, ?_⟩ <;> exact ⟨by decide, by decide⟩
theorem exIn2 : (It.mk 1 0 1 2 2 0 1).In := by unfold It.In; refine ⟨?_, ?_, ?_, ?_, ?_, ?_, ?_⟩ <;> exact ⟨by decide, by decide⟩
set_option maxRecDepth 100000 in
set_option maxHeartbeats 2000000 in
theorem Law5.awake (w : World) : Calls Try.prog 4 #[] w (Ans (.bool true) w) := by
  go_enter Try.func4, Try.ntmps4
  go_wp2_with fail
  refine (Law4.Awake _).mono ?_
  rintro e w1 ⟨rfl, hb⟩
  have HT1 : Hid (Cs w1 w.heap.size (It.mk 1 0 1 1 2 0 1).cells ∧ Cs w1 (w.heap.size + 1) (It.mk 1 0 1 2 2 0 1).cells ∧ Below w.heap.size w w1) := hid
    ⟨((Cs.new7 w 32 (It.mk 1 0 1 1 2 0 1)).alloc _).below hb, by have := Cs.new7 (w.alloc (.cells #[.int .u64 1, .int .u32 0, .int .u32 1, .int .i64 1, .int .u64 2, .int .u32 0, .int .u32 1] 32)) 32 (It.mk 1 0 1 2 2 0 1); simp only [World.size_alloc] at this; exact this.below hb, below_on (((Below.refl _ _).alloc (Nat.le_refl _) _).alloc (by simp) _) hb⟩
  obtain ⟨p0, p1, p2, p3, p4, p5, p6⟩ := It.at _ HT1.out.1
  obtain ⟨q0, q1, q2, q3, q4, q5, q6⟩ := It.at _ HT1.out.2.1
  clear hb
  go_wp2_with fail
  refine (Item.due (It.mk 1 0 1 1 2 0 1) (It.mk 1 0 1 2 2 0 1) exIn1 exIn2 _).mono ?_
  rintro e w2 ⟨rfl, hb⟩
  rw [show It.due (It.mk 1 0 1 1 2 0 1) (It.mk 1 0 1 2 2 0 1) = true from rfl]
  have HT2 := hid (And.intro (HT1.out.1.below hb) (And.intro (HT1.out.2.1.below hb) (below_on HT1.out.2.2 hb)))
  clear hb p0 p1 p2 p3 p4 p5 p6 q0 q1 q2 q3 q4 q5 q6
  obtain ⟨p0, p1, p2, p3, p4, p5, p6⟩ := It.at _ HT2.out.1
  obtain ⟨q0, q1, q2, q3, q4, q5, q6⟩ := It.at _ HT2.out.2.1
  go_wp2_with fail
  refine (Item.due (It.mk 1 0 1 2 2 0 1) (It.mk 1 0 1 1 2 0 1) exIn2 exIn1 _).mono ?_
  rintro e w3 ⟨rfl, hb⟩
  rw [show It.due (It.mk 1 0 1 2 2 0 1) (It.mk 1 0 1 1 2 0 1) = false from rfl]
  have HB3 := hid (below_on HT2.out.2.2 hb)
  clear hb
  go_wp2_with fail
  go_ret
  exact ⟨rfl, HB3.out⟩
theorem Cs.alloc_new6 (w : World) (t : TypeId) (vs : List Value) : Cs (w.alloc (.cells vs.toArray t)) w.heap.size vs := fun i v hv => by
  refine ⟨?_, by simp [go_sem]⟩
  rw [World.cell?_alloc_new]
  simpa using hv
end

end Go.Proofs.Ytklaghleghncoaa
