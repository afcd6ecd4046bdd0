/- Texts of LagMoves's proof, together. -/
import Derived.Test.YtoioeginfhkjjaaGreatDoorLagMovesZ11
import Derived.Test.YtoioeginfhkjjaaGreatDoorPosE
namespace Go.Proofs.YtoioeginfhkjjaaGreatDoor
/- The law of layer 5: the chapter's example; which items are near. -/
section
open Go.RowKit

def nearOk (d : Int) : Bool := decide (-1152921504606846976 < d) && decide (d < 1152921504606846976)
def It.near (t : Int) (a : It) : Bool := nearOk (dif a.t t) && nearOk (dif a.u t) && It.right a

set_option maxHeartbeats 1000000 in
theorem Law4.Awake (w : World) : Calls Tryz.prog 146 #[] w (Ans (.bool true) w) := by
  go_enter Tryz.func146, Tryz.ntmps146
  go_wp2_with fail
  refine (Law4.awake _).mono ?_
  rintro e w1 ⟨rfl, hb⟩
  have HB := hid hb
  clear hb
  go_wp2_with fail
  go_ret
  exact ⟨rfl, HB.out⟩

theorem exIn1 : (It.mk 1 0 1 1 2 0 1).In := by unfold It.In; refine ⟨?_, ?_, ?_, ?_, ?_, ?_, ?_⟩ <;> exact ⟨by decide, by decide⟩
theorem exIn2 : (It.mk 1 0 1 2 2 0 1).In := by unfold It.In; refine ⟨?_, ?_, ?_, ?_, ?_, ?_, ?_⟩ <;> exact ⟨by decide, by decide⟩

set_option maxRecDepth 100000 in
set_option maxHeartbeats 2000000 in
theorem Law5.awake (w : World) : Calls Tryz.prog 131 #[] w (Ans (.bool true) w) := by
  go_enter Tryz.func131, Tryz.ntmps131
  go_wp2_with fail
  refine (Law4.Awake _).mono ?_
  rintro e w1 ⟨rfl, hb⟩
  have HT1 : Hid (Cs w1 w.heap.size (It.mk 1 0 1 1 2 0 1).cells ∧ Cs w1 (w.heap.size + 1) (It.mk 1 0 1 2 2 0 1).cells ∧ Below w.heap.size w w1) := hid
    ⟨((Cs.new7 w 140 (It.mk 1 0 1 1 2 0 1)).alloc _).below hb, by have := Cs.new7 (w.alloc (.cells #[.int .u64 1, .int .u32 0, .int .u32 1, .int .i64 1, .int .u64 2, .int .u32 0, .int .u32 1] 140)) 140 (It.mk 1 0 1 2 2 0 1); simp only [World.size_alloc] at this; exact this.below hb, below_on (((Below.refl _ _).alloc (Nat.le_refl _) _).alloc (by simp) _) hb⟩
  obtain ⟨p0, p1, p2, p3, p4, p5, p6⟩ := It.at _ HT1.out.1
  obtain ⟨q0, q1, q2, q3, q4, q5, q6⟩ := It.at _ HT1.out.2.1
  clear hb
  go_wp2_with fail
  refine (Item.due (It.mk 1 0 1 1 2 0 1) (It.mk 1 0 1 2 2 0 1) exIn1 exIn2 _).mono ?_
  rintro e w2 ⟨rfl, hb⟩
  rw [show It.due (It.mk 1 0 1 1 2 0 1) (It.mk 1 0 1 2 2 0 1) = true from rfl]
  have HT2 := hid (And.intro (HT1.out.1.below hb) (And.intro (HT1.out.2.1.below hb) (below_on HT1.out.2.2 hb)))
  clear hb p0 p1 p2 p3 p4 p5 p6 q0 q1 q2 q3 q4 q5 q6
  obtain ⟨p0, p1, p2, p3, p4, p5, p6⟩ := It.at _ HT2.out.1
  obtain ⟨q0, q1, q2, q3, q4, q5, q6⟩ := It.at _ HT2.out.2.1
  go_wp2_with fail
  refine (Item.due (It.mk 1 0 1 2 2 0 1) (It.mk 1 0 1 1 2 0 1) exIn2 exIn1 _).mono ?_
  rintro e w3 ⟨rfl, hb⟩
  rw [show It.due (It.mk 1 0 1 2 2 0 1) (It.mk 1 0 1 1 2 0 1) = false from rfl]
  have HB3 := hid (below_on HT2.out.2.2 hb)
  clear hb
  go_wp2_with fail
  go_ret
  exact ⟨rfl, HB3.out⟩

theorem Cs.alloc_new6 (w : World) (t : TypeId) (vs : List Value) : Cs (w.alloc (.cells vs.toArray t)) w.heap.size vs := fun i v hv => by
  refine ⟨?_, by simp [go_sem]⟩
  rw [World.cell?_alloc_new]
  simpa using hv

/-- The items' variable, and the two positions, while near goes on. -/
def Nr (w : World) (a : It) (w' : World) : Prop := Cs w' w.heap.size a.cells ∧ Cs w' (w.heap.size + 1) [.int .u64 a.t, .int .u32 a.r, .int .u32 a.v, .int .u64 a.u, .int .u32 a.s, .int .u32 a.y] ∧ Below w.heap.size w w'
theorem Nr.below {w w1 w2 : World} {a : It} (h : Nr w a w1) (hb : Below w1.heap.size w1 w2) : Nr w a w2 := ⟨h.1.below hb, h.2.1.below hb, below_on h.2.2 hb⟩
end

/- PosBack: the walk. -/
section
open Go.RowKit

theorem Tri.see9 {w0 w : World} {N M g : Nat} {a b c d e f x y z : Value} (h : Tri w0 N [a, b, c] M [d, e, f] g [x, y, z] w) :
    ((w.cell? ⟨N, 0, none⟩ = some a ∧ w.cell? ⟨N, 1, none⟩ = some b ∧ w.cell? ⟨N, 2, none⟩ = some c) ∧ (w.cell? ⟨M, 0, none⟩ = some d ∧ w.cell? ⟨M, 1, none⟩ = some e ∧ w.cell? ⟨M, 2, none⟩ = some f) ∧ (w.cell? ⟨g, 0, none⟩ = some x ∧ w.cell? ⟨g, 1, none⟩ = some y ∧ w.cell? ⟨g, 2, none⟩ = some z)) ∧ Tri w0 N [a, b, c] M [d, e, f] g [x, y, z] w :=
  ⟨⟨⟨h.1.1.at0, h.1.1.at1, h.1.1.at2⟩, ⟨h.1.2.1.at0, h.1.2.1.at1, h.1.2.1.at2⟩, ⟨h.2.at0, h.2.at1, h.2.at2⟩⟩, h⟩
/-- A slice of two positions that was just laid. -/
theorem RdP.new2 (w : World) (t : TypeId) (a b c d e f : Int) : RdP (w.alloc (.cells #[.int .u64 a, .int .u32 b, .int .u32 c, .int .u64 d, .int .u32 e, .int .u32 f] t)) (some ⟨w.heap.size, 0, none⟩) 2 [(a, b, c), (d, e, f)] :=
  ⟨rfl, fun _ _ => ⟨_, 0, rfl, by simp, fun j hj => by
    rcases j with _ | _ | j
    · simp [go_sem]
    · simp [go_sem]
    · omega⟩⟩

theorem RdP.new2b (w : World) (ob : Obj) (t : TypeId) (a b c d e f : Int) : RdP ((w.alloc ob).alloc (.cells #[.int .u64 a, .int .u32 b, .int .u32 c, .int .u64 d, .int .u32 e, .int .u32 f] t)) (some ⟨w.heap.size + 1, 0, none⟩) 2 [(a, b, c), (d, e, f)] := by
  have h := RdP.new2 (w.alloc ob) t a b c d e f
  simpa using h
end

end Go.Proofs.YtoioeginfhkjjaaGreatDoor
