/- Texts of DtreePlays's proof, together. -/
import Derived.Test.YtbcepkfdlaioaaaGreatDtreePlaysZ10
import Derived.Test.YtbcepkfdlaioaaaGreatDtreePlaysZ8
import Derived.Test.YtbcepkfdlaioaaaGreatVturns
import Derived.Test.YtbcepkfdlaioaaaGreatOpen
namespace Go.Proofs.YtbcepkfdlaioaaaGreat

section
open Go.ChangeShapes Go.WideShapes Go.ChangeAt Go.RowKit Go.Joins
theorem Law2.Awake (w : World) : Calls Tryz.prog 97 #[] w (Ans (.bool true) w) := by
 go_enter Tryz.func97, Tryz.ntmps97
 go_wp2_with (go_at_call 108; refine (Law2.awake _).mono ?_; rintro e w' ⟨rfl, hb⟩)
 go_ret
 exact ⟨rfl, hb⟩
theorem Law3.Awake (w : World) : Calls Tryz.prog 98 #[] w (Ans (.bool true) w) := by
 go_enter Tryz.func98, Tryz.ntmps98
 go_wp2_with (go_at_call 109; refine (Law3.awake _).mono ?_; rintro e w' ⟨rfl, hb⟩)
 go_ret
 exact ⟨rfl, hb⟩
set_option maxHeartbeats 2000000 in
theorem Law4.awake (w : World) : Calls Tryz.prog 79 #[] w (Ans (.bool true) w) := by
 go_enter Tryz.func79, Tryz.ntmps79
 go_wp2_with fail
 refine (Pos.move_yes 5 0 3 7 (by decide) (by decide) (by decide) (by decide) (by unfold AtOk; decide) _).mono ?_
 have E1 : adv 5 ((7 + 0) / 3) = 7 := by decide
 have E2 : ((7 + 0) % 3 : Int) = 1 := by decide
 rw [E1, E2]
 clear E1 E2
 rintro e w1 ⟨rfl, hb1⟩
 have H1 := hid (show Cs _ _ [.int .u64 7, .int .u32 1, .int .u32 3] from Cs.new3 w1 33 (.int .u64 7) (.int .u32 1) (.int .u32 3))
 have B1 := hid (hb1.alloc hb1.size (.cells #[.int .u64 7, .int .u32 1, .int .u32 3] 33))
 clear hb1
 go_wp2_with fail
 refine (Law2.Awake _).mono ?_
 rintro e w2 ⟨rfl, hb2⟩
 have B2 := hid (below_on B1.out hb2)
 have H2 := hid (H1.out.below hb2)
 clear hb2
 go_wp2_with fail
 refine (Law3.Awake _).mono ?_
 rintro e w3 ⟨rfl, hb3⟩
 have B3 := hid (below_on B2.out hb3)
 have H3 := H2.out.below hb3
 have x0 := H3.at0
 have x1 := H3.at1
 have x2 := H3.at2
 clear hb3 H3
 go_wp2
 go_ret
 exact ⟨rfl, B3.out⟩
end


section
open Go.RowKit
def nearOk (d : Int) : Bool := decide (-1152921504606846976 < d) && decide (d < 1152921504606846976)
def It.near (t : Int) (a : It) : Bool := nearOk (dif a.t t) && nearOk (dif a.u t) && It.right a
set_option maxHeartbeats 1000000 in
theorem Law4.Awake (w : World) : Calls Tryz.prog 60 #[] w (Ans (.bool true) w) := by
 go_enter Tryz.func60, Tryz.ntmps60
 go_wp2_with fail
 refine (Law4.awake _).mono ?_
 rintro e w1 ⟨rfl, hb⟩
 have HB := hid hb
 clear hb
 go_wp2_with fail
 go_ret
 exact ⟨rfl, HB.out⟩
theorem exIn1 : (It.mk 1 0 1 1 2 0 1).In := by unfold It.In; refine ⟨?_, ?_, ?_, ?_, ?_, ?_, ?_⟩ <;> exact ⟨by decide, by decide⟩
theorem exIn2 : (It.mk 1 0 1 2 2 0 1).In := by unfold It.In; refine ⟨?_, ?_, ?_, ?_, ?_, ?_, ?_⟩ <;> exact ⟨by decide, by decide⟩
set_option maxRecDepth 100000 in
set_option maxHeartbeats 2000000 in
theorem Law5.awake (w : World) : Calls Tryz.prog 44 #[] w (Ans (.bool true) w) := by
 go_enter Tryz.func44, Tryz.ntmps44
 go_wp2_with fail
 refine (Law4.Awake _).mono ?_
 rintro e w1 ⟨rfl, hb⟩
 have HT1 : Hid (Cs w1 w.heap.size (It.mk 1 0 1 1 2 0 1).cells ∧ Cs w1 (w.heap.size + 1) (It.mk 1 0 1 2 2 0 1).cells ∧ Below w.heap.size w w1) := hid
  ⟨((Cs.new7 w 35 (It.mk 1 0 1 1 2 0 1)).alloc _).below hb, by have := Cs.new7 (w.alloc (.cells #[.int .u64 1, .int .u32 0, .int .u32 1, .int .i64 1, .int .u64 2, .int .u32 0, .int .u32 1] 35)) 35 (It.mk 1 0 1 2 2 0 1); simp only [World.size_alloc] at this; exact this.below hb, below_on (((Below.refl _ _).alloc (Nat.le_refl _) _).alloc (by simp) _) hb⟩
 obtain ⟨p0, p1, p2, p3, p4, p5, p6⟩ := It.at _ HT1.out.1
 obtain ⟨q0, q1, q2, q3, q4, q5, q6⟩ := It.at _ HT1.out.2.1
 clear hb
 go_wp2_with fail
 refine (Item.due (It.mk 1 0 1 1 2 0 1) (It.mk 1 0 1 2 2 0 1) exIn1 exIn2 _).mono ?_
 rintro e w2 ⟨rfl, hb⟩
 rw [show It.due (It.mk 1 0 1 1 2 0 1) (It.mk 1 0 1 2 2 0 1) = true from rfl]
 have HT2 := hid (And.intro (HT1.out.1.below hb) (And.intro (HT1.out.2.1.below hb) (below_on HT1.out.2.2 hb)))
 clear hb p0 p1 p2 p3 p4 p5 p6 q0 q1 q2 q3 q4 q5 q6
 obtain ⟨p0, p1, p2, p3, p4, p5, p6⟩ := It.at _ HT2.out.1
 obtain ⟨q0, q1, q2, q3, q4, q5, q6⟩ := It.at _ HT2.out.2.1
 go_wp2_with fail
 refine (Item.due (It.mk 1 0 1 2 2 0 1) (It.mk 1 0 1 1 2 0 1) exIn2 exIn1 _).mono ?_
 rintro e w3 ⟨rfl, hb⟩
 rw [show It.due (It.mk 1 0 1 2 2 0 1) (It.mk 1 0 1 1 2 0 1) = false from rfl]
 have HB3 := hid (below_on HT2.out.2.2 hb)
 clear hb
 go_wp2_with fail
 go_ret
 exact ⟨rfl, HB3.out⟩
theorem Cs.alloc_new6 (w : World) (t : TypeId) (vs : List Value) : Cs (w.alloc (.cells vs.toArray t)) w.heap.size vs := fun i v hv => by
 refine ⟨?_, by simp [go_sem]⟩
 rw [World.cell?_alloc_new]
 simpa using hv
def Nr (w : World) (a : It) (w' : World) : Prop := Cs w' w.heap.size a.cells ∧ Cs w' (w.heap.size + 1) [.int .u64 a.t, .int .u32 a.r, .int .u32 a.v, .int .u64 a.u, .int .u32 a.s, .int .u32 a.y] ∧ Below w.heap.size w w'
theorem Nr.below {w w1 w2 : World} {a : It} (h : Nr w a w1) (hb : Below w1.heap.size w1 w2) : Nr w a w2 := ⟨h.1.below hb, h.2.1.below hb, below_on h.2.2 hb⟩
end


section
open Go.RowKit
theorem dif_nearOk {a b t : Int} (ha : nearOk (dif a t) = true) (hb : nearOk (dif b t) = true) : dif b a = dif b t - dif a t := by
 unfold nearOk at ha hb
 simp at ha hb
 unfold dif at *
 omega
structure Pl where
 d : Int
 r : Int
 v : Int
def Pl.c (p q : Pl) : Int := if q.d - p.d ≠ 0 then cmpI 0 (q.d - p.d) else cmpI (p.r * q.v) (q.r * p.v)
theorem Pl.anti (p q : Pl) : p.c q = -(q.c p) := by
 unfold Pl.c
 by_cases h : q.d - p.d ≠ 0
 ·rw [if_pos h, if_pos (by omega)]
  unfold cmpI
  split <;> split <;> (try split) <;> (try split) <;> omega
 ·rw [if_neg h, if_neg (by omega)]
  exact cmpI_anti _ _
theorem cmpI_le0 (a b : Int) : cmpI a b ≤ 0 ↔ a ≤ b := by unfold cmpI; split <;> (try split) <;> omega
theorem cmpI_ltT (a b : Int) : cmpI a b < 0 ↔ a < b := by unfold cmpI; split <;> (try split) <;> omega
theorem Pl.le (p q : Pl) : p.c q ≤ 0 ↔ p.d < q.d ∨ p.d = q.d ∧ p.r * q.v ≤ q.r * p.v := by
 unfold Pl.c
 by_cases h : q.d - p.d ≠ 0
 ·rw [if_pos h, cmpI_le0]; omega
 ·rw [if_neg h, cmpI_le0]
  have : p.d = q.d := by omega
  simp [this]
theorem Pl.lt (p q : Pl) : p.c q < 0 ↔ p.d < q.d ∨ p.d = q.d ∧ p.r * q.v < q.r * p.v := by
 unfold Pl.c
 by_cases h : q.d - p.d ≠ 0
 ·rw [if_pos h, cmpI_ltT]; omega
 ·rw [if_neg h, cmpI_ltT]
  have : p.d = q.d := by omega
  simp [this]
theorem Pl.trans {p q s : Pl} (hp : 0 < p.v) (hq : 0 < q.v) (hs : 0 < s.v) (h1 : p.c q ≤ 0) (h2 : q.c s ≤ 0) : p.c s ≤ 0 ∧ (p.c q < 0 ∨ q.c s < 0 → p.c s < 0) := by
 rw [Pl.le] at h1 h2
 rw [Pl.le, Pl.lt, Pl.lt, Pl.lt]
 rcases h1 with h1 | ⟨h1, h1'⟩
 ·exact ⟨Or.inl (by omega), fun _ => Or.inl (by omega)⟩
 ·rcases h2 with h2 | ⟨h2, h2'⟩
  ·exact ⟨Or.inl (by omega), fun _ => Or.inl (by omega)⟩
  ·have e : ∀ x y z : Int, x * y * z = y * (x * z) := fun x y z => by rw [Int.mul_comm x y, Int.mul_assoc]
   have m1 : p.r * q.v * s.v ≤ q.r * p.v * s.v := Int.mul_le_mul_of_nonneg_right h1' (by omega)
   have m2 : q.r * s.v * p.v ≤ s.r * q.v * p.v := Int.mul_le_mul_of_nonneg_right h2' (by omega)
   have e1 : q.r * p.v * s.v = q.r * s.v * p.v := by rw [Int.mul_assoc, Int.mul_comm p.v s.v, ← Int.mul_assoc]
   have m3 : q.v * (p.r * s.v) ≤ q.v * (s.r * p.v) := by rw [← e, ← e]; omega
   have m4 : p.r * s.v ≤ s.r * p.v := Int.le_of_mul_le_mul_left m3 hq
   refine ⟨Or.inr ⟨by omega, m4⟩, fun h => Or.inr ⟨by omega, ?_⟩⟩
   rcases Int.lt_or_eq_of_le m4 with h5 | h5
   ·exact h5
   ·exfalso
    have m5 : p.r * q.v * s.v = s.r * q.v * p.v := by rw [e p.r, e s.r, h5]
    rcases h with (h | ⟨_, h⟩) | (h | ⟨_, h⟩)
    ·omega
    ·have := Int.mul_lt_mul_of_pos_right h hs; omega
    ·omega
    ·have := Int.mul_lt_mul_of_pos_right h hp; omega
def It.p1 (t : Int) (a : It) : Pl := ⟨dif a.t t, a.r, a.v⟩
def It.p2 (t : Int) (a : It) : Pl := ⟨dif a.u t, a.s, a.y⟩
theorem near_parts {t : Int} {a : It} (h : It.near t a = true) : nearOk (dif a.t t) = true ∧ nearOk (dif a.u t) = true ∧ 0 < a.v ∧ 0 < a.y := by
 unfold It.near It.right posOk at h
 simp at h
 refine ⟨h.1.1, h.1.2, ?_, ?_⟩ <;> omega
theorem posC1 {t : Int} {a b : It} (ha : It.near t a = true) (hb : It.near t b = true) : posC a.t a.r a.v b.t b.r b.v = (a.p1 t).c (b.p1 t) := by
 unfold posC Pl.c It.p1
 rw [dif_nearOk (near_parts ha).1 (near_parts hb).1]
theorem posC2 {t : Int} {a b : It} (ha : It.near t a = true) (hb : It.near t b = true) : posC a.u a.s a.y b.u b.s b.y = (a.p2 t).c (b.p2 t) := by
 unfold posC Pl.c It.p2
 rw [dif_nearOk (near_parts ha).2.1 (near_parts hb).2.1]
theorem ahead_iff {t : Int} {a b : It} (ha : It.near t a = true) (hb : It.near t b = true) : It.ahead a b = true ↔ (a.p1 t).c (b.p1 t) < 0 ∨ (a.p1 t).c (b.p1 t) = 0 ∧ a.i < b.i := by
 unfold It.ahead
 rw [posC1 ha hb]
 split
 ·rename_i h; simp [h]
 ·rename_i h; simp; omega
theorem due_iff {t : Int} {a b : It} (ha : It.near t a = true) (hb : It.near t b = true) : It.due a b = true ↔ (a.p2 t).c (b.p2 t) < 0 ∨ (a.p2 t).c (b.p2 t) = 0 ∧ It.ahead a b = true := by
 unfold It.due
 rw [posC2 ha hb]
 split
 ·rename_i h; simp [h]
 ·rename_i h; simp; omega
end

end Go.Proofs.YtbcepkfdlaioaaaGreat
