/- Texts of SettleShifts's proof, together. -/
import Derived.Test.YtjchnkmolhgpmaaGreatDoorSettleShiftsZ9
import Derived.Test.YtjchnkmolhgpmaaGreatDoorWideD
import Derived.Test.YtjchnkmolhgpmaaGreatDoorSettleShiftsZ0
import Derived.Test.YtjchnkmolhgpmaaGreatDoorSettleShiftsZ7
import Derived.Test.YtjchnkmolhgpmaaGreatDoorOpen
import Derived.Deep.LoopGhost
import Derived.OpenShut
namespace Go.Proofs.YtjchnkmolhgpmaaGreatDoor

section
open Go.RowKit
theorem Cs.alloc_new6 (w : World) (t : TypeId) (vs : List Value) : Cs (w.alloc (.cells vs.toArray t)) w.heap.size vs := fun i v hv => by
 refine ⟨?_, by simp [go_sem]⟩;rw [World.cell?_alloc_new];simpa using hv
end


section
open Go.RowKit
structure Pl where
 d : Int
 r : Int
 v : Int
def Pl.c (p q : Pl) : Int := if q.d - p.d ≠ 0 then cmpI 0 (q.d - p.d) else cmpI (p.r * q.v) (q.r * p.v)
theorem Pl.anti (p q : Pl) : p.c q = -(q.c p) := by
 unfold Pl.c;by_cases h : q.d - p.d ≠ 0
 ·rw [if_pos h, if_pos (by omega)];unfold cmpI;split <;> split <;> (try split) <;> (try split) <;> omega
 ·rw [if_neg h, if_neg (by omega)];exact cmpI_anti _ _
theorem cmpI_le0 (a b : Int) : cmpI a b ≤ 0 ↔ a ≤ b := by unfold cmpI; split <;> (try split) <;> omega
theorem cmpI_ltT (a b : Int) : cmpI a b < 0 ↔ a < b := by unfold cmpI; split <;> (try split) <;> omega
theorem Pl.le (p q : Pl) : p.c q ≤ 0 ↔ p.d < q.d ∨ p.d = q.d ∧ p.r * q.v ≤ q.r * p.v := by
 unfold Pl.c;by_cases h : q.d - p.d ≠ 0
 ·rw [if_pos h, cmpI_le0]; omega
 ·rw [if_neg h, cmpI_le0];have : p.d = q.d := by omega
  simp [this]
theorem Pl.lt (p q : Pl) : p.c q < 0 ↔ p.d < q.d ∨ p.d = q.d ∧ p.r * q.v < q.r * p.v := by
 unfold Pl.c;by_cases h : q.d - p.d ≠ 0
 ·rw [if_pos h, cmpI_ltT]; omega
 ·rw [if_neg h, cmpI_ltT];have : p.d = q.d := by omega
  simp [this]
theorem Pl.trans {p q s : Pl} (hp : 0 < p.v) (hq : 0 < q.v) (hs : 0 < s.v) (h1 : p.c q ≤ 0) (h2 : q.c s ≤ 0) : p.c s ≤ 0 ∧ (p.c q < 0 ∨ q.c s < 0 → p.c s < 0) := by
 rw [Pl.le] at h1 h2;rw [Pl.le, Pl.lt, Pl.lt, Pl.lt];rcases h1 with h1 | ⟨h1, h1'⟩
 ·exact ⟨Or.inl (by omega), fun _ => Or.inl (by omega)⟩
 ·rcases h2 with h2 | ⟨h2, h2'⟩
  ·exact ⟨Or.inl (by omega), fun _ => Or.inl (by omega)⟩
  ·have e : ∀ x y z : Int, x * y * z = y * (x * z) := fun x y z => by rw [Int.mul_comm x y, Int.mul_assoc]
   have m1 : p.r * q.v * s.v ≤ q.r * p.v * s.v := Int.mul_le_mul_of_nonneg_right h1' (by omega);have m2 : q.r * s.v * p.v ≤ s.r * q.v * p.v := Int.mul_le_mul_of_nonneg_right h2' (by omega);have e1 : q.r * p.v * s.v = q.r * s.v * p.v := by rw [Int.mul_assoc, Int.mul_comm p.v s.v, ← Int.mul_assoc]
   have m3 : q.v * (p.r * s.v) ≤ q.v * (s.r * p.v) := by rw [← e, ← e]; omega
   have m4 : p.r * s.v ≤ s.r * p.v := Int.le_of_mul_le_mul_left m3 hq;refine ⟨Or.inr ⟨by omega, m4⟩, fun h => Or.inr ⟨by omega, ?_⟩⟩;rcases Int.lt_or_eq_of_le m4 with h5 | h5
   ·exact h5
   ·exfalso;have m5 : p.r * q.v * s.v = s.r * q.v * p.v := by rw [e p.r, e s.r, h5]
    rcases h with (h | ⟨_, h⟩) | (h | ⟨_, h⟩)
    ·omega
    ·have := Int.mul_lt_mul_of_pos_right h hs; omega
    ·omega
    ·have := Int.mul_lt_mul_of_pos_right h hp; omega
def It.p1 (t : Int) (a : It) : Pl := ⟨dif a.t t, a.r, a.v⟩
def It.p2 (t : Int) (a : It) : Pl := ⟨dif a.u t, a.s, a.y⟩
end

end Go.Proofs.YtjchnkmolhgpmaaGreatDoor
