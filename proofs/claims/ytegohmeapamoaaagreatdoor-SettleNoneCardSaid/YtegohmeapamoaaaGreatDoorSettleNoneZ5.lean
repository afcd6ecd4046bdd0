/- Texts of SettleNone's proof, together. -/
import Derived.WalkKit
import Derived.Deep.Draws
namespace Go.Proofs.YtegohmeapamoaaaGreatDoor
/- Plain facts on wide numbers: nothing of the program. -/
section
open Go.RowKit
theorem hid {p : Prop} (h : p) : RowKit.Hid p := h
/-- A cell that is there is there behind a call that writes nothing that was there. -/
theorem keep1 {w w' : World} {b o : Nat} {v : Value} (hb : Below w.heap.size w w') (h : w.cell? ⟨b, o, none⟩ = some v) : w'.cell? ⟨b, o, none⟩ = some v :=
  (hb.cell (p := ⟨b, o, none⟩) (World.block_lt_of_cell? w _ h)).trans h
theorem keep2 {w w' : World} {b0 o0 b1 o1 : Nat} {v0 v1 : Value} (h : w.cell? ⟨b0, o0, none⟩ = some v0 ∧ w.cell? ⟨b1, o1, none⟩ = some v1) (hb : Below w.heap.size w w') : w'.cell? ⟨b0, o0, none⟩ = some v0 ∧ w'.cell? ⟨b1, o1, none⟩ = some v1 :=
  ⟨keep1 hb h.1, keep1 hb h.2⟩
theorem keep4 {w w' : World} {b0 o0 b1 o1 b2 o2 b3 o3 : Nat} {v0 v1 v2 v3 : Value} (h : w.cell? ⟨b0, o0, none⟩ = some v0 ∧ w.cell? ⟨b1, o1, none⟩ = some v1 ∧ w.cell? ⟨b2, o2, none⟩ = some v2 ∧ w.cell? ⟨b3, o3, none⟩ = some v3) (hb : Below w.heap.size w w') : w'.cell? ⟨b0, o0, none⟩ = some v0 ∧ w'.cell? ⟨b1, o1, none⟩ = some v1 ∧ w'.cell? ⟨b2, o2, none⟩ = some v2 ∧ w'.cell? ⟨b3, o3, none⟩ = some v3 :=
  ⟨keep1 hb h.1, keep1 hb h.2.1, keep1 hb h.2.2.1, keep1 hb h.2.2.2⟩
/-- -1, 0, 1, as a function. -/
def cmpI (a b : Int) : Int := if a < b then -1 else if a = b then 0 else 1
theorem cmpI_lt {a b : Int} (h : a < b) : cmpI a b = -1 := by unfold cmpI; rw [if_pos h]
theorem cmpI_eq (a : Int) : cmpI a a = 0 := by unfold cmpI; rw [if_neg (by omega), if_pos rfl]
theorem cmpI_gt {a b : Int} (h : b < a) : cmpI a b = 1 := by unfold cmpI; rw [if_neg (by omega), if_neg (by omega)]
end

/- Plain facts on times that go round, and on positions: nothing of the program. -/
section
open Go.RowKit
/-- A time. -/
def IsT (t : Int) : Prop := 0 ≤ t ∧ t ≤ 18446744073709551615
/-- The difference of two times. -/
def dif (t u : Int) : Int := (t - u + 9223372036854775808) % 18446744073709551616 - 9223372036854775808
/-- A time so much later. -/
def adv (t d : Int) : Int := (t + d) % 18446744073709551616
/-- Which is ahead, of two at the times t, u from one base. -/
def posC (t r w u s v : Int) : Int := if dif u t ≠ 0 then cmpI 0 (dif u t) else cmpI (r * v) (s * w)
end

/- Means of positions, lags and places, as numbers: nothing of the program. -/
section
open Go.RowKit
/-- A position: its time, R and W. -/
abbrev P3 := Int × Int × Int
def smI (x : Int) : Bool := decide (-9223372036854775808 ≤ x ∧ x ≤ 9223372036854775807)
end

/- Lags and places, as numbers. -/
section
open Go.RowKit
/-- Where a distance leads. -/
def atOk (d v : Int) : Bool := decide (1 ≤ v ∧ v ≤ 1048576) && smI (d / v)
def atP (base d v : Int) : P3 := if atOk d v = true then (adv base (d / v), d % v, v) else (0, 0, 0)
end

/- Plain facts on digits of base 10000, the lowest first: nothing of the program. -/
section
open Go.RowKit
def val : List Int → Int
  | [] => 0
  | d :: ds => d + 10000 * val ds
end

end Go.Proofs.YtegohmeapamoaaaGreatDoor
