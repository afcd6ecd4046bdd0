/- The contracts of the package pos, continued: distances. -/
import Derived.Test.YtcnmobehamgmbaaPos
import Derived.Test.YtcnmobehamgmbaaCs
import Derived.Test.YtcnmobehamgmbaaWideD
namespace Go.Proofs.Ytcnmobehamgmbaa
open Go.RowKit

/-- Two variables, and all that was there, while a walk goes on. -/
def Two (w0 : World) (N : Nat) (vs : List Value) (M : Nat) (us : List Value) (w : World) : Prop := Cs w N vs ∧ Cs w M us ∧ Below w0.heap.size w0 w
theorem Two.below {w0 w w' : World} {N M : Nat} {vs us : List Value} (h : Two w0 N vs M us w) (hb : Below w.heap.size w w') : Two w0 N vs M us w' := ⟨h.1.below hb, h.2.1.below hb, below_on h.2.2 hb⟩
theorem Two.alloc {w0 w : World} {N M : Nat} {vs us : List Value} (h : Two w0 N vs M us w) (o : Obj) : Two w0 N vs M us (w.alloc o) := h.below ((Below.refl _ _).alloc (Nat.le_refl _) o)
theorem Two.drew {w0 w : World} {N M : Nat} {vs us : List Value} (h : Two w0 N vs M us w) : Two w0 N vs M us w.drew := ⟨h.1, h.2.1, h.2.2.drew⟩
theorem Two.far {w0 w : World} {N M : Nat} {vs us : List Value} (h : Two w0 N vs M us w) {g : Nat} (hN : g ≠ N) (hM : g ≠ M) (hg : w0.heap.size ≤ g) (o : Nat) (u : Value) : Two w0 N vs M us (w.setCell ⟨g, o, none⟩ u) :=
  ⟨h.1.far hN _ _, h.2.1.far hM _ _, h.2.2.setCell hg _⟩
/-- What the walk sees of it. -/
theorem Two.see {w0 w : World} {N M : Nat} {a b c : Value} {us : List Value} (h : Two w0 N [a, b, c] M us w) :
    (w.cell? ⟨N, 0, none⟩ = some a ∧ w.cell? ⟨N, 1, none⟩ = some b ∧ w.cell? ⟨N, 2, none⟩ = some c) ∧ Two w0 N [a, b, c] M us w := ⟨⟨h.1.at0, h.1.at1, h.1.at2⟩, h⟩

/-- A third one. -/
def Tri (w0 : World) (N : Nat) (vs : List Value) (M : Nat) (us : List Value) (g : Nat) (xs : List Value) (w : World) : Prop := Two w0 N vs M us w ∧ Cs w g xs
theorem Tri.below {w0 w w' : World} {N M g : Nat} {vs us xs : List Value} (h : Tri w0 N vs M us g xs w) (hb : Below w.heap.size w w') : Tri w0 N vs M us g xs w' := ⟨h.1.below hb, h.2.below hb⟩
theorem Tri.alloc {w0 w : World} {N M g : Nat} {vs us xs : List Value} (h : Tri w0 N vs M us g xs w) (o : Obj) : Tri w0 N vs M us g xs (w.alloc o) := h.below ((Below.refl _ _).alloc (Nat.le_refl _) o)
theorem Tri.drew {w0 w : World} {N M g : Nat} {vs us xs : List Value} (h : Tri w0 N vs M us g xs w) : Tri w0 N vs M us g xs w.drew := ⟨h.1.drew, h.2⟩
theorem Tri.far {w0 w : World} {N M g : Nat} {vs us xs : List Value} (h : Tri w0 N vs M us g xs w) {k : Nat} (hN : k ≠ N) (hM : k ≠ M) (hG : k ≠ g) (hg : w0.heap.size ≤ k) (o : Nat) (u : Value) : Tri w0 N vs M us g xs (w.setCell ⟨k, o, none⟩ u) :=
  ⟨h.1.far hN hM hg _ _, h.2.far hG _ _⟩
theorem Tri.see {w0 w : World} {N M g : Nat} {a b c x y : Value} {us : List Value} (h : Tri w0 N [a, b, c] M us g [x, y] w) :
    (w.cell? ⟨N, 1, none⟩ = some b ∧ w.cell? ⟨g, 0, none⟩ = some x ∧ w.cell? ⟨g, 1, none⟩ = some y) ∧ Tri w0 N [a, b, c] M us g [x, y] w := ⟨⟨h.1.1.at1, h.2.at0, h.2.at1⟩, h⟩

/-- A wide number as an answer. -/
def WV (n : Int) (w : World) (e : Ending) (w' : World) : Prop := ∃ h l : Int, e = .returned (.agg #[.int .i64 h, .int .u64 l]) ∧ IsW h l n ∧ Below w.heap.size w w'

end Go.Proofs.Ytcnmobehamgmbaa
