import Derived.Test.YtjndmmcjobbcbaaGreatDoorRbM
import Derived.Test.YtjndmmcjobbcbaaGreatDoorSetBackZ13
import Derived.Deep.AppendLies
import Derived.Deep.MidRow
namespace Go.Proofs.YtjndmmcjobbcbaaGreatDoor
open Go.RowKit
section
variable {α : Type} {enc : α → List Value} {k : Nat} {T : TypeId} {z : α}
def OwnG (enc : α → List Value) (k : Nat) (T : TypeId) (w : World) (base : Nat) (A : Option Addr) (n c : Nat) (l : List α) : Prop := w.ownsRow base T k (.slice A n c) n (l.flatMap enc)
def RdG (enc : α → List Value) (k : Nat) (z : α) (w : World) (A : Option Addr) (n : Nat) (l : List α) : Prop :=
  l.length = n ∧ (0 < n → ∃ b off, A = some ⟨b, off, none⟩ ∧ b < w.heap.size ∧ ∀ j, j < n → w.rangeAt b (off + j * k) (enc (l.getD j z)))
theorem flatG_length (hk : ∀ x, (enc x).length = k) (l : List α) : (l.flatMap enc).length = l.length * k := by
  induction l with
  | nil => simp
  | cons a l ih => rw [List.flatMap_cons, List.length_append, ih, hk, List.length_cons, Nat.add_mul, Nat.one_mul, Nat.add_comm]
theorem flatG_get (hk : ∀ x, (enc x).length = k) (z : α) : ∀ (l : List α) (j i : Nat), j < l.length → i < k → (l.flatMap enc)[j * k + i]? = (enc (l.getD j z))[i]?
  | [], j, i, h, _ => absurd h (by simp)
  | a :: l, 0, i, _, hi => by
    rw [List.flatMap_cons, List.getElem?_append_left (by rw [hk]; omega)]
    simp
  | a :: l, j + 1, i, h, hi => by
    rw [List.flatMap_cons, List.getElem?_append_right (by rw [hk, Nat.add_mul]; omega), hk, show (j + 1) * k + i - k = j * k + i by rw [Nat.add_mul]; omega, flatG_get hk z l j i (by simpa using h) hi]
    simp
theorem OwnG.len (hk : ∀ x, (enc x).length = k) (h0 : 0 < k) {w : World} {base : Nat} {A : Option Addr} {n c : Nat} {l : List α} (h : OwnG enc k T w base A n c l) : l.length = n := by
  have := h.1
  rw [flatG_length hk] at this
  exact Nat.eq_of_mul_eq_mul_right h0 this
theorem OwnG.head {w : World} {base : Nat} {A : Option Addr} {n c : Nat} {l : List α} (h : OwnG enc k T w base A n c l) (h0 : 0 < n) : ∃ g, A = some ⟨g, 0, none⟩ ∧ base ≤ g ∧ g < w.heap.size := by
  rcases h.2 with ⟨_, h0'⟩ | ⟨g, cap, cur, hv, hb, hg, _⟩
  · omega
  · injection hv with e1
    exact ⟨g, e1, hb, (Array.getElem?_eq_some_iff.1 hg).1⟩
theorem OwnG.range (hk : ∀ x, (enc x).length = k) (h0 : 0 < k) (z : α) {w : World} {base g : Nat} {n c : Nat} {l : List α} (h : OwnG enc k T w base (some ⟨g, 0, none⟩) n c l) {j : Nat} (hj : j < n) : w.rangeAt g (j * k) (enc (l.getD j z)) := fun i v hv => by
  have hl := h.len hk h0
  have hi : i < k := by rw [← hk (l.getD j z)]; exact (List.getElem?_eq_some_iff.1 hv).1
  have hlt : j * k + i < n * k := by
    have : (j + 1) * k ≤ n * k := Nat.mul_le_mul_right _ hj
    rw [Nat.add_mul] at this
    omega
  have := World.ownsRow.cellAt h (j * k + i) hlt
  rw [this, flatG_get hk z l j i (by omega) hi]
  exact hv
theorem OwnG.rd (hk : ∀ x, (enc x).length = k) (h0 : 0 < k) (z : α) {w : World} {base : Nat} {A : Option Addr} {n c : Nat} {l : List α} (h : OwnG enc k T w base A n c l) : RdG enc k z w A n l := by
  refine ⟨h.len hk h0, fun hn => ?_⟩
  obtain ⟨g, rfl, _, hlt⟩ := h.head hn
  exact ⟨g, 0, rfl, hlt, fun j hj => by rw [Nat.zero_add]; exact h.range hk h0 z hj⟩
theorem RdG.below {w w' : World} {A : Option Addr} {n : Nat} {l : List α} (h : RdG enc k z w A n l) (hb : Below w.heap.size w w') : RdG enc k z w' A n l :=
  ⟨h.1, fun hn => by
    obtain ⟨b, off, e, hlt, hr⟩ := h.2 hn
    exact ⟨b, off, e, Nat.lt_of_lt_of_le hlt hb.size, fun j hj i v hv => (hb.cell (p := ⟨b, off + j * k + i, none⟩) hlt).trans (hr j hj i v hv)⟩⟩
end
end Go.Proofs.YtjndmmcjobbcbaaGreatDoor
