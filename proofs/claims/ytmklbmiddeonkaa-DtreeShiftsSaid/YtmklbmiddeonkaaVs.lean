/- Many variables through a walk. -/
import Derived.Test.YtmklbmiddeonkaaVspread
import Derived.Test.YtmklbmiddeonkaaCs
namespace Go.Proofs.Ytmklbmiddeonkaa
open Go.RowKit

/-- Many variables. -/
def Vs (w0 : World) (L : List (Nat × List Value)) (w : World) : Prop := (∀ x ∈ L, Cs w x.1 x.2) ∧ Below w0.heap.size w0 w
theorem Vs.below {w0 w w' : World} {L : List (Nat × List Value)} (h : Vs w0 L w) (hb : Below w.heap.size w w') : Vs w0 L w' := ⟨fun x hx => (h.1 x hx).below hb, below_on h.2 hb⟩
theorem Vs.alloc {w0 w : World} {L : List (Nat × List Value)} (h : Vs w0 L w) (o : Obj) : Vs w0 L (w.alloc o) := h.below ((Below.refl _ _).alloc (Nat.le_refl _) o)
theorem Vs.drew {w0 w : World} {L : List (Nat × List Value)} (h : Vs w0 L w) : Vs w0 L w.drew := ⟨fun x hx => (h.1 x hx).drew, h.2.drew⟩
theorem Vs.nil {w0 w : World} (h : Below w0.heap.size w0 w) : Vs w0 [] w := ⟨fun x hx => absurd hx (by simp), h⟩
theorem Vs.more {w0 w : World} {L : List (Nat × List Value)} (h : Vs w0 L w) {g : Nat} {vs : List Value} (hc : Cs w g vs) : Vs w0 ((g, vs) :: L) w :=
  ⟨fun x hx => by
    rcases List.mem_cons.1 hx with rfl | hx
    · exact hc
    · exact h.1 x hx, h.2⟩
theorem Vs.at {w0 w : World} {L : List (Nat × List Value)} (h : Vs w0 L w) (k : Nat) {g : Nat} {vs : List Value} (hk : L[k]? = some (g, vs)) : Cs w g vs := h.1 _ (List.mem_of_getElem? hk)

end Go.Proofs.Ytmklbmiddeonkaa
