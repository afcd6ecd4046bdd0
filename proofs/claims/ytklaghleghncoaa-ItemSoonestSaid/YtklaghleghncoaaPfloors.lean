/- PosFloors: the walk. -/
import Derived.Test.YtklaghleghncoaaOpenN
import Derived.Test.YtklaghleghncoaaItemSoonestZ13
import Derived.Test.YtklaghleghncoaaRef4
import Derived.Deep.SlicePairs
namespace Go.Proofs.Ytklaghleghncoaa
open Go.RowKit
/-- Two variables of type Big, and their numbers. -/
def LH (w0 : World) (g h : Nat) (s1 : Bool) (A1 : Option Addr) (n1 c1 : Nat) (x : Int) (s2 : Bool) (A2 : Option Addr) (n2 c2 : Nat) (y : Int) (w : World) : Prop :=
  Var w g s1 A1 n1 c1 ∧ Var w h s2 A2 n2 c2 ∧ IsB w 70 s1 A1 n1 c1 x ∧ IsB w 70 s2 A2 n2 c2 y ∧ Below w0.heap.size w0 w
theorem LH.below {w0 : World} {g h : Nat} {s1 : Bool} {A1 : Option Addr} {n1 c1 : Nat} {x : Int} {s2 : Bool} {A2 : Option Addr} {n2 c2 : Nat} {y : Int} {w w' : World} (k : LH w0 g h s1 A1 n1 c1 x s2 A2 n2 c2 y w) (hb : Below w.heap.size w w') :
    LH w0 g h s1 A1 n1 c1 x s2 A2 n2 c2 y w' := ⟨k.1.below hb, k.2.1.below hb, k.2.2.1.below hb, k.2.2.2.1.below hb, below_keep k.2.2.2.2 hb⟩
theorem LH.alloc {w0 : World} {g h : Nat} {s1 : Bool} {A1 : Option Addr} {n1 c1 : Nat} {x : Int} {s2 : Bool} {A2 : Option Addr} {n2 c2 : Nat} {y : Int} {w : World} (k : LH w0 g h s1 A1 n1 c1 x s2 A2 n2 c2 y w) (ob : Obj) :
    LH w0 g h s1 A1 n1 c1 x s2 A2 n2 c2 y (w.alloc ob) := k.below ((Below.refl _ _).alloc (Nat.le_refl _) ob)
theorem LH.drew {w0 : World} {g h : Nat} {s1 : Bool} {A1 : Option Addr} {n1 c1 : Nat} {x : Int} {s2 : Bool} {A2 : Option Addr} {n2 c2 : Nat} {y : Int} {w : World} (k : LH w0 g h s1 A1 n1 c1 x s2 A2 n2 c2 y w) :
    LH w0 g h s1 A1 n1 c1 x s2 A2 n2 c2 y w.drew := ⟨k.1.drew, k.2.1.drew, k.2.2.1.drew, k.2.2.2.1.drew, k.2.2.2.2.drew⟩
theorem LH.put1 {w0 : World} {g h : Nat} {s1 : Bool} {A1 : Option Addr} {n1 c1 : Nat} {x : Int} {s2 : Bool} {A2 : Option Addr} {n2 c2 : Nat} {y : Int} {w : World} (k : LH w0 g h s1 A1 n1 c1 x s2 A2 n2 c2 y w) (gh : g ≠ h) (hg : w0.heap.size ≤ g)
    {s : Bool} {A : Option Addr} {n c : Nat} {z : Int} (hz : IsB w 70 s A n c z) : LH w0 g h s A n c z s2 A2 n2 c2 y ((w.setCell ⟨g, 0, none⟩ (.bool s)).setCell ⟨g, 1, none⟩ (.slice A n c)) :=
  ⟨k.1.store _ _ _ _, k.2.1.far gh _ _ _ _, hz.storeV k.1 _ _ _ _, k.2.2.2.1.storeV k.1 _ _ _ _, (k.2.2.2.2.setCell hg _).setCell hg _⟩
theorem LH.put2 {w0 : World} {g h : Nat} {s1 : Bool} {A1 : Option Addr} {n1 c1 : Nat} {x : Int} {s2 : Bool} {A2 : Option Addr} {n2 c2 : Nat} {y : Int} {w : World} (k : LH w0 g h s1 A1 n1 c1 x s2 A2 n2 c2 y w) (gh : g ≠ h) (hg : w0.heap.size ≤ h)
    {s : Bool} {A : Option Addr} {n c : Nat} {z : Int} (hz : IsB w 70 s A n c z) : LH w0 g h s1 A1 n1 c1 x s A n c z ((w.setCell ⟨h, 0, none⟩ (.bool s)).setCell ⟨h, 1, none⟩ (.slice A n c)) :=
  ⟨k.1.far (Ne.symm gh) _ _ _ _, k.2.1.store _ _ _ _, k.2.2.1.storeV k.2.1 _ _ _ _, hz.storeV k.2.1 _ _ _ _, (k.2.2.2.2.setCell hg _).setCell hg _⟩
theorem LH.see {w0 : World} {g h : Nat} {s1 : Bool} {A1 : Option Addr} {n1 c1 : Nat} {x : Int} {s2 : Bool} {A2 : Option Addr} {n2 c2 : Nat} {y : Int} {w : World} (k : LH w0 g h s1 A1 n1 c1 x s2 A2 n2 c2 y w) :
    (w.cell? ⟨g, 0, none⟩ = some (.bool s1) ∧ w.cell? ⟨g, 1, none⟩ = some (.slice A1 n1 c1) ∧ w.cell? ⟨h, 0, none⟩ = some (.bool s2) ∧ w.cell? ⟨h, 1, none⟩ = some (.slice A2 n2 c2)) ∧ LH w0 g h s1 A1 n1 c1 x s2 A2 n2 c2 y w :=
  ⟨⟨k.1.1, k.1.2.1, k.2.1.1, k.2.1.2.1⟩, k⟩
end Go.Proofs.Ytklaghleghncoaa
