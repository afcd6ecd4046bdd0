/- The tree of items: a thing comes. -/
import Derived.Test.YtegohmeapamoaaaGreatDoorDtB
import Derived.Test.YtegohmeapamoaaaGreatDoorLimitsKeepZ19
import Derived.StillTailTactics
namespace Go.Proofs.YtegohmeapamoaaaGreatDoor
open Go.RowKit
theorem Th.chg {F : List Nat} {w w' : World} {b : Nat} {x : It} (h : Th w b x) (hc : Chg F w w') (hb : b ∉ F) : Th w' b x := by
  have hl := World.block_lt_of_cell? w _ h.1
  exact ⟨(hc.cell (p := ⟨b, 0, none⟩) hl hb).trans h.1, (hc.cell (p := ⟨b, 1, none⟩) hl hb).trans h.2.1, (hc.cell (p := ⟨b, 2, none⟩) hl hb).trans h.2.2.1, (hc.cell (p := ⟨b, 3, none⟩) hl hb).trans h.2.2.2.1, (hc.cell (p := ⟨b, 4, none⟩) hl hb).trans h.2.2.2.2.1, (hc.cell (p := ⟨b, 5, none⟩) hl hb).trans h.2.2.2.2.2.1, (hc.cell (p := ⟨b, 6, none⟩) hl hb).trans h.2.2.2.2.2.2⟩
theorem Th.far {w : World} {b g : Nat} {x : It} (h : Th w b x) (hb : g ≠ b) (o : Nat) (v : Value) : Th (w.setCell ⟨g, o, none⟩ v) b x :=
  h.chg (F := [g]) ((Chg.refl [g] w).set (Or.inl (by simp)) o v) (by simp; exact Ne.symm hb)
end Go.Proofs.YtegohmeapamoaaaGreatDoor
