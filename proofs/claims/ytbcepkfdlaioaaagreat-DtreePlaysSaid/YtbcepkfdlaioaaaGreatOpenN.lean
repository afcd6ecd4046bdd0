import Derived.Test.YtbcepkfdlaioaaaGreatOpen
import Derived.Test.YtbcepkfdlaioaaaGreatRdu
import Derived.Deep.SlicePairs
namespace Go.Proofs.YtbcepkfdlaioaaaGreat
open Go.ChangeShapes Go.WideShapes Go.ChangeAt Go.RowKit Go.Joins
theorem spot_none {w : World} {x : Addr} {v : Value} (h0 : w.cell? (x.add 0) = some v) : x = ⟨x.block, x.off, none⟩ := by
 have e : x.add 0 = x := by simp [Addr.add]
 rw [e] at h0
 have := World.cell?_spot h0
 cases x; simp_all
theorem add_at {b off : Nat} (i : Nat) : (⟨b, off, none⟩ : Addr).add i = ⟨b, off + i, none⟩ := by
 unfold Addr.add; split
 ·simp_all
 ·rfl
end Go.Proofs.YtbcepkfdlaioaaaGreat
