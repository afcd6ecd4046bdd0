/- How arguments are opened, for the laws' frames. -/
import Derived.Test.YtegohmeapamoaaaGreatDoorLimitsKeepZ0
import Derived.Test.YtegohmeapamoaaaGreatDoorRows
import Derived.WalkKit
import Derived.ProofKit
import Derived.OpenShut
import Derived.ChangeOld
import Derived.Below
import Derived.Carry
import Derived.SizedLaws
import Derived.Lib.SmallJoins
namespace Go.Proofs.YtegohmeapamoaaaGreatDoor
open Go.ChangeShapes Go.WideShapes Go.ChangeAt Go.RowKit Go.Joins
theorem own : ownKnob Tryz.prog.godebug = none := by kernel_rfl
set_option maxRecDepth 100000 in
theorem laidOut : laidOutB Tryz.prog = true := by kernel_rfl
/-- What a wide number's two words are known to be. -/
def IsWd (h l : Int) : Prop := IsW h l (h * 18446744073709551616 + l)
set_option maxRecDepth 100000 in
theorem open_wide {H : Type} {enc : TypeId × Value → H} {W : World} {base b0 : Nat} {spare : Nat → Bool} {held : Bool} {r : Reach} {v : Value} {d : DataW H} {p : List MemPlace}
    (hv : Value.okWide Tryz.prog W r b0 26 v) (h : DataW.Trod enc Tryz.prog W base spare held 26 v d p) :
    ∃ a b : Int, v = .agg #[.int .i64 a, .int .u64 b] ∧ IsWd a b := by
  obtain ⟨c0, c1, y0, y1, m, rfl, _, _, hy0, hy1⟩ := open_agg2 Tryz.underlying26 (by kernel_rfl) (by kernel_rfl) hv h
  obtain ⟨a, e0, _, wa⟩ := DataW.trod_int Tryz.underlying2 hy0
  obtain ⟨b, e1, _, wb⟩ := DataW.trod_int Tryz.underlying22 hy1
  simp at e0 e1
  subst e0 e1
  obtain ⟨x1, x2⟩ := bounds_i64 wa
  obtain ⟨x3, x4⟩ := bounds_u64 wb
  exact ⟨a, b, rfl, x1, x2, x3, x4, rfl⟩
end Go.Proofs.YtegohmeapamoaaaGreatDoor
