/- The contracts of the package wide. -/
import Derived.Test.YtjklcbbanlaicaaDoorBits
import Derived.Test.YtjklcbbanlaicaaDoorNum
import Derived.Deep.RegionHeld3
import Derived.Deep.QuietTactic
import Derived.BigQuiet
namespace Go.Proofs.YtjklcbbanlaicaaDoor
open Go.RowKit

set_option maxHeartbeats 400000 in
theorem Wide.ofN (x : Int) (h0 : -9223372036854775808 ≤ x) (h1 : x ≤ 9223372036854775807) (w : World) :
    Calls Tryd.prog 10 #[.int .i64 x] w fun e w' => ∃ h l : Int, e = .returned (.agg #[.int .i64 h, .int .u64 l]) ∧ IsW h l x ∧ Below w.heap.size w w' := by
  go_enter Tryd.func10, Tryd.ntmps10
  go_wp2
  refine bodyPost_ret (v := .agg #[.int .i64 _, .int .u64 _]) (by simp [results, Tryd.results10, go_sem]; exact ⟨rfl, rfl⟩) rfl ⟨_, _, rfl, ?_, (Below.refl _ _).alloc (Nat.le_refl _) _⟩
  rw [IntKind.wrap_u64]
  unfold IsW
  omega

set_option maxHeartbeats 400000 in
theorem Wide.ofU (x : Int) (h0 : 0 ≤ x) (h1 : x ≤ 18446744073709551615) (w : World) :
    Calls Tryd.prog 13 #[.int .u64 x] w fun e w' => e = .returned (.agg #[.int .i64 0, .int .u64 x]) ∧ IsW 0 x x ∧ Below w.heap.size w w' := by
  go_enter Tryd.func13, Tryd.ntmps13
  go_wp2
  refine bodyPost_ret (v := .agg #[.int .i64 0, .int .u64 x]) (by simp [results, Tryd.results13, go_sem]) rfl ⟨rfl, ?_, (Below.refl _ _).alloc (Nat.le_refl _) _⟩
  unfold IsW
  omega

end Go.Proofs.YtjklcbbanlaicaaDoor

