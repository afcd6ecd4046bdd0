import Derived.Test.YtjndmmcjobbcbaaGreatDoorRbB
import Derived.StillTailTactics
namespace Go.Proofs.YtjndmmcjobbcbaaGreatDoor
open Go.RowKit
theorem ptr_form {α : Type} (t : Tr α) : ∃ u, ptr t = .pointer u := by cases t <;> exact ⟨_, rfl⟩
end Go.Proofs.YtjndmmcjobbcbaaGreatDoor
