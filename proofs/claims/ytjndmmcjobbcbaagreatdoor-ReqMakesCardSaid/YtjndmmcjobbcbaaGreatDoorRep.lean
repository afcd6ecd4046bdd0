import Derived.Test.YtjndmmcjobbcbaaGreatDoorTxt
import Derived.Test.YtjndmmcjobbcbaaGreatDoorDec
import Derived.Shelf.Strings.Repeat
namespace Go.Proofs.YtjndmmcjobbcbaaGreatDoor
open Go.RowKit Go.Shelf Go.Sort Go.Lib
shelf_lay Lays.n105 Nm 105 at Tryz as Tryz.lays105
theorem Tryz.extra105 : Builder.Extra Tryz.prog Tryz.lays105_ren where
 sizeBuilder := by kernel_rfl
 liesBuilder := by kernel_rfl
 t5 := Tryz.underlying5
 a5 := Tryz.isAgg5
 z5 := Tryz.sizeOf5
 v5 := Tryz.zeroValue5
 infoByte := by kernel_rfl
 cellsByte := by kernel_rfl
 sizeByte := by kernel_rfl
 neB5 := by decide
theorem repeat_one (b : UInt8) : ∀ k, Lib.repeatL [b] k = List.replicate k b
 | 0 => rfl
 | k + 1 => by rw [List.replicate_succ, ← repeat_one b k]; rfl
theorem Txt.zeros (k : Nat) (hk : k ≤ 100) (w : World) :
  Calls Tryz.prog 273 #[.string ⟨#[48]⟩, .int .i64 k] w fun e w' => e = .returned (.string ⟨(List.replicate k (48 : UInt8)).toArray⟩) ∧ Below w.heap.size w w' := by
 have h := Any.strings_Repeat Tryz.lays105 Tryz.extra105 ⟨#[48]⟩ k w (by omega) (by rw [show (⟨#[48]⟩ : ByteArray).size = 1 from rfl]; omega)
 rw [show (⟨#[48]⟩ : ByteArray).data.toList = [48] from rfl, repeat_one] at h
 exact h
end Go.Proofs.YtjndmmcjobbcbaaGreatDoor
