import Derived.Test.YtbcepkfdlaioaaaGreatKnuth
import Derived.Test.YtbcepkfdlaioaaaGreatRows
import Derived.WalkKit
import Derived.WalkSpells
import Derived.Shelf.Bits.Mul64
import Derived.Shelf.Small.Bits
namespace Go.Proofs.YtbcepkfdlaioaaaGreat
open Go.RowKit Go.Shelf
theorem Bits.add64 (x y c : Int) (hx : 0 ≤ x) (hy : 0 ≤ y) (hc0 : 0 ≤ c) (hc : c ≤ 1) (w : World) : (callFunc 115 #[.int .u64 x, .int .u64 y, .int .u64 c]).run Tryz.prog w =
  .ok (.value (.tuple #[.int .u64 ((x + y + c) % 18446744073709551616), .int .u64 ((x + y + c) / 18446744073709551616)])) w := by
 rw [run_callFunc_extern Tryz.func115 (by kernel_rfl) (by kernel_rfl) (by kernel_rfl) (e := add64Entry) (by kernel_rfl), run_add64 x y c hx hy hc0 hc]
 rfl
theorem Bits.add64_0 (x y : Int) (hx : 0 ≤ x) (hy : 0 ≤ y) (w : World) : (callFunc 115 #[.int .u64 x, .int .u64 y, .int .u64 0]).run Tryz.prog w =
  .ok (.value (.tuple #[.int .u64 ((x + y) % 18446744073709551616), .int .u64 ((x + y) / 18446744073709551616)])) w := by
 simpa using Bits.add64 x y 0 hx hy (Int.le_refl 0) (by decide) w
def Bits.sub64Entry : Array Value → Sem Value := fun args => do
 let (x, y, b) ← Extern.MathBitsCarry.three "Sub64" args
 pure (Extern.MathBitsCarry.pair ((x + Extern.MathBitsCarry.m64 - y - b) % Extern.MathBitsCarry.m64) (if x < y + b then 1 else 0))
theorem Bits.run_sub64 (x y b : Nat) (hb : b ≤ 1) (w : World) :
  (Bits.sub64Entry #[.int .u64 x, .int .u64 y, .int .u64 b]).run Tryz.prog w =
   .ok (.tuple #[.int .u64 (((x + 18446744073709551616 - y - b) % 18446744073709551616 : Nat) : Int), .int .u64 ((if x < y + b then 1 else 0 : Nat) : Int)]) w := by
 have : b = 0 ∨ b = 1 := by omega
 rcases this with rfl | rfl <;> rfl
def Bits.bor (x y b : Int) : Int := if x < y + b then 1 else 0
theorem Bits.bor_01 (x y b : Int) : 0 ≤ Bits.bor x y b ∧ Bits.bor x y b ≤ 1 := by unfold Bits.bor; split <;> decide
theorem Bits.sub64 (x y b : Int) (hx : 0 ≤ x) (hy : 0 ≤ y) (hy' : y < 18446744073709551616) (hb0 : 0 ≤ b) (hb : b ≤ 1) (w : World) : (callFunc 128 #[.int .u64 x, .int .u64 y, .int .u64 b]).run Tryz.prog w =
  .ok (.value (.tuple #[.int .u64 ((x - y - b) % 18446744073709551616), .int .u64 (Bits.bor x y b)])) w := by
 obtain ⟨x, rfl⟩ := Int.eq_ofNat_of_zero_le hx
 obtain ⟨y, rfl⟩ := Int.eq_ofNat_of_zero_le hy
 obtain ⟨b, rfl⟩ := Int.eq_ofNat_of_zero_le hb0
 have e1 : (((x + 18446744073709551616 - y - b) % 18446744073709551616 : Nat) : Int) = ((x : Int) - y - b) % 18446744073709551616 := by omega
 have e2 : ((if x < y + b then 1 else 0 : Nat) : Int) = Bits.bor x y b := by unfold Bits.bor; split <;> split <;> omega
 rw [← e1, ← e2, run_callFunc_extern Tryz.func128 (by kernel_rfl) (by kernel_rfl) (by kernel_rfl) (e := Bits.sub64Entry) (by kernel_rfl), Bits.run_sub64 x y b (by omega)]
 rfl
theorem Bits.sub64_0 (x y : Int) (hx : 0 ≤ x) (hy : 0 ≤ y) (hy' : y < 18446744073709551616) (w : World) : (callFunc 128 #[.int .u64 x, .int .u64 y, .int .u64 0]).run Tryz.prog w =
  .ok (.value (.tuple #[.int .u64 ((x - y) % 18446744073709551616), .int .u64 (Bits.bor x y 0)])) w := by
 simpa using Bits.sub64 x y 0 hx hy hy' (Int.le_refl 0) (by decide) w
def Bits.ren : Go.Shelf.Ren := ⟨fun | 264 => 126 | 129 => 131 | 134 => 129 | n => n, fun | 53 => 22 | 46 => 149 | 3 => 3 | 4 => 4 | 5 => 5 | 9 => 9 | n => n, fun | n => n⟩
theorem Bits.lays264 : Lays.n264 Tryz.prog Bits.ren := {
 mixed := by kernel_rfl
 f264 := Tryz.func126.trans (congrArg some (by kernel_rfl))
 t46 := Tryz.underlying149
 a46 := Tryz.isAgg149
 z46 := Tryz.sizeOf149
 v46 := Tryz.zeroValue149
 t53 := Tryz.underlying22
 a53 := Tryz.isAgg22
 z53 := Tryz.sizeOf22
 v53 := Tryz.zeroValue22 }
theorem Bits.lays134 : Lays.n134 Tryz.prog Bits.ren := {
 mixed := by kernel_rfl
 f129 := Tryz.func131.trans (congrArg some (by kernel_rfl))
 f134 := Tryz.func129.trans (congrArg some (by kernel_rfl))
 t3 := Tryz.underlying3
 a3 := Tryz.isAgg3
 z3 := Tryz.sizeOf3
 v3 := Tryz.zeroValue3
 t4 := Tryz.underlying4
 a4 := Tryz.isAgg4
 z4 := Tryz.sizeOf4
 v4 := Tryz.zeroValue4
 t5 := Tryz.underlying5
 a5 := Tryz.isAgg5
 z5 := Tryz.sizeOf5
 v5 := Tryz.zeroValue5
 t9 := Tryz.underlying9
 a9 := Tryz.isAgg9
 z9 := Tryz.sizeOf9
 v9 := Tryz.zeroValue9
 t46 := Tryz.underlying149
 a46 := Tryz.isAgg149
 z46 := Tryz.sizeOf149
 v46 := Tryz.zeroValue149
 t53 := Tryz.underlying22
 a53 := Tryz.isAgg22
 z53 := Tryz.sizeOf22
 v53 := Tryz.zeroValue22 }
theorem Bits.zeros (x : Nat) (h0 : 0 < x) (h1 : x < 18446744073709551616) (w : World) :
  Calls Tryz.prog 129 #[.int .u64 x] w fun e w' => (∃ s : Nat, e = .returned (.int .i64 s) ∧ s ≤ 63 ∧ 9223372036854775808 ≤ x * 2 ^ s ∧ x * 2 ^ s < 18446744073709551616) ∧ w = w' := by
 obtain ⟨b1, b2, b3, b4⟩ := Knuth.shift_of x h0 h1
 refine (Any.bits_LeadingZeros64 Bits.lays134 x w (by omega) (by omega)).mono fun e w' ⟨he, hw⟩ => ⟨⟨64 - Lib.bitLen x, ?_, by omega, b2, b3⟩, hw.symm⟩
 rw [he]
 congr 2
 simp only [Int.toNat_natCast]
 omega
theorem Bits.mul64 (x y : Int) (hx0 : 0 ≤ x) (hx : x < 18446744073709551616) (hy0 : 0 ≤ y) (hy : y < 18446744073709551616) (w : World) :
  Calls Tryz.prog 126 #[.int .u64 x, .int .u64 y] w fun e w' => (∃ h l : Int, e = .returned (.tuple #[.int .u64 h, .int .u64 l]) ∧ h * 18446744073709551616 + l = x * y ∧ 0 ≤ h ∧ h < 18446744073709551616 ∧ 0 ≤ l ∧ l < 18446744073709551616) ∧ w = w' := by
 obtain ⟨x, rfl⟩ := Int.eq_ofNat_of_zero_le hx0
 obtain ⟨y, rfl⟩ := Int.eq_ofNat_of_zero_le hy0
 refine (Any.bits_Mul64 Bits.lays264 x y (by omega) (by omega) w).mono fun e w' ⟨he, hw⟩ => ⟨⟨_, _, he, ?_, ?_, ?_, ?_, ?_⟩, hw.symm⟩
 ·have := Int.natCast_mul x y; omega
 ·omega
 ·have h1 : x * y ≤ 18446744073709551615 * 18446744073709551615 := Nat.mul_le_mul (by omega) (by omega)
  have : x * y / 18446744073709551616 < 18446744073709551616 := by omega
  omega
 ·omega
 ·omega
end Go.Proofs.YtbcepkfdlaioaaaGreat
