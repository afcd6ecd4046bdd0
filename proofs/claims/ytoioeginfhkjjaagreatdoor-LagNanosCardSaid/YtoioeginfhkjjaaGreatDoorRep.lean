/- strings.Repeat of "0", over one translation. -/
import Derived.Test.YtoioeginfhkjjaaGreatDoorTxt
import Derived.Test.YtoioeginfhkjjaaGreatDoorDec
import Derived.Shelf.Strings.Repeat
namespace Go.Proofs.YtoioeginfhkjjaaGreatDoor
open Go.RowKit Go.Shelf Go.Sort Go.Lib

def Tryz.lays105_ren : Go.Shelf.Ren := ⟨fun | 105 => 95 | 212 => 118 | 99 => 119 | 165 => 120 | 166 => 121 | 170 => 122 | 169 => 123 | 263 => 138 | 264 => 98 | 206 => 139 | 240 => 140 | 241 => 141 | 276 => 155 | 277 => 156 | n => n, fun | 9 => 9 | 3 => 3 | 4 => 4 | 20 => 20 | 0 => 0 | 46 => 121 | 109 => 148 | 5 => 5 | 72 => 154 | 76 => 156 | 51 => 27 | 146 => 169 | 53 => 22 | 148 => 117 | 70 => 151 | 37 => 152 | 75 => 146 | 127 => 171 | 164 => 188 | 80 => 96 | n => n, fun | n => n⟩
open Go.Proofs.Tryz in
theorem Tryz.lays105 : Go.Proofs.Lays.n105 Tryz.prog Tryz.lays105_ren := { mixed := by kernel_rfl, f99 := func119.trans (congrArg some (by kernel_rfl)), f105 := func95.trans (congrArg some (by kernel_rfl)), f165 := func120.trans (congrArg some (by kernel_rfl)), f166 := func121.trans (congrArg some (by kernel_rfl)), f169 := func123.trans (congrArg some (by kernel_rfl)), f170 := func122.trans (congrArg some (by kernel_rfl)), f206 := func139.trans (congrArg some (by kernel_rfl)), f212 := func118.trans (congrArg some (by kernel_rfl)), f240 := func140.trans (congrArg some (by kernel_rfl)), f241 := func141.trans (congrArg some (by kernel_rfl)), f263 := func138.trans (congrArg some (by kernel_rfl)), f264 := func98.trans (congrArg some (by kernel_rfl)), f276 := func155.trans (congrArg some (by kernel_rfl)), f277 := func156.trans (congrArg some (by kernel_rfl)), t0 := underlying0, a0 := isAgg0, z0 := sizeOf0, v0 := zeroValue0, t3 := underlying3, a3 := isAgg3, z3 := sizeOf3, v3 := zeroValue3, t4 := underlying4, a4 := isAgg4, z4 := sizeOf4, v4 := zeroValue4, t5 := underlying5, a5 := isAgg5, z5 := sizeOf5, v5 := zeroValue5, t9 := underlying9, a9 := isAgg9, z9 := sizeOf9, v9 := zeroValue9, t20 := underlying20, a20 := isAgg20, z20 := sizeOf20, v20 := zeroValue20, t37 := underlying152, a37 := isAgg152, z37 := sizeOf152, v37 := zeroValue152, t46 := underlying121, a46 := isAgg121, z46 := sizeOf121, v46 := zeroValue121, t51 := underlying27, a51 := isAgg27, z51 := sizeOf27, v51 := zeroValue27, t53 := underlying22, a53 := isAgg22, z53 := sizeOf22, v53 := zeroValue22, t70 := underlying151, a70 := isAgg151, z70 := sizeOf151, v70 := zeroValue151, t72 := underlying154, a72 := isAgg154, z72 := sizeOf154, v72 := zeroValue154, t75 := underlying146, a75 := isAgg146, z75 := sizeOf146, v75 := zeroValue146, t76 := underlying156, a76 := isAgg156, z76 := sizeOf156, v76 := zeroValue156, t109 := underlying148, a109 := isAgg148, z109 := sizeOf148, v109 := zeroValue148, t127 := underlying171, a127 := isAgg171, z127 := sizeOf171, v127 := zeroValue171, t146 := underlying169, a146 := isAgg169, z146 := sizeOf169, v146 := zeroValue169, t148 := underlying117, a148 := isAgg117, z148 := sizeOf117, v148 := zeroValue117, t164 := underlying188, a164 := isAgg188, z164 := sizeOf188, v164 := zeroValue188 }
theorem Tryz.extra105 : Builder.Extra Tryz.prog Tryz.lays105_ren where
  sizeBuilder := by kernel_rfl
  liesBuilder := by kernel_rfl
  t5 := Tryz.underlying5
  a5 := Tryz.isAgg5
  z5 := Tryz.sizeOf5
  v5 := Tryz.zeroValue5
  infoByte := by kernel_rfl
  cellsByte := by kernel_rfl
  sizeByte := by kernel_rfl
  neB5 := by decide

theorem repeat_one (b : UInt8) : ∀ k, Lib.repeatL [b] k = List.replicate k b
  | 0 => rfl
  | k + 1 => by rw [List.replicate_succ, ← repeat_one b k]; rfl

/-- strings.Repeat("0", k). -/
theorem Txt.zeros (k : Nat) (hk : k ≤ 100) (w : World) :
    Calls Tryz.prog 95 #[.string ⟨#[48]⟩, .int .i64 k] w fun e w' => e = .returned (.string ⟨(List.replicate k (48 : UInt8)).toArray⟩) ∧ Below w.heap.size w w' := by
  have h := Any.strings_Repeat Tryz.lays105 Tryz.extra105 ⟨#[48]⟩ k w (by omega) (by rw [show (⟨#[48]⟩ : ByteArray).size = 1 from rfl]; omega)
  rw [show (⟨#[48]⟩ : ByteArray).data.toList = [48] from rfl, repeat_one] at h
  exact h
end Go.Proofs.YtoioeginfhkjjaaGreatDoor
