import Derived.Test.YtdkfpmlamfeenaaGreatDoorTxt
import Derived.Test.YtdkfpmlamfeenaaGreatDoorDec
import Derived.Shelf.Strings.Repeat
namespace Go.Proofs.YtdkfpmlamfeenaaGreatDoor
open Go.RowKit Go.Shelf Go.Sort Go.Lib
def Tryz.lays105_ren : Go.Shelf.Ren := ⟨fun | 105 => 134 | 212 => 140 | 99 => 141 | 165 => 142 | 166 => 143 | 170 => 144 | 169 => 145 | 263 => 152 | 264 => 103 | 206 => 153 | 240 => 154 | 241 => 155 | 276 => 166 | 277 => 167 | n => n, fun | 9 => 9 | 3 => 3 | 4 => 4 | 20 => 20 | 0 => 0 | 46 => 136 | 109 => 156 | 5 => 5 | 72 => 162 | 76 => 164 | 51 => 28 | 146 => 171 | 53 => 22 | 148 => 118 | 70 => 159 | 37 => 160 | 75 => 135 | 127 => 173 | 164 => 185 | 80 => 152 | n => n, fun | n => n⟩
open Go.Proofs.Tryz in
theorem Tryz.lays105 : Go.Proofs.Lays.n105 Tryz.prog Tryz.lays105_ren := { mixed := by kernel_rfl, f99 := func141.trans (congrArg some (by kernel_rfl)), f105 := func134.trans (congrArg some (by kernel_rfl)), f165 := func142.trans (congrArg some (by kernel_rfl)), f166 := func143.trans (congrArg some (by kernel_rfl)), f169 := func145.trans (congrArg some (by kernel_rfl)), f170 := func144.trans (congrArg some (by kernel_rfl)), f206 := func153.trans (congrArg some (by kernel_rfl)), f212 := func140.trans (congrArg some (by kernel_rfl)), f240 := func154.trans (congrArg some (by kernel_rfl)), f241 := func155.trans (congrArg some (by kernel_rfl)), f263 := func152.trans (congrArg some (by kernel_rfl)), f264 := func103.trans (congrArg some (by kernel_rfl)), f276 := func166.trans (congrArg some (by kernel_rfl)), f277 := func167.trans (congrArg some (by kernel_rfl)), t0 := underlying0, a0 := isAgg0, z0 := sizeOf0, v0 := zeroValue0, t3 := underlying3, a3 := isAgg3, z3 := sizeOf3, v3 := zeroValue3, t4 := underlying4, a4 := isAgg4, z4 := sizeOf4, v4 := zeroValue4, t5 := underlying5, a5 := isAgg5, z5 := sizeOf5, v5 := zeroValue5, t9 := underlying9, a9 := isAgg9, z9 := sizeOf9, v9 := zeroValue9, t20 := underlying20, a20 := isAgg20, z20 := sizeOf20, v20 := zeroValue20, t37 := underlying160, a37 := isAgg160, z37 := sizeOf160, v37 := zeroValue160, t46 := underlying136, a46 := isAgg136, z46 := sizeOf136, v46 := zeroValue136, t51 := underlying28, a51 := isAgg28, z51 := sizeOf28, v51 := zeroValue28, t53 := underlying22, a53 := isAgg22, z53 := sizeOf22, v53 := zeroValue22, t70 := underlying159, a70 := isAgg159, z70 := sizeOf159, v70 := zeroValue159, t72 := underlying162, a72 := isAgg162, z72 := sizeOf162, v72 := zeroValue162, t75 := underlying135, a75 := isAgg135, z75 := sizeOf135, v75 := zeroValue135, t76 := underlying164, a76 := isAgg164, z76 := sizeOf164, v76 := zeroValue164, t109 := underlying156, a109 := isAgg156, z109 := sizeOf156, v109 := zeroValue156, t127 := underlying173, a127 := isAgg173, z127 := sizeOf173, v127 := zeroValue173, t146 := underlying171, a146 := isAgg171, z146 := sizeOf171, v146 := zeroValue171, t148 := underlying118, a148 := isAgg118, z148 := sizeOf118, v148 := zeroValue118, t164 := underlying185, a164 := isAgg185, z164 := sizeOf185, v164 := zeroValue185 }
theorem Tryz.extra105 : Builder.Extra Tryz.prog Tryz.lays105_ren where
  sizeBuilder := by kernel_rfl
  liesBuilder := by kernel_rfl
  t5 := Tryz.underlying5
  a5 := Tryz.isAgg5
  z5 := Tryz.sizeOf5
  v5 := Tryz.zeroValue5
  infoByte := by kernel_rfl
  cellsByte := by kernel_rfl
  sizeByte := by kernel_rfl
  neB5 := by decide
theorem repeat_one (b : UInt8) : ∀ k, Lib.repeatL [b] k = List.replicate k b
  | 0 => rfl
  | k + 1 => by rw [List.replicate_succ, ← repeat_one b k]; rfl
theorem Txt.zeros (k : Nat) (hk : k ≤ 100) (w : World) :
    Calls Tryz.prog 134 #[.string ⟨#[48]⟩, .int .i64 k] w fun e w' => e = .returned (.string ⟨(List.replicate k (48 : UInt8)).toArray⟩) ∧ Below w.heap.size w w' := by
  have h := Any.strings_Repeat Tryz.lays105 Tryz.extra105 ⟨#[48]⟩ k w (by omega) (by rw [show (⟨#[48]⟩ : ByteArray).size = 1 from rfl]; omega)
  rw [show (⟨#[48]⟩ : ByteArray).data.toList = [48] from rfl, repeat_one] at h
  exact h
end Go.Proofs.YtdkfpmlamfeenaaGreatDoor
