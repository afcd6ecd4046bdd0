/- strings.Repeat of "0", over one translation. -/
import Derived.Test.YtegohmeapamoaaaGreatDoorTxt
import Derived.Test.YtegohmeapamoaaaGreatDoorDec
import Derived.Shelf.Strings.Repeat
namespace Go.Proofs.YtegohmeapamoaaaGreatDoor
open Go.RowKit Go.Shelf Go.Sort Go.Lib
def Tryz.lays105_ren : Go.Shelf.Ren := ⟨fun | 105 => 290 | 212 => 296 | 99 => 297 | 165 => 298 | 166 => 299 | 170 => 300 | 169 => 301 | 263 => 308 | 264 => 214 | 206 => 309 | 240 => 310 | 241 => 311 | 276 => 321 | 277 => 322 | n => n, fun | 9 => 9 | 3 => 3 | 4 => 4 | 20 => 20 | 0 => 0 | 46 => 138 | 109 => 319 | 5 => 5 | 72 => 324 | 76 => 326 | 51 => 58 | 146 => 333 | 53 => 22 | 148 => 259 | 70 => 322 | 37 => 149 | 75 => 295 | 127 => 335 | 164 => 343 | 80 => 315 | n => n, fun | n => n⟩
theorem Tryz.lays105 : Go.Proofs.Lays.n105 Tryz.prog Tryz.lays105_ren := open Go.Proofs.Tryz in { mixed := by kernel_rfl, f99 := func297.trans (congrArg some (by kernel_rfl)), f105 := func290.trans (congrArg some (by kernel_rfl)), f165 := func298.trans (congrArg some (by kernel_rfl)), f166 := func299.trans (congrArg some (by kernel_rfl)), f169 := func301.trans (congrArg some (by kernel_rfl)), f170 := func300.trans (congrArg some (by kernel_rfl)), f206 := func309.trans (congrArg some (by kernel_rfl)), f212 := func296.trans (congrArg some (by kernel_rfl)), f240 := func310.trans (congrArg some (by kernel_rfl)), f241 := func311.trans (congrArg some (by kernel_rfl)), f263 := func308.trans (congrArg some (by kernel_rfl)), f264 := func214.trans (congrArg some (by kernel_rfl)), f276 := func321.trans (congrArg some (by kernel_rfl)), f277 := func322.trans (congrArg some (by kernel_rfl)), t0 := underlying0, a0 := isAgg0, z0 := sizeOf0, v0 := zeroValue0, t3 := underlying3, a3 := isAgg3, z3 := sizeOf3, v3 := zeroValue3, t4 := underlying4, a4 := isAgg4, z4 := sizeOf4, v4 := zeroValue4, t5 := underlying5, a5 := isAgg5, z5 := sizeOf5, v5 := zeroValue5, t9 := underlying9, a9 := isAgg9, z9 := sizeOf9, v9 := zeroValue9, t20 := underlying20, a20 := isAgg20, z20 := sizeOf20, v20 := zeroValue20, t37 := underlying149, a37 := isAgg149, z37 := sizeOf149, v37 := zeroValue149, t46 := underlying138, a46 := isAgg138, z46 := sizeOf138, v46 := zeroValue138, t51 := underlying58, a51 := isAgg58, z51 := sizeOf58, v51 := zeroValue58, t53 := underlying22, a53 := isAgg22, z53 := sizeOf22, v53 := zeroValue22, t70 := underlying322, a70 := isAgg322, z70 := sizeOf322, v70 := zeroValue322, t72 := underlying324, a72 := isAgg324, z72 := sizeOf324, v72 := zeroValue324, t75 := underlying295, a75 := isAgg295, z75 := sizeOf295, v75 := zeroValue295, t76 := underlying326, a76 := isAgg326, z76 := sizeOf326, v76 := zeroValue326, t109 := underlying319, a109 := isAgg319, z109 := sizeOf319, v109 := zeroValue319, t127 := underlying335, a127 := isAgg335, z127 := sizeOf335, v127 := zeroValue335, t146 := underlying333, a146 := isAgg333, z146 := sizeOf333, v146 := zeroValue333, t148 := underlying259, a148 := isAgg259, z148 := sizeOf259, v148 := zeroValue259, t164 := underlying343, a164 := isAgg343, z164 := sizeOf343, v164 := zeroValue343 }
theorem Tryz.extra105 : Builder.Extra Tryz.prog Tryz.lays105_ren where
  sizeBuilder := by kernel_rfl
  liesBuilder := by kernel_rfl
  t5 := Tryz.underlying5
  a5 := Tryz.isAgg5
  z5 := Tryz.sizeOf5
  v5 := Tryz.zeroValue5
  infoByte := by kernel_rfl
  cellsByte := by kernel_rfl
  sizeByte := by kernel_rfl
  neB5 := by decide
theorem repeat_one (b : UInt8) : ∀ k, Lib.repeatL [b] k = List.replicate k b
  | 0 => rfl
  | k + 1 => by rw [List.replicate_succ, ← repeat_one b k]; rfl
/-- strings.Repeat("0", k). -/
theorem Txt.zeros (k : Nat) (hk : k ≤ 100) (w : World) :
    Calls Tryz.prog 290 #[.string ⟨#[48]⟩, .int .i64 k] w fun e w' => e = .returned (.string ⟨(List.replicate k (48 : UInt8)).toArray⟩) ∧ Below w.heap.size w w' := by
  have h := Any.strings_Repeat Tryz.lays105 Tryz.extra105 ⟨#[48]⟩ k w (by omega) (by rw [show (⟨#[48]⟩ : ByteArray).size = 1 from rfl]; omega)
  rw [show (⟨#[48]⟩ : ByteArray).data.toList = [48] from rfl, repeat_one] at h
  exact h
end Go.Proofs.YtegohmeapamoaaaGreatDoor
