import Derived.Test.YtjndmmcjobbcbaaGreatDoorTxt
import Derived.Test.YtjndmmcjobbcbaaGreatDoorDec
import Derived.Shelf.Strings.Repeat
namespace Go.Proofs.YtjndmmcjobbcbaaGreatDoor
open Go.RowKit Go.Shelf Go.Sort Go.Lib
def Tryz.lays105_ren : Go.Shelf.Ren := ⟨fun | 105 => 273 | 212 => 279 | 99 => 280 | 165 => 281 | 166 => 282 | 170 => 283 | 169 => 284 | 263 => 291 | 264 => 219 | 206 => 292 | 240 => 293 | 241 => 294 | 276 => 305 | 277 => 306 | n => n, fun | 9 => 9 | 3 => 3 | 4 => 4 | 20 => 20 | 0 => 0 | 46 => 268 | 109 => 322 | 5 => 5 | 72 => 327 | 76 => 329 | 51 => 25 | 146 => 336 | 53 => 22 | 148 => 206 | 70 => 325 | 37 => 114 | 75 => 280 | 127 => 338 | 164 => 347 | 80 => 318 | n => n, fun | n => n⟩
open Go.Proofs.Tryz in
theorem Tryz.lays105 : Go.Proofs.Lays.n105 Tryz.prog Tryz.lays105_ren := { mixed := by kernel_rfl, f99 := func280.trans (congrArg some (by kernel_rfl)), f105 := func273.trans (congrArg some (by kernel_rfl)), f165 := func281.trans (congrArg some (by kernel_rfl)), f166 := func282.trans (congrArg some (by kernel_rfl)), f169 := func284.trans (congrArg some (by kernel_rfl)), f170 := func283.trans (congrArg some (by kernel_rfl)), f206 := func292.trans (congrArg some (by kernel_rfl)), f212 := func279.trans (congrArg some (by kernel_rfl)), f240 := func293.trans (congrArg some (by kernel_rfl)), f241 := func294.trans (congrArg some (by kernel_rfl)), f263 := func291.trans (congrArg some (by kernel_rfl)), f264 := func219.trans (congrArg some (by kernel_rfl)), f276 := func305.trans (congrArg some (by kernel_rfl)), f277 := func306.trans (congrArg some (by kernel_rfl)), t0 := underlying0, a0 := isAgg0, z0 := sizeOf0, v0 := zeroValue0, t3 := underlying3, a3 := isAgg3, z3 := sizeOf3, v3 := zeroValue3, t4 := underlying4, a4 := isAgg4, z4 := sizeOf4, v4 := zeroValue4, t5 := underlying5, a5 := isAgg5, z5 := sizeOf5, v5 := zeroValue5, t9 := underlying9, a9 := isAgg9, z9 := sizeOf9, v9 := zeroValue9, t20 := underlying20, a20 := isAgg20, z20 := sizeOf20, v20 := zeroValue20, t37 := underlying114, a37 := isAgg114, z37 := sizeOf114, v37 := zeroValue114, t46 := underlying268, a46 := isAgg268, z46 := sizeOf268, v46 := zeroValue268, t51 := underlying25, a51 := isAgg25, z51 := sizeOf25, v51 := zeroValue25, t53 := underlying22, a53 := isAgg22, z53 := sizeOf22, v53 := zeroValue22, t70 := underlying325, a70 := isAgg325, z70 := sizeOf325, v70 := zeroValue325, t72 := underlying327, a72 := isAgg327, z72 := sizeOf327, v72 := zeroValue327, t75 := underlying280, a75 := isAgg280, z75 := sizeOf280, v75 := zeroValue280, t76 := underlying329, a76 := isAgg329, z76 := sizeOf329, v76 := zeroValue329, t109 := underlying322, a109 := isAgg322, z109 := sizeOf322, v109 := zeroValue322, t127 := underlying338, a127 := isAgg338, z127 := sizeOf338, v127 := zeroValue338, t146 := underlying336, a146 := isAgg336, z146 := sizeOf336, v146 := zeroValue336, t148 := underlying206, a148 := isAgg206, z148 := sizeOf206, v148 := zeroValue206, t164 := underlying347, a164 := isAgg347, z164 := sizeOf347, v164 := zeroValue347 }
theorem Tryz.extra105 : Builder.Extra Tryz.prog Tryz.lays105_ren where
  sizeBuilder := by kernel_rfl
  liesBuilder := by kernel_rfl
  t5 := Tryz.underlying5
  a5 := Tryz.isAgg5
  z5 := Tryz.sizeOf5
  v5 := Tryz.zeroValue5
  infoByte := by kernel_rfl
  cellsByte := by kernel_rfl
  sizeByte := by kernel_rfl
  neB5 := by decide
theorem repeat_one (b : UInt8) : ∀ k, Lib.repeatL [b] k = List.replicate k b
  | 0 => rfl
  | k + 1 => by rw [List.replicate_succ, ← repeat_one b k]; rfl
theorem Txt.zeros (k : Nat) (hk : k ≤ 100) (w : World) :
    Calls Tryz.prog 273 #[.string ⟨#[48]⟩, .int .i64 k] w fun e w' => e = .returned (.string ⟨(List.replicate k (48 : UInt8)).toArray⟩) ∧ Below w.heap.size w w' := by
  have h := Any.strings_Repeat Tryz.lays105 Tryz.extra105 ⟨#[48]⟩ k w (by omega) (by rw [show (⟨#[48]⟩ : ByteArray).size = 1 from rfl]; omega)
  rw [show (⟨#[48]⟩ : ByteArray).data.toList = [48] from rfl, repeat_one] at h
  exact h
end Go.Proofs.YtjndmmcjobbcbaaGreatDoor
