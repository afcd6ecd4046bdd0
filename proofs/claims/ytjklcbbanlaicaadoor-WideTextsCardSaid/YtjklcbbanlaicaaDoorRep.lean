/- strings.Repeat of "0", over one translation. -/
import Derived.Test.YtjklcbbanlaicaaDoorTxt
import Derived.Test.YtjklcbbanlaicaaDoorDec
import Derived.Shelf.Strings.Repeat
namespace Go.Proofs.YtjklcbbanlaicaaDoor
open Go.RowKit Go.Shelf Go.Sort Go.Lib

def Tryd.lays105_ren : Go.Shelf.Ren := ⟨fun | 105 => 24 | 212 => 37 | 99 => 38 | 165 => 39 | 166 => 40 | 170 => 41 | 169 => 42 | 263 => 52 | 264 => 27 | 206 => 53 | 240 => 54 | 241 => 55 | 276 => 60 | 277 => 61 | n => n, fun | 9 => 9 | 3 => 3 | 4 => 4 | 20 => 20 | 0 => 0 | 46 => 49 | 109 => 64 | 5 => 5 | 72 => 69 | 76 => 71 | 51 => 81 | 146 => 82 | 53 => 22 | 148 => 50 | 70 => 67 | 37 => 55 | 75 => 62 | 127 => 84 | 164 => 91 | 80 => 36 | n => n, fun | n => n⟩
open Go.Proofs.Tryd in
theorem Tryd.lays105 : Go.Proofs.Lays.n105 Tryd.prog Tryd.lays105_ren := { mixed := by kernel_rfl, f99 := func38.trans (congrArg some (by kernel_rfl)), f105 := func24.trans (congrArg some (by kernel_rfl)), f165 := func39.trans (congrArg some (by kernel_rfl)), f166 := func40.trans (congrArg some (by kernel_rfl)), f169 := func42.trans (congrArg some (by kernel_rfl)), f170 := func41.trans (congrArg some (by kernel_rfl)), f206 := func53.trans (congrArg some (by kernel_rfl)), f212 := func37.trans (congrArg some (by kernel_rfl)), f240 := func54.trans (congrArg some (by kernel_rfl)), f241 := func55.trans (congrArg some (by kernel_rfl)), f263 := func52.trans (congrArg some (by kernel_rfl)), f264 := func27.trans (congrArg some (by kernel_rfl)), f276 := func60.trans (congrArg some (by kernel_rfl)), f277 := func61.trans (congrArg some (by kernel_rfl)), t0 := underlying0, a0 := isAgg0, z0 := sizeOf0, v0 := zeroValue0, t3 := underlying3, a3 := isAgg3, z3 := sizeOf3, v3 := zeroValue3, t4 := underlying4, a4 := isAgg4, z4 := sizeOf4, v4 := zeroValue4, t5 := underlying5, a5 := isAgg5, z5 := sizeOf5, v5 := zeroValue5, t9 := underlying9, a9 := isAgg9, z9 := sizeOf9, v9 := zeroValue9, t20 := underlying20, a20 := isAgg20, z20 := sizeOf20, v20 := zeroValue20, t37 := underlying55, a37 := isAgg55, z37 := sizeOf55, v37 := zeroValue55, t46 := underlying49, a46 := isAgg49, z46 := sizeOf49, v46 := zeroValue49, t51 := underlying81, a51 := isAgg81, z51 := sizeOf81, v51 := zeroValue81, t53 := underlying22, a53 := isAgg22, z53 := sizeOf22, v53 := zeroValue22, t70 := underlying67, a70 := isAgg67, z70 := sizeOf67, v70 := zeroValue67, t72 := underlying69, a72 := isAgg69, z72 := sizeOf69, v72 := zeroValue69, t75 := underlying62, a75 := isAgg62, z75 := sizeOf62, v75 := zeroValue62, t76 := underlying71, a76 := isAgg71, z76 := sizeOf71, v76 := zeroValue71, t109 := underlying64, a109 := isAgg64, z109 := sizeOf64, v109 := zeroValue64, t127 := underlying84, a127 := isAgg84, z127 := sizeOf84, v127 := zeroValue84, t146 := underlying82, a146 := isAgg82, z146 := sizeOf82, v146 := zeroValue82, t148 := underlying50, a148 := isAgg50, z148 := sizeOf50, v148 := zeroValue50, t164 := underlying91, a164 := isAgg91, z164 := sizeOf91, v164 := zeroValue91 }
theorem Tryd.extra105 : Builder.Extra Tryd.prog Tryd.lays105_ren where
  sizeBuilder := by kernel_rfl
  liesBuilder := by kernel_rfl
  t5 := Tryd.underlying5
  a5 := Tryd.isAgg5
  z5 := Tryd.sizeOf5
  v5 := Tryd.zeroValue5
  infoByte := by kernel_rfl
  cellsByte := by kernel_rfl
  sizeByte := by kernel_rfl
  neB5 := by decide

theorem repeat_one (b : UInt8) : ∀ k, Lib.repeatL [b] k = List.replicate k b
  | 0 => rfl
  | k + 1 => by rw [List.replicate_succ, ← repeat_one b k]; rfl

/-- strings.Repeat("0", k). -/
theorem Txt.zeros (k : Nat) (hk : k ≤ 100) (w : World) :
    Calls Tryd.prog 24 #[.string ⟨#[48]⟩, .int .i64 k] w fun e w' => e = .returned (.string ⟨(List.replicate k (48 : UInt8)).toArray⟩) ∧ Below w.heap.size w w' := by
  have h := Any.strings_Repeat Tryd.lays105 Tryd.extra105 ⟨#[48]⟩ k w (by omega) (by rw [show (⟨#[48]⟩ : ByteArray).size = 1 from rfl]; omega)
  rw [show (⟨#[48]⟩ : ByteArray).data.toList = [48] from rfl, repeat_one] at h
  exact h
end Go.Proofs.YtjklcbbanlaicaaDoor
