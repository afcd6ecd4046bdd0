/- strings.Repeat of "0", over one translation. -/
import Derived.Test.YthmilhhihcmdhaaGreatDoorTxt
import Derived.Test.YthmilhhihcmdhaaGreatDoorDec
import Derived.Shelf.Strings.Repeat
namespace Go.Proofs.YthmilhhihcmdhaaGreatDoor
open Go.RowKit Go.Shelf Go.Sort Go.Lib
def Tryz.lays105_ren : Go.Shelf.Ren := ⟨fun | 105 => 104 | 212 => 124 | 99 => 125 | 165 => 126 | 166 => 127 | 170 => 128 | 169 => 129 | 263 => 144 | 264 => 114 | 206 => 145 | 240 => 146 | 241 => 147 | 276 => 162 | 277 => 163 | n => n, fun | 9 => 9 | 3 => 3 | 4 => 4 | 20 => 20 | 0 => 0 | 46 => 126 | 109 => 151 | 5 => 5 | 72 => 157 | 76 => 159 | 51 => 27 | 146 => 172 | 53 => 22 | 148 => 119 | 70 => 154 | 37 => 155 | 75 => 149 | 127 => 174 | 164 => 192 | 80 => 100 | n => n, fun | n => n⟩
open Go.Proofs.Tryz in
theorem Tryz.lays105 : Go.Proofs.Lays.n105 Tryz.prog Tryz.lays105_ren := { mixed := by kernel_rfl, f99 := func125.trans (congrArg some (by kernel_rfl)), f105 := func104.trans (congrArg some (by kernel_rfl)), f165 := func126.trans (congrArg some (by kernel_rfl)), f166 := func127.trans (congrArg some (by kernel_rfl)), f169 := func129.trans (congrArg some (by kernel_rfl)), f170 := func128.trans (congrArg some (by kernel_rfl)), f206 := func145.trans (congrArg some (by kernel_rfl)), f212 := func124.trans (congrArg some (by kernel_rfl)), f240 := func146.trans (congrArg some (by kernel_rfl)), f241 := func147.trans (congrArg some (by kernel_rfl)), f263 := func144.trans (congrArg some (by kernel_rfl)), f264 := func114.trans (congrArg some (by kernel_rfl)), f276 := func162.trans (congrArg some (by kernel_rfl)), f277 := func163.trans (congrArg some (by kernel_rfl)), t0 := underlying0, a0 := isAgg0, z0 := sizeOf0, v0 := zeroValue0, t3 := underlying3, a3 := isAgg3, z3 := sizeOf3, v3 := zeroValue3, t4 := underlying4, a4 := isAgg4, z4 := sizeOf4, v4 := zeroValue4, t5 := underlying5, a5 := isAgg5, z5 := sizeOf5, v5 := zeroValue5, t9 := underlying9, a9 := isAgg9, z9 := sizeOf9, v9 := zeroValue9, t20 := underlying20, a20 := isAgg20, z20 := sizeOf20, v20 := zeroValue20, t37 := underlying155, a37 := isAgg155, z37 := sizeOf155, v37 := zeroValue155, t46 := underlying126, a46 := isAgg126, z46 := sizeOf126, v46 := zeroValue126, t51 := underlying27, a51 := isAgg27, z51 := sizeOf27, v51 := zeroValue27, t53 := underlying22, a53 := isAgg22, z53 := sizeOf22, v53 := zeroValue22, t70 := underlying154, a70 := isAgg154, z70 := sizeOf154, v70 := zeroValue154, t72 := underlying157, a72 := isAgg157, z72 := sizeOf157, v72 := zeroValue157, t75 := underlying149, a75 := isAgg149, z75 := sizeOf149, v75 := zeroValue149, t76 := underlying159, a76 := isAgg159, z76 := sizeOf159, v76 := zeroValue159, t109 := underlying151, a109 := isAgg151, z109 := sizeOf151, v109 := zeroValue151, t127 := underlying174, a127 := isAgg174, z127 := sizeOf174, v127 := zeroValue174, t146 := underlying172, a146 := isAgg172, z146 := sizeOf172, v146 := zeroValue172, t148 := underlying119, a148 := isAgg119, z148 := sizeOf119, v148 := zeroValue119, t164 := underlying192, a164 := isAgg192, z164 := sizeOf192, v164 := zeroValue192 }
theorem Tryz.extra105 : Builder.Extra Tryz.prog Tryz.lays105_ren where
  sizeBuilder := by kernel_rfl
  liesBuilder := by kernel_rfl
  t5 := Tryz.underlying5
  a5 := Tryz.isAgg5
  z5 := Tryz.sizeOf5
  v5 := Tryz.zeroValue5
  infoByte := by kernel_rfl
  cellsByte := by kernel_rfl
  sizeByte := by kernel_rfl
  neB5 := by decide
theorem repeat_one (b : UInt8) : ∀ k, Lib.repeatL [b] k = List.replicate k b
  | 0 => rfl
  | k + 1 => by rw [List.replicate_succ, ← repeat_one b k]; rfl
/-- strings.Repeat("0", k). -/
theorem Txt.zeros (k : Nat) (hk : k ≤ 100) (w : World) :
    Calls Tryz.prog 104 #[.string ⟨#[48]⟩, .int .i64 k] w fun e w' => e = .returned (.string ⟨(List.replicate k (48 : UInt8)).toArray⟩) ∧ Below w.heap.size w w' := by
  have h := Any.strings_Repeat Tryz.lays105 Tryz.extra105 ⟨#[48]⟩ k w (by omega) (by rw [show (⟨#[48]⟩ : ByteArray).size = 1 from rfl]; omega)
  rw [show (⟨#[48]⟩ : ByteArray).data.toList = [48] from rfl, repeat_one] at h
  exact h
end Go.Proofs.YthmilhhihcmdhaaGreatDoor
