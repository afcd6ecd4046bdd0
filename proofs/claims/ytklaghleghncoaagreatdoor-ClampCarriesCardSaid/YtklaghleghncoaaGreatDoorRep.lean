/- strings.Repeat of "0", over one translation. -/
import Derived.Test.YtklaghleghncoaaGreatDoorTxt
import Derived.Test.YtklaghleghncoaaGreatDoorDec
import Derived.Shelf.Strings.Repeat
namespace Go.Proofs.YtklaghleghncoaaGreatDoor
open Go.RowKit Go.Shelf Go.Sort Go.Lib
def Tryz.lays105_ren : Go.Shelf.Ren := ⟨fun | 105 => 102 | 212 => 143 | 99 => 144 | 165 => 145 | 166 => 146 | 170 => 147 | 169 => 148 | 263 => 171 | 264 => 149 | 206 => 172 | 240 => 173 | 241 => 174 | 276 => 198 | 277 => 199 | n => n, fun | 9 => 9 | 3 => 3 | 4 => 4 | 20 => 20 | 0 => 0 | 46 => 153 | 109 => 179 | 5 => 5 | 72 => 185 | 76 => 187 | 51 => 27 | 146 => 207 | 53 => 22 | 148 => 141 | 70 => 182 | 37 => 183 | 75 => 177 | 127 => 209 | 164 => 224 | 80 => 94 | n => n, fun | n => n⟩
open Go.Proofs.Tryz in
theorem Tryz.lays105 : Go.Proofs.Lays.n105 Tryz.prog Tryz.lays105_ren := { mixed := by kernel_rfl, f99 := func144.trans (congrArg some (by kernel_rfl)), f105 := func102.trans (congrArg some (by kernel_rfl)), f165 := func145.trans (congrArg some (by kernel_rfl)), f166 := func146.trans (congrArg some (by kernel_rfl)), f169 := func148.trans (congrArg some (by kernel_rfl)), f170 := func147.trans (congrArg some (by kernel_rfl)), f206 := func172.trans (congrArg some (by kernel_rfl)), f212 := func143.trans (congrArg some (by kernel_rfl)), f240 := func173.trans (congrArg some (by kernel_rfl)), f241 := func174.trans (congrArg some (by kernel_rfl)), f263 := func171.trans (congrArg some (by kernel_rfl)), f264 := func149.trans (congrArg some (by kernel_rfl)), f276 := func198.trans (congrArg some (by kernel_rfl)), f277 := func199.trans (congrArg some (by kernel_rfl)), t0 := underlying0, a0 := isAgg0, z0 := sizeOf0, v0 := zeroValue0, t3 := underlying3, a3 := isAgg3, z3 := sizeOf3, v3 := zeroValue3, t4 := underlying4, a4 := isAgg4, z4 := sizeOf4, v4 := zeroValue4, t5 := underlying5, a5 := isAgg5, z5 := sizeOf5, v5 := zeroValue5, t9 := underlying9, a9 := isAgg9, z9 := sizeOf9, v9 := zeroValue9, t20 := underlying20, a20 := isAgg20, z20 := sizeOf20, v20 := zeroValue20, t37 := underlying183, a37 := isAgg183, z37 := sizeOf183, v37 := zeroValue183, t46 := underlying153, a46 := isAgg153, z46 := sizeOf153, v46 := zeroValue153, t51 := underlying27, a51 := isAgg27, z51 := sizeOf27, v51 := zeroValue27, t53 := underlying22, a53 := isAgg22, z53 := sizeOf22, v53 := zeroValue22, t70 := underlying182, a70 := isAgg182, z70 := sizeOf182, v70 := zeroValue182, t72 := underlying185, a72 := isAgg185, z72 := sizeOf185, v72 := zeroValue185, t75 := underlying177, a75 := isAgg177, z75 := sizeOf177, v75 := zeroValue177, t76 := underlying187, a76 := isAgg187, z76 := sizeOf187, v76 := zeroValue187, t109 := underlying179, a109 := isAgg179, z109 := sizeOf179, v109 := zeroValue179, t127 := underlying209, a127 := isAgg209, z127 := sizeOf209, v127 := zeroValue209, t146 := underlying207, a146 := isAgg207, z146 := sizeOf207, v146 := zeroValue207, t148 := underlying141, a148 := isAgg141, z148 := sizeOf141, v148 := zeroValue141, t164 := underlying224, a164 := isAgg224, z164 := sizeOf224, v164 := zeroValue224 }
theorem Tryz.extra105 : Builder.Extra Tryz.prog Tryz.lays105_ren where
  sizeBuilder := by kernel_rfl
  liesBuilder := by kernel_rfl
  t5 := Tryz.underlying5
  a5 := Tryz.isAgg5
  z5 := Tryz.sizeOf5
  v5 := Tryz.zeroValue5
  infoByte := by kernel_rfl
  cellsByte := by kernel_rfl
  sizeByte := by kernel_rfl
  neB5 := by decide
theorem repeat_one (b : UInt8) : ∀ k, Lib.repeatL [b] k = List.replicate k b
  | 0 => rfl
  | k + 1 => by rw [List.replicate_succ, ← repeat_one b k]; rfl
/-- strings.Repeat("0", k). -/
theorem Txt.zeros (k : Nat) (hk : k ≤ 100) (w : World) :
    Calls Tryz.prog 102 #[.string ⟨#[48]⟩, .int .i64 k] w fun e w' => e = .returned (.string ⟨(List.replicate k (48 : UInt8)).toArray⟩) ∧ Below w.heap.size w w' := by
  have h := Any.strings_Repeat Tryz.lays105 Tryz.extra105 ⟨#[48]⟩ k w (by omega) (by rw [show (⟨#[48]⟩ : ByteArray).size = 1 from rfl]; omega)
  rw [show (⟨#[48]⟩ : ByteArray).data.toList = [48] from rfl, repeat_one] at h
  exact h
end Go.Proofs.YtklaghleghncoaaGreatDoor
