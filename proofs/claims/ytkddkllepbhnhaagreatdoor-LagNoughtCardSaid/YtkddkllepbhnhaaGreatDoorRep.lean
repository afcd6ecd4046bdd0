/- strings.Repeat of "0", over one translation. -/
import Derived.Test.YtkddkllepbhnhaaGreatDoorTxt
import Derived.Test.YtkddkllepbhnhaaGreatDoorDec
import Derived.Shelf.Strings.Repeat
namespace Go.Proofs.YtkddkllepbhnhaaGreatDoor
open Go.RowKit Go.Shelf Go.Sort Go.Lib
def Tryz.lays105_ren : Go.Shelf.Ren := ⟨fun | 105 => 131 | 212 => 166 | 99 => 167 | 165 => 168 | 166 => 169 | 170 => 170 | 169 => 171 | 263 => 191 | 264 => 172 | 206 => 192 | 240 => 193 | 241 => 194 | 276 => 215 | 277 => 216 | n => n, fun | 9 => 9 | 3 => 3 | 4 => 4 | 20 => 20 | 0 => 0 | 46 => 173 | 109 => 201 | 5 => 5 | 72 => 207 | 76 => 209 | 51 => 27 | 146 => 227 | 53 => 22 | 148 => 166 | 70 => 204 | 37 => 205 | 75 => 199 | 127 => 229 | 164 => 243 | 80 => 117 | n => n, fun | n => n⟩
open Go.Proofs.Tryz in
theorem Tryz.lays105 : Go.Proofs.Lays.n105 Tryz.prog Tryz.lays105_ren := { mixed := by kernel_rfl, f99 := func167.trans (congrArg some (by kernel_rfl)), f105 := func131.trans (congrArg some (by kernel_rfl)), f165 := func168.trans (congrArg some (by kernel_rfl)), f166 := func169.trans (congrArg some (by kernel_rfl)), f169 := func171.trans (congrArg some (by kernel_rfl)), f170 := func170.trans (congrArg some (by kernel_rfl)), f206 := func192.trans (congrArg some (by kernel_rfl)), f212 := func166.trans (congrArg some (by kernel_rfl)), f240 := func193.trans (congrArg some (by kernel_rfl)), f241 := func194.trans (congrArg some (by kernel_rfl)), f263 := func191.trans (congrArg some (by kernel_rfl)), f264 := func172.trans (congrArg some (by kernel_rfl)), f276 := func215.trans (congrArg some (by kernel_rfl)), f277 := func216.trans (congrArg some (by kernel_rfl)), t0 := underlying0, a0 := isAgg0, z0 := sizeOf0, v0 := zeroValue0, t3 := underlying3, a3 := isAgg3, z3 := sizeOf3, v3 := zeroValue3, t4 := underlying4, a4 := isAgg4, z4 := sizeOf4, v4 := zeroValue4, t5 := underlying5, a5 := isAgg5, z5 := sizeOf5, v5 := zeroValue5, t9 := underlying9, a9 := isAgg9, z9 := sizeOf9, v9 := zeroValue9, t20 := underlying20, a20 := isAgg20, z20 := sizeOf20, v20 := zeroValue20, t37 := underlying205, a37 := isAgg205, z37 := sizeOf205, v37 := zeroValue205, t46 := underlying173, a46 := isAgg173, z46 := sizeOf173, v46 := zeroValue173, t51 := underlying27, a51 := isAgg27, z51 := sizeOf27, v51 := zeroValue27, t53 := underlying22, a53 := isAgg22, z53 := sizeOf22, v53 := zeroValue22, t70 := underlying204, a70 := isAgg204, z70 := sizeOf204, v70 := zeroValue204, t72 := underlying207, a72 := isAgg207, z72 := sizeOf207, v72 := zeroValue207, t75 := underlying199, a75 := isAgg199, z75 := sizeOf199, v75 := zeroValue199, t76 := underlying209, a76 := isAgg209, z76 := sizeOf209, v76 := zeroValue209, t109 := underlying201, a109 := isAgg201, z109 := sizeOf201, v109 := zeroValue201, t127 := underlying229, a127 := isAgg229, z127 := sizeOf229, v127 := zeroValue229, t146 := underlying227, a146 := isAgg227, z146 := sizeOf227, v146 := zeroValue227, t148 := underlying166, a148 := isAgg166, z148 := sizeOf166, v148 := zeroValue166, t164 := underlying243, a164 := isAgg243, z164 := sizeOf243, v164 := zeroValue243 }
theorem Tryz.extra105 : Builder.Extra Tryz.prog Tryz.lays105_ren where
  sizeBuilder := by kernel_rfl
  liesBuilder := by kernel_rfl
  t5 := Tryz.underlying5
  a5 := Tryz.isAgg5
  z5 := Tryz.sizeOf5
  v5 := Tryz.zeroValue5
  infoByte := by kernel_rfl
  cellsByte := by kernel_rfl
  sizeByte := by kernel_rfl
  neB5 := by decide
theorem repeat_one (b : UInt8) : ∀ k, Lib.repeatL [b] k = List.replicate k b
  | 0 => rfl
  | k + 1 => by rw [List.replicate_succ, ← repeat_one b k]; rfl
/-- strings.Repeat("0", k). -/
theorem Txt.zeros (k : Nat) (hk : k ≤ 100) (w : World) :
    Calls Tryz.prog 131 #[.string ⟨#[48]⟩, .int .i64 k] w fun e w' => e = .returned (.string ⟨(List.replicate k (48 : UInt8)).toArray⟩) ∧ Below w.heap.size w w' := by
  have h := Any.strings_Repeat Tryz.lays105 Tryz.extra105 ⟨#[48]⟩ k w (by omega) (by rw [show (⟨#[48]⟩ : ByteArray).size = 1 from rfl]; omega)
  rw [show (⟨#[48]⟩ : ByteArray).data.toList = [48] from rfl, repeat_one] at h
  exact h
end Go.Proofs.YtkddkllepbhnhaaGreatDoor
