import Derived.Test.YtnmbfjgcmfjdcaaGreatDoorKnuth
import Derived.Test.YtnmbfjgcmfjdcaaGreatDoorRows
import Derived.WalkKit
import Derived.WalkSpells
import Derived.Shelf.Bits.Mul64
import Derived.Shelf.Small.Bits
namespace Go.Proofs.YtnmbfjgcmfjdcaaGreatDoor
open Go.RowKit Go.Shelf
theorem Bits.TQ (x y c:Int) (hx:0≤x) (hy:0≤y) (hc0:0≤c) (hc:c≤1) (w:World):(callFunc 100 #[.int .u64 x, .int .u64 y, .int .u64 c]).run Tryz.prog w=
  .ok (.value (.tuple #[.int .u64 ((x+y+c)%18446744073709551616), .int .u64 ((x+y+c)/18446744073709551616)])) w:=by
 rw[run_callFunc_extern Tryz.func100 ae ae ae (e:=add64Entry) ae,run_add64 x y c hx hy hc0 hc];rfl
theorem Bits.EA (x y:Int) (hx:0≤x) (hy:0≤y) (w:World):(callFunc 100 #[.int .u64 x, .int .u64 y, .int .u64 0]).run Tryz.prog w=
  .ok (.value (.tuple #[.int .u64 ((x+y)%18446744073709551616), .int .u64 ((x+y)/18446744073709551616)])) w:=by
 simpa using Bits.TQ x y 0 hx hy (Int.le_refl 0) ak w
def Bits.sub64Entry:Array Value→Sem Value:=fun args=>do
 let (x,y,b) ←Extern.MathBitsCarry.three "Sub64" args
 pure (Extern.MathBitsCarry.pair ((x+Extern.MathBitsCarry.m64-y-b)%Extern.MathBitsCarry.m64) (if x<y+b then 1 else 0))
theorem Bits.run_sub64 (x y b:Nat) (hb:b≤1) (w:World):
  (Bits.sub64Entry #[.int .u64 x, .int .u64 y, .int .u64 b]).run Tryz.prog w=
   .ok (.tuple #[.int .u64 (((x+18446744073709551616-y-b)%18446744073709551616:Nat):Int), .int .u64 ((if x<y+b then 1 else 0:Nat):Int)]) w:=by
 have:b=0∨b=1:=af;rcases this with rfl|rfl<;>rfl
def Bits.uT (x y b:Int):Int:=if x<y+b then 1 else 0
theorem Bits.Jm (x y b:Int):0≤Bits.uT x y b∧Bits.uT x y b≤1:=by unfold Bits.uT;split<;>decide
theorem Bits.Gg (x y b:Int) (hx:0≤x) (hy:0≤y) (hy':y<18446744073709551616) (hb0:0≤b) (hb:b≤1) (w:World):(callFunc 144 #[.int .u64 x, .int .u64 y, .int .u64 b]).run Tryz.prog w=
  .ok (.value (.tuple #[.int .u64 ((x-y-b)%18446744073709551616), .int .u64 (Bits.uT x y b)])) w:=by
 obtain⟨x,rfl⟩:=Int.eq_ofNat_of_zero_le hx;obtain⟨y,rfl⟩:=Int.eq_ofNat_of_zero_le hy;obtain⟨b,rfl⟩:=Int.eq_ofNat_of_zero_le hb0;have e1:(((x+18446744073709551616-y-b)%18446744073709551616:Nat):Int)=((x:Int)-y-b)%18446744073709551616:=af;have e2:((if x<y+b then 1 else 0:Nat):Int)=Bits.uT x y b:=by unfold Bits.uT;split<;>split<;>omega
 rw[←e1,←e2,run_callFunc_extern Tryz.func144 ae ae ae (e:=Bits.sub64Entry) ae,Bits.run_sub64 x y b af];rfl
theorem Bits.D7 (x y:Int) (hx:0≤x) (hy:0≤y) (hy':y<18446744073709551616) (w:World):(callFunc 144 #[.int .u64 x, .int .u64 y, .int .u64 0]).run Tryz.prog w=
  .ok (.value (.tuple #[.int .u64 ((x-y)%18446744073709551616), .int .u64 (Bits.uT x y 0)])) w:=by
 simpa using Bits.Gg x y 0 hx hy hy' (Int.le_refl 0) ak w
def Bits.ren:Go.Shelf.Ren:=⟨fun|264=>125|129=>143|134=>145|n=>n,fun|53=>22|46=>154|3=>3|4=>4|5=>5|9=>9|n=>n,fun|n=>n⟩
theorem Bits.U2:Lays.n264 Tryz.prog Bits.ren:={
 mixed:=by kernel_rfl
 f264:=Tryz.func125.trans (congrArg some ae)
 t46:=Tryz.underlying154
 a46:=Tryz.isAgg154
 z46:=Tryz.sizeOf154
 v46:=Tryz.zeroValue154
 t53:=Tryz.underlying22
 a53:=Tryz.isAgg22
 z53:=Tryz.sizeOf22
 v53:=Tryz.zeroValue22}
theorem Bits.U3:Lays.n134 Tryz.prog Bits.ren:={
 mixed:=by kernel_rfl
 f129:=Tryz.func143.trans (congrArg some ae)
 f134:=Tryz.func145.trans (congrArg some ae)
 t3:=Tryz.underlying3
 a3:=Tryz.isAgg3
 z3:=Tryz.sizeOf3
 v3:=Tryz.zeroValue3
 t4:=Tryz.underlying4
 a4:=Tryz.isAgg4
 z4:=Tryz.sizeOf4
 v4:=Tryz.zeroValue4
 t5:=Tryz.underlying5
 a5:=Tryz.isAgg5
 z5:=Tryz.sizeOf5
 v5:=Tryz.zeroValue5
 t9:=Tryz.underlying9
 a9:=Tryz.isAgg9
 z9:=Tryz.sizeOf9
 v9:=Tryz.zeroValue9
 t46:=Tryz.underlying154
 a46:=Tryz.isAgg154
 z46:=Tryz.sizeOf154
 v46:=Tryz.zeroValue154
 t53:=Tryz.underlying22
 a53:=Tryz.isAgg22
 z53:=Tryz.sizeOf22
 v53:=Tryz.zeroValue22}
theorem Bits.zeros (x:Nat) (h0:0<x) (h1:x<18446744073709551616) (w:World):
  Calls Tryz.prog 145 #[.int .u64 x] w fun e w'=>(∃s:Nat,e= .returned (.int .i64 s)∧s≤63∧9223372036854775808≤x*2^s∧x*2^s<18446744073709551616)∧w=w':=by
 obtain⟨b1,b2,b3,b4⟩:=Knuth.QZ x h0 h1;refine(Any.bits_LeadingZeros64 Bits.U3 x w af af).mono fun e w' ⟨he,hw⟩=>⟨⟨64-Lib.bitLen x,?_,by omega,b2,b3⟩,hw.symm⟩;rw[he];congr 2
 simp only[Int.toNat_natCast];omega
theorem Bits.Tk (x y:Int) (hx0:0≤x) (hx:x<18446744073709551616) (hy0:0≤y) (hy:y<18446744073709551616) (w:World):
  Calls Tryz.prog 125 #[.int .u64 x, .int .u64 y] w fun e w'=>(∃h l:Int,e= .returned (.tuple #[.int .u64 h, .int .u64 l])∧h*18446744073709551616+l=x*y∧0≤h∧h<18446744073709551616∧0≤l∧l<18446744073709551616)∧w=w':=by
 obtain⟨x,rfl⟩:=Int.eq_ofNat_of_zero_le hx0;obtain⟨y,rfl⟩:=Int.eq_ofNat_of_zero_le hy0;refine(Any.bits_Mul64 Bits.U2 x y af af w).mono fun e w' ⟨he,hw⟩=>⟨⟨_,_,he,?_,?_,?_,?_,?_⟩,hw.symm⟩
 ·have:=Int.natCast_mul x y;omega
 ·omega
 ·have h1:x*y≤18446744073709551615*18446744073709551615:=Nat.mul_le_mul af af;have:x*y/18446744073709551616<18446744073709551616:=af;omega
 ·omega
 ·omega
end Go.Proofs.YtnmbfjgcmfjdcaaGreatDoor
