import Derived.Test.YtnmbfjgcmfjdcaaGreatDoorBits
import Derived.Test.YtnmbfjgcmfjdcaaGreatDoorCoreRefusesZ1
import Derived.Deep.QuietTactic
import Derived.BigQuiet
import Derived.Deep.LoopGhost
import Derived.Deep.CutBlock
import Derived.Deep.DeepCutAuto
namespace Go.Proofs.YtnmbfjgcmfjdcaaGreatDoor
open Go.RowKit
def JX (N y:Int) (w:World) (e:Ending) (w':World):Prop:=
 ∃q r:Int,e= .returned (.tuple #[.int .u64 q, .int .u64 r])∧(q*y+r=N∧0≤r∧r<y∧0≤q∧q≤18446744073709551615)∧Below w w w'
set_option maxHeartbeats 1000000 in
theorem Div.small (lo y:Int) (l0:0≤lo) (l1:lo≤18446744073709551615) (y0:0<y) (y1:y≤18446744073709551615) (w:World):
  Calls Tryz.prog 99 #[.int .u64 0, .int .u64 lo, .int .u64 y] w (JX (0*18446744073709551616+lo) y w):=by
 have hy:(y == 0)=false:=by simp;omega
 have hy2:¬y≤0:=af
 go_enter Tryz.func99,Tryz.ntmps99
 go_wp2
 go_quiet (fail)
 go_wp2
 go_ret2
 exact⟨_,_,rfl,⟨by rw[Int.mul_comm];have:=Int.mul_ediv_add_emod lo y;omega,Int.emod_nonneg _ af,Int.emod_lt_of_pos _ y0,Int.ediv_nonneg l0 af,Int.le_trans (Int.ediv_le_self _ l0) l1⟩,PL o7 _⟩
def Head (u v y1 y0:Int) (a b:Value):Prop:=∃q r:Int,a= .int .u64 q∧b= .int .u64 r∧Knuth.K u v y1 y0 q r∧r<4294967296
theorem Div.parts (hi lo y s:Nat) (h1:hi<y) (l1:lo<18446744073709551616) (s1:s≤63) (s2:9223372036854775808≤y*2^s) (s3:y*2^s<18446744073709551616):
  ∃Y u z:Int,IntKind.u64.wrap ((y:Int)*2^s)=Y∧bits .or .u64 (IntKind.u64.wrap ((hi:Int)*2^s)) ((lo:Int)/2^(64-s))=u∧IntKind.u64.wrap ((lo:Int)*2^s)=z∧
   Y=(y:Int)*2^s∧9223372036854775808≤Y∧Y<18446744073709551616∧0≤u∧u<Y∧0≤z∧z<18446744073709551616∧
   u*18446744073709551616+z=((hi:Int)*18446744073709551616+lo)*2^s:=by
 obtain⟨e1,e2⟩:=Knuth.shifted hi lo s s1 l1
 have hh:hi*2^s<18446744073709551616:=Nat.lt_of_lt_of_le (Nat.mul_lt_mul_of_pos_right h1 (Nat.two_pow_pos s)) af
 have hl:lo/2^(64-s)<18446744073709551616:=Nat.lt_of_le_of_lt (Nat.div_le_self _ _) l1
 have c1:(y:Int)*2^s=((y*2^s:Nat):Int):=by simp
 have c2:(hi:Int)*2^s=((hi*2^s:Nat):Int):=by simp
 have c3:(lo:Int)*2^s=((lo*2^s:Nat):Int):=by simp
 have c4:(lo:Int)/2^(64-s)=((lo/2^(64-s):Nat):Int):=by simp
 have c5:((hi:Int)*18446744073709551616+lo)*2^s=(((hi*18446744073709551616+lo)*2^s:Nat):Int):=by simp
 have w1:IntKind.u64.wrap ((y*2^s:Nat):Int)=((y*2^s:Nat):Int):=by rw[IntKind.wrap_u64];omega
 have w2:IntKind.u64.wrap ((hi*2^s:Nat):Int)=((hi*2^s:Nat):Int):=by rw[IntKind.wrap_u64];omega
 have w3:IntKind.u64.wrap ((lo*2^s:Nat):Int)=((lo*2^s%18446744073709551616:Nat):Int):=by rw[IntKind.wrap_u64];omega
 have w4:=bits_or_u64_nat (hi*2^s) (lo/2^(64-s)) hh hl
 rw[e1] at w4
 have hy:(hi+1)*2^s≤y*2^s:=Nat.mul_le_mul_right _ h1
 rw[Nat.add_mul,Nat.one_mul] at hy
 have hlt:lo/2^(64-s)<2^s:=by
  refine Nat.div_lt_of_lt_mul ?_
  rw[←Nat.pow_add,show 64-s+s=64 by omega];exact l1
 rw[c1,c2,c3,c4,c5,w1,w2,w3]
 exact⟨_,_,_,rfl,w4,rfl,rfl,by omega,by omega,by omega,by omega,by omega,by omega,by omega⟩
theorem Div.mask (z:Int) (h0:0≤z) (h1:z<18446744073709551616):bits .and .u64 z 4294967295=z%4294967296:=by
 obtain⟨z,rfl⟩:=Int.eq_ofNat_of_zero_le h0
 have h:=bits_and_u64_nat z 4294967295 af af
 have e:z&&& 4294967295=z%4294967296:=Nat.and_two_pow_sub_one_eq_mod z 32
 rw[e] at h
 rw[show((4294967295:Nat):Int)=4294967295 from rfl] at h
 rw[h]
 omega
theorem aTm {P:Prop} (h:P:=by
 go_wp2_with fail
 go_meet
 exact⟨_,rfl,DD.out,rfl⟩):P:=h
theorem aTn {P:Prop} (h:P:=by
 go_wp2_with fail
 go_round
 case rel=>exact⟨q-1,r+a1,rfl,rfl,KS.out,by omega⟩
 case measure=>simp[intOf];omega):P:=h
theorem aTk {P:Prop} (h:P:=by
 have KS:=aa s1'
 clear s1'
 by_cases c2:4294967296≤r+a1
 ·have DD:=aa (Knuth.wG HD.out KS.out c9 b8 (Knuth.Gu HD.out KS.out b7 s3' c2))
  exact aTm
 ·exact aTn):P:=h
theorem aTl {P:Prop} (h:P:=by
 have KS:=aa s1'
 clear s1'
 by_cases c2:4294967296≤r+a1
 ·have DD:=aa (Knuth.wG HD.out KS.out b9 b6 (Knuth.Gu HD.out KS.out b5 s3' c2))
  exact aTm
 ·exact aTn):P:=h
set_option maxHeartbeats 1000000 in
theorem Div.great (hi lo y:Nat) (h0:0<hi) (h1:hi<y) (l1:lo<18446744073709551616) (y1:y<18446744073709551616) (w:World):
  Calls Tryz.prog 99 #[.int .u64 hi, .int .u64 lo, .int .u64 y] w (JX ((hi:Int)*18446744073709551616+lo) y w):=by
 have hy:((y:Int) == 0)=false:=by simp;omega
 have hh:((hi:Int) == 0)=false:=by simp;omega
 have hy2:¬(y:Int)≤hi:=af
 go_enter Tryz.func99,Tryz.ntmps99
 go_wp2_with fail
 refine(Bits.zeros y af y1 _).mono ?_
 rintro e w' ⟨⟨s,rfl,s1,s2,s3⟩,rfl⟩
 obtain⟨Y,u,z,eY,eu,ez,eY',Y0,Y1,u0,u1,z0,z1,eN⟩:=Div.parts hi lo y s h1 l1 s1 s2 s3
 have HY:=aa eY'
 have HN:=aa eN
 clear eY' eN s2 s3
 have em:=Div.mask Y af Y1
 have en:=Div.mask z z0 z1
 obtain⟨a1,ha1⟩:∃a,Y/4294967296=a:=⟨_,rfl⟩
 obtain⟨a0,ha0⟩:∃a,Y%4294967296=a:=⟨_,rfl⟩
 obtain⟨v1,hv1⟩:∃a,z/4294967296=a:=⟨_,rfl⟩
 obtain⟨v0,hv0⟩:∃a,z%4294967296=a:=⟨_,rfl⟩
 have D:Knuth.D a1 a0:=by unfold Knuth.D;omega
 have HD:=aa D
 clear D
 have eY2:Y=a1*4294967296+a0:=af
 have eZ2:z=v1*4294967296+v0:=af
 have X8:=aa eY2
 have HZ2:=aa eZ2
 have b1:2147483648≤a1:=af
 have b2:a1<4294967296:=af
 have b3:0≤a0:=af
 have b4:a0<4294967296:=af
 have b5:0≤v1:=af
 have b6:v1<4294967296:=af
 have b7:0≤v0:=af
 have b8:v0<4294967296:=af
 have b9:u<a1*4294967296+a0:=af
 clear eY2 eZ2
 rw[ha0] at em
 rw[hv0] at en
 clear ha0 hv0
 obtain⟨⟨k1,k2,k3,k4,k5⟩,k6⟩:=Knuth.start HD.out u0 b9 b5 b6
 have HK:Hid (Knuth.K u v1 a1 a0 (u/a1) (u-u/a1*a1)):=aa ⟨k1,k2,k3,k4,k5⟩
 clear k3 k4
 have kp:0≤u/a1*a1:=Int.mul_nonneg k1 af
 have ep:IntKind.u64.wrap (u/a1*a1)=u/a1*a1:=by rw[IntKind.wrap_u64];omega
 go_upto_block 0 with fail
 go_cut [15] (fun c wc=>∃q:Int,c= .int .u64 q∧Knuth.Uv u v1 a1 a0 q∧w=wc)
 case first=>
  go_wp2_with fail
  go_loop [15,16] (fun a b=>Head u v1 a1 a0 a b) (fun a _=>(intOf a).toNat)
  case atStart=>exact⟨_,_,rfl,rfl,HK.out,k6⟩
  case round=>
   obtain⟨q,r,rfl,rfl,hK,hr⟩:=hrel
   have KK:=aa hK
   obtain⟨k1,k2,k3,k4,k5⟩:=hK
   clear k3 k4
   have qp:0≤q*a0:=Int.mul_nonneg k1 b3
   by_cases c1:4294967296≤q
   ·obtain⟨s1',s2',s3'⟩:=Knuth.step HD.out KK.out b9 b5 b6 (.inl c1)
    exact aTl
   ·have qb:q*a0≤4294967295*4294967295:=Int.mul_le_mul af af b3 af
    have eq0:IntKind.u64.wrap (q*a0)=q*a0:=by rw[IntKind.wrap_u64];omega
    by_cases c3:4294967296*r+v1<q*a0
    ·obtain⟨s1',s2',s3'⟩:=Knuth.step HD.out KK.out b9 b5 b6 (.inr c3)
     exact aTl
    ·have DD:=aa (Knuth.wG HD.out KK.out b9 b6 (Knuth.TM KK.out af))
     exact aTm
 case rest=>
  obtain⟨q1,rfl,hd,rfl⟩:=hcut
  have HD1:=aa hd
  obtain⟨d1,d2,d3,d4⟩:=hd
  clear d3 d4 HK k1 k2 k5 k6 ep kp
  obtain⟨t0,t1⟩:=Knuth.Je HD1.out X8.out
  obtain⟨t,ht⟩:∃t,t=u*4294967296+v1-q1*Y:=⟨_,rfl⟩
  rw[←ht] at t0 t1
  have et:IntKind.u64.wrap (IntKind.u64.wrap (IntKind.u64.wrap (u*4294967296)+v1)-IntKind.u64.wrap (q1*Y))=t:=by
   simp only[IntKind.wrap_u64];omega
  have HT:=aa ht
  clear ht
  have c9:t<a1*4294967296+a0:=by have:=X8.out;omega
  obtain⟨⟨m1,m2,m3,m4,m5⟩,m6⟩:=Knuth.start HD.out t0 c9 b7 b8
  have jo:Hid (Knuth.K t v0 a1 a0 (t/a1) (t-t/a1*a1)):=aa ⟨m1,m2,m3,m4,m5⟩
  clear m3 m4
  have mp:0≤t/a1*a1:=Int.mul_nonneg m1 af
  have ep:IntKind.u64.wrap (t/a1*a1)=t/a1*a1:=by rw[IntKind.wrap_u64];omega
  go_upto_block 2 with fail
  go_cut [18] (fun c wc=>∃q:Int,c= .int .u64 q∧Knuth.Uv t v0 a1 a0 q∧w=wc)
  case first=>
   go_wp2_with fail
   go_loop [18,16] (fun a b=>Head t v0 a1 a0 a b) (fun a _=>(intOf a).toNat)
   case atStart=>exact⟨_,_,rfl,rfl,jo.out,m6⟩
   case round=>
    obtain⟨q,r,rfl,rfl,hK,hr⟩:=hrel
    have KK:=aa hK
    obtain⟨k1,k2,k3,k4,k5⟩:=hK
    clear k3 k4
    have qp:0≤q*a0:=Int.mul_nonneg k1 b3
    by_cases c1:4294967296≤q
    ·obtain⟨s1',s2',s3'⟩:=Knuth.step HD.out KK.out c9 b7 b8 (.inl c1)
     exact aTk
    ·have qb:q*a0≤4294967295*4294967295:=Int.mul_le_mul af af b3 af
     have eq0:IntKind.u64.wrap (q*a0)=q*a0:=by rw[IntKind.wrap_u64];omega
     by_cases c3:4294967296*r+v0<q*a0
     ·obtain⟨s1',s2',s3'⟩:=Knuth.step HD.out KK.out c9 b7 b8 (.inr c3)
      exact aTk
     ·have DD:=aa (Knuth.wG HD.out KK.out c9 b8 (Knuth.TM KK.out af))
      exact aTm
  case rest=>
   obtain⟨q0,rfl,hd0,rfl⟩:=hcut
   have HD0:=aa hd0
   obtain⟨g1,g2,g3,g4⟩:=hd0
   clear g3 g4
   obtain⟨f0,f1⟩:=Knuth.Je HD0.out X8.out
   obtain⟨f,hf⟩:∃f,f=t*4294967296+v0-q0*Y:=⟨_,rfl⟩
   have W:=Knuth.whole (N:=(hi:Int)*18446744073709551616+lo) (u:=u) (v1:=v1) (v0:=v0) (k:=s) rfl HY.out (by have:=HZ2.out;have:=HN.out;omega) HT.out f0 f1
   rw[←hf] at f0 f1 W
   have ef:IntKind.u64.wrap (IntKind.u64.wrap (IntKind.u64.wrap (t*4294967296)+v0)-IntKind.u64.wrap (q0*Y))=f:=by
    simp only[IntKind.wrap_u64];omega
   have HW:=aa W
   clear W hf
   go_wp2
   go_ret2
   exact⟨_,_,rfl,⟨HW.out.1,HW.out.2.1,HW.out.2.2,by omega,by omega⟩,Below.refl _ _⟩
theorem Div.TN (hi lo y:Int) (h0:0≤hi) (h1:hi<y) (l0:0≤lo) (l1:lo≤18446744073709551615) (y1:y≤18446744073709551615) (w:World):
  Calls Tryz.prog 99 #[.int .u64 hi, .int .u64 lo, .int .u64 y] w (JX (hi*18446744073709551616+lo) y w):=by
 rcases Int.lt_or_eq_of_le h0 with h|h
 ·obtain⟨hi,rfl⟩:=Int.eq_ofNat_of_zero_le h0
  obtain⟨lo,rfl⟩:=Int.eq_ofNat_of_zero_le l0
  obtain⟨y,rfl⟩:=Int.eq_ofNat_of_zero_le (show 0≤y by omega)
  exact Div.great hi lo y af af af af w
 ·subst h
  exact Div.small lo y l0 l1 h1 y1 w
end Go.Proofs.YtnmbfjgcmfjdcaaGreatDoor
