import Derived.Test.YtnmbfjgcmfjdcaaGreatDoorCoreRefusesZ0
import Derived.Lib.BitFns
namespace Go.Proofs.YtnmbfjgcmfjdcaaGreatDoor.Knuth
variable {u v y1 y0 q r Y:Int}
def K (u v y1 y0 q r:Int):Prop:=
 0≤q∧0≤r∧q*y1+r=u∧u*4294967296+v<q*y1*4294967296+q*y0+y1*4294967296+y0∧q≤4294967297
def D (y1 y0:Int):Prop:=2147483648≤y1∧y1<4294967296∧0≤y0∧y0<4294967296
theorem start (hD:D y1 y0) (hu:0≤u) (hu':u<y1*4294967296+y0) (hv:0≤v) (hv':v<4294967296):
  K u v y1 y0 (u/y1) (u-u/y1*y1)∧u-u/y1*y1<4294967296:=by
 obtain⟨d1,d2,d3,d4⟩:=hD;have h1:=Int.ediv_mul_le u (b:=y1) af;have h2:=Int.lt_ediv_add_one_mul_self u (b:=y1) af;have h3:0≤u/y1:=Int.ediv_nonneg hu af;rw[Int.add_mul,Int.one_mul] at h2;have h4:0≤u/y1*y0:=Int.mul_nonneg h3 d3;refine⟨⟨h3,by omega,by omega,by omega,?_⟩,by omega⟩;refine Int.le_of_lt_add_one ?_;refine(Int.ediv_lt_of_lt_mul af ?_);have:(4294967297+1)*y1=4294967298*y1:=af;omega
theorem step (hD:D y1 y0) (hK:K u v y1 y0 q r) (hu':u<y1*4294967296+y0) (hv:0≤v) (hv':v<4294967296)
  (h:4294967296≤q∨4294967296*r+v<q*y0):K u v y1 y0 (q-1) (r+y1)∧1≤q∧q-1≤4294967296:=by
 obtain⟨d1,d2,d3,d4⟩:=hD;obtain⟨k1,k2,k3,k4,k5⟩:=hK
 have hq:1≤q:=by
  rcases h with h|h
  ·omega
  ·rcases Int.lt_or_eq_of_le k1 with p|p
   ·omega
   ·subst p;simp at h;omega
 have e1:(q-1)*y1=q*y1-y1:=by rw[Int.sub_mul,Int.one_mul]
 have e0:(q-1)*y0=q*y0-y0:=by rw[Int.sub_mul,Int.one_mul]
 refine⟨⟨by omega,by omega,by rw[e1];omega,?_,by omega⟩,hq,by omega⟩;rw[e1,e0];rcases h with h|h
 ·have m1:4294967296*y1≤q*y1:=Int.mul_le_mul_of_nonneg_right h af;have m0:4294967296*y0≤q*y0:=Int.mul_le_mul_of_nonneg_right h d3;omega
 ·omega
theorem TM (hK:K u v y1 y0 q r) (h:q*y0≤4294967296*r+v):q*y1*4294967296+q*y0≤u*4294967296+v:=by
 obtain⟨k1,k2,k3,k4,k5⟩:=hK;omega
theorem Gu (hD:D y1 y0) (hK:K u v y1 y0 q r) (hv:0≤v) (hq:q≤4294967296) (hr:4294967296≤r):q*y1*4294967296+q*y0≤u*4294967296+v:=by
 obtain⟨d1,d2,d3,d4⟩:=hD;obtain⟨k1,k2,k3,k4,k5⟩:=hK;have:q*y0≤4294967296*y0:=Int.mul_le_mul_of_nonneg_right hq d3;omega
def Uv (u v y1 y0 q:Int):Prop:=0≤q∧q<4294967296∧q*y1*4294967296+q*y0≤u*4294967296+v∧u*4294967296+v<q*y1*4294967296+q*y0+y1*4294967296+y0
theorem wG (hD:D y1 y0) (hK:K u v y1 y0 q r) (hu':u<y1*4294967296+y0) (hv':v<4294967296)
  (h:q*y1*4294967296+q*y0≤u*4294967296+v):Uv u v y1 y0 q:=by
 obtain⟨d1,d2,d3,d4⟩:=hD;obtain⟨k1,k2,k3,k4,k5⟩:=hK;refine⟨k1,?_,h,k4⟩;rcases Int.lt_or_le q 4294967296 with p|p
 ·exact p
 ·have m1:4294967296*y1≤q*y1:=Int.mul_le_mul_of_nonneg_right p af;have m0:4294967296*y0≤q*y0:=Int.mul_le_mul_of_nonneg_right p d3;omega
theorem Je (h:Uv u v y1 y0 q) (hY:Y=y1*4294967296+y0):
  0≤u*4294967296+v-q*Y∧u*4294967296+v-q*Y<Y:=by
 obtain⟨h1,h2,h3,h4⟩:=h;subst hY;rw[Int.mul_add,←Int.mul_assoc];omega
theorem KX:∀(f x:Nat),x<2^f→x<2^Lib.bitLenAux f x∧(0<x→2^Lib.bitLenAux f x≤2*x)∧Lib.bitLenAux f x≤f
 |0,x,h=>by simp[Lib.bitLenAux] at h⊢;omega
 |f+1,x,h=>by
  unfold Lib.bitLenAux;by_cases hx:x=0
  ·rw[if_pos hx];subst hx;simp
  ·rw[if_neg hx];obtain⟨i1,i2,i3⟩:=KX f (x/2) (by rw[Nat.pow_succ] at h;omega);rw[Nat.add_comm 1,Nat.pow_succ];refine⟨by omega,fun _=> ?_,by omega⟩;by_cases h2:0<x/2
   ·have:=i2 h2;omega
   ·have e:x/2=0:=af;rw[e];have:Lib.bitLenAux f 0=0:=by cases f<;>simp[Lib.bitLenAux]
    rw[this];omega
theorem QZ (x:Nat) (h0:0<x) (h1:x<18446744073709551616):
  Lib.bitLen x≤64∧9223372036854775808≤x*2^(64-Lib.bitLen x)∧x*2^(64-Lib.bitLen x)<18446744073709551616∧1≤Lib.bitLen x:=by
 obtain⟨i1,i2,i3⟩:=KX 64 x af;have i2:=i2 h0;unfold Lib.bitLen;generalize Lib.bitLenAux 64 x=L at *
 have e:2^L*2^(64-L)=18446744073709551616:=by
  rw[←Nat.pow_add,show L+(64-L)=64 by omega]
 have p:0<2^(64-L):=Nat.two_pow_pos _;refine⟨i3,?_,?_,?_⟩
 ·have:=Nat.mul_le_mul_right (2^(64-L)) i2;rw[e,Nat.mul_assoc] at this;omega
 ·have:=Nat.mul_lt_mul_of_pos_right i1 p;rw[e] at this;exact this
 ·rcases Nat.eq_zero_or_pos L with h|h
  ·subst h;simp at i1;omega
  ·exact h
theorem shifted (hi lo s:Nat) (hs:s≤63) (hl:lo<18446744073709551616):
  (hi*2^s)|||(lo/2^(64-s))=hi*2^s+lo/2^(64-s)∧
  (hi*2^s+lo/2^(64-s))*18446744073709551616+lo*2^s%18446744073709551616=(hi*18446744073709551616+lo)*2^s:=by
 have hsplit:2^(64-s)*2^s=18446744073709551616:=by rw[←Nat.pow_add,show 64-s+s=64 by omega]
 have hlt:lo/2^(64-s)<2^s:=by
  refine Nat.div_lt_of_lt_mul ?_;rw[hsplit];exact hl
 refine⟨?_,?_⟩
 ·rw[Nat.mul_comm hi,←Nat.two_pow_add_eq_or_of_lt hlt]
 ·have e:lo*2^s/18446744073709551616=lo/2^(64-s):=by
   rw[←hsplit,Nat.mul_div_mul_right _ _ (Nat.two_pow_pos s)]
  have d:=Nat.div_add_mod (lo*2^s) 18446744073709551616;rw[e] at d;rw[Nat.add_mul,Nat.add_mul (hi*18446744073709551616),Nat.mul_right_comm hi];omega
theorem whole {N y s Y u v1 v0 t q1 q0:Int} {k:Nat} (hs:s=2^k) (hY:Y=y*s) (hN:u*18446744073709551616+v1*4294967296+v0=N*s)
  (ht:t=u*4294967296+v1-q1*Y) (r0:0≤t*4294967296+v0-q0*Y) (r1:t*4294967296+v0-q0*Y<Y):
  (q1*4294967296+q0)*y+(t*4294967296+v0-q0*Y)/s=N∧0≤(t*4294967296+v0-q0*Y)/s∧(t*4294967296+v0-q0*Y)/s<y:=by
 have sp:0<s:=by subst hs;exact Int.pow_pos ak
 have e:t*4294967296+v0-q0*Y=(N-(q1*4294967296+q0)*y)*s:=by
  rw[Int.sub_mul,←hN,ht,hY]
  have e1:(q1*4294967296+q0)*y*s=q1*(y*s)*4294967296+q0*(y*s):=by
   rw[Int.mul_assoc,Int.add_mul,Int.mul_right_comm]
  rw[e1];omega
 rw[e] at r0 r1⊢
 rw[Int.mul_ediv_cancel _ af];rw[hY] at r1
 have a1:0≤N-(q1*4294967296+q0)*y:=by
  rcases Int.lt_or_le (N-(q1*4294967296+q0)*y) 0 with h|h
  ·have:=Int.mul_neg_of_neg_of_pos h sp;omega
  ·exact h
 have a2:N-(q1*4294967296+q0)*y<y:=Int.lt_of_mul_lt_mul_right r1 af;omega
end Go.Proofs.YtnmbfjgcmfjdcaaGreatDoor.Knuth
