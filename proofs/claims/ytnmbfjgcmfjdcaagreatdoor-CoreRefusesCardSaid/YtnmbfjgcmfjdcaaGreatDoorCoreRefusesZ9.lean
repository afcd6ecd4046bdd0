/- Texts of CoreRefuses's proof, together. -/
import Derived.Test.YtnmbfjgcmfjdcaaGreatDoorCoreRefusesZ6
import Derived.Test.YtnmbfjgcmfjdcaaGreatDoorDiv
import Derived.Test.YtnmbfjgcmfjdcaaGreatDoorVtime
namespace Go.Proofs.YtnmbfjgcmfjdcaaGreatDoor

section
open Go.RowKit
variable {a Q b r:Int}
def Vt (a b:Int) (w:World) (e:Ending) (w':World):Prop:=
 ∃h l q r:Int,e= .returned (.tuple #[.agg #[.int .i64 h, .int .u64 l], .int .u64 r, .bool true])∧(dO h l q∧q*b+r=a∧0≤r∧r<b)∧Below w w w'
theorem Si {h l A b hq ov lq lf:Int} (hA:nU h l A) (h63:h≤9223372036854775808) (e1:hq*b+ov=0*18446744073709551616+h) (e2:lq*b+lf=ov*18446744073709551616+l) (b0:0<b)
  (o0:0≤ov) (q0:0≤hq) (l0:0≤lq) (l1:lq≤18446744073709551615) (f0:0≤lf):
  hq≤9223372036854775808∧nU hq lq (hq*18446744073709551616+lq)∧(hq*18446744073709551616+lq)*b+lf=A∧hq*18446744073709551616+lq≤A:=by
 obtain⟨a1,a2,a3,a4,a5⟩:=hA;have m:hq*1≤hq*b:=Int.mul_le_mul_of_nonneg_left af q0;have e:(hq*18446744073709551616+lq)*b=hq*b*18446744073709551616+lq*b:=by rw[Int.add_mul,Int.mul_right_comm]
 have m2:(hq*18446744073709551616+lq)*1≤(hq*18446744073709551616+lq)*b:=Int.mul_le_mul_of_nonneg_left af af;refine⟨by omega,⟨q0,by omega,l0,l1,rfl⟩,by rw[e];omega,by rw[e] at m2;omega⟩
theorem XC (h:0≤a) (e:Q*b+r=ic a):Q*b+r=a:=by unfold ic at e;rw[if_neg af] at e;exact e
theorem Pm (h:a<0) (e:Q*b+0=ic a): -Q*b+0=a:=by
 unfold ic at e;rw[if_pos h] at e;rw[Int.neg_mul];omega
theorem Pk (h:a<0) (e:Q*b+r=ic a): -(Q+1)*b+(b-r)=a:=by
 unfold ic at e;rw[if_pos h] at e;rw[Int.neg_mul,Int.add_mul,Int.one_mul];omega
theorem Vr (h:WR a):ic a≤170141183460469231731687303715884105728∧(0≤a→ic a≤170141183460469231731687303715884105727):=by
 unfold WR at h;unfold ic;split<;>omega
theorem sU {h l n:Int} {ok:Bool} (hr:rZ h l ok n) (hn:WR n):ok=true∧dO h l n:=by
 rcases hr with⟨r1,_,r3⟩|⟨_,r2,_⟩
 ·exact⟨r1,r3⟩
 ·exact absurd hn r2
theorem eIq {P:Prop} (h:P:=by
 exact(((HT.out.trans o5).setCell ag _).setCell ag _).alloc (by simp;omega) _):P:=h
set_option maxHeartbeats 2000000 in
theorem bK.div (h1 l1 a b:Int) (ha:dO h1 l1 a) (b0:0<b) (b1:b≤18446744073709551615) (w:World):
  Calls Tryz.prog 66 #[.agg #[.int .i64 h1, .int .u64 l1], .int .u64 b] w (Vt a b w):=by
 have sg:h1<0↔a<0:=by obtain⟨a1,a2,a3,a4,a5⟩:=ha;omega
 have SG:=aa sg;have HA:=aa ha;have hb0:(b == 0)=false:=by simp;omega
 clear sg ha;go_enter Tryz.func66,Tryz.ntmps66;go_wp2_with fail
 refine(bK.size _ _ _ HA.out _).mono ?_;rintro e w1 ⟨h,l,rfl,⟨hsz,hh⟩,hb⟩;have kJ:=aa hsz;obtain⟨n1,n2,n3,n4,n5⟩:=hsz;clear n5;go_wp2_with fail
 refine(Div.TN 0 h b af b0 n1 n2 b1 _).mono ?_;rintro e w2 ⟨hq,ov,rfl,⟨e1,o0,o1,q0,q1⟩,hb2⟩;have E1:=aa e1;clear e1;have B2:=hb.trans (hb2.mono hb.size);clear hb hb2;go_wp2_with fail
 refine(Div.TN ov l b o0 o1 n3 n4 b1 _).mono ?_;rintro e w3 ⟨lq,lf,rfl,⟨e2,f0,f1,p0,p1⟩,hb3⟩;have M:=Si kJ.out hh E1.out e2 b0 o0 q0 p0 p1 f0;have HM:=aa M;have m1:=M.1;clear e2 M;have B3:=B2.trans (hb3.mono B2.size);clear B2 hb3;obtain⟨hc,hf⟩:=xP B3;have hs:w.heap.size+1<w3.heap.size:=by have:=B3.size;simp at this;omega
 have T3:Below w w w3:=(((Below.refl _ _).alloc ay _).alloc ag _).trans (B3.mono (by simp;omega));have HT:=aa T3;clear B3 T3;have Qt:=aa (Vr HA.out.wr);by_cases c1:h1<0
 ·by_cases c2:lf=0
  ·subst c2;go_wp2_with fail
   refine(bK.signed _ _ _ _ HM.out.2.1 _).mono ?_;rintro e w4 ⟨h',l',ok,rfl,hr,hb4⟩;obtain⟨rfl,hw⟩:=sU hr (by have:=HM.out.2.2.2;have:=Qt.out.1;obtain⟨_,_,_,_,_⟩:=HM.out.2.1;unfold WR;simp only[if_true];omega);have HW:=aa (show dO h' l' (-(hq*18446744073709551616+lq)) from by simpa[c1] using hw);clear hr hw;have o5:=hb4.mono (B':=w.heap.size) af;obtain⟨hc4,K6⟩:=xP hb4;have hs4:w.heap.size+1<w4.heap.size:=by have:=hb4.size;omega
   go_wp2
   refine bodyPost_ret (v:= .tuple #[.agg #[.int .i64 h', .int .u64 l'], .int .u64 0, .bool true]) (by simp[results,Tryz.results66,go_sem,hc,hc4,hs4,hs]) rfl ⟨_,_,_,_,rfl,⟨HW.out,Pm (SG.out.1 c1) HM.out.2.2.1,by omega,b0⟩,?_⟩;exact eIq
  ·have c2':(lf == 0)=false:=by simpa using c2
   have k1:(1:Int)≥0:=by decide
   have SZ:nU (hq+(lq+1)/18446744073709551616) ((lq+1)%18446744073709551616) (hq*18446744073709551616+lq+1):=by unfold nU;omega
   have qf:=aa SZ;have LT:(hq*18446744073709551616+lq)*b<ic a:=by have:=HM.out.2.2.1;omega
   have LT2:hq*18446744073709551616+lq+1≤ic a:=by
    have:(hq*18446744073709551616+lq)*1≤(hq*18446744073709551616+lq)*b:=Int.mul_le_mul_of_nonneg_left af af;omega
   have gG:=aa LT2;clear SZ LT LT2;go_wp2_with (simp only[Bits.EA _ _ p0 k1])
   refine(bK.signed _ _ _ _ qf.out _).mono ?_;rintro e w4 ⟨h',l',ok,rfl,hr,hb4⟩;obtain⟨rfl,hw⟩:=sU hr (by have:=gG.out;have:=Qt.out.1;unfold WR;simp only[if_true];omega);have HW:=aa (show dO h' l' (-(hq*18446744073709551616+lq+1)) from by simpa[c1] using hw);clear hr hw;have o5:=hb4.mono (B':=w.heap.size) af;obtain⟨hc4,K6⟩:=xP hb4;have hs4:w.heap.size+1<w4.heap.size:=by have:=hb4.size;omega
   go_wp2
   refine bodyPost_ret (v:= .tuple #[.agg #[.int .i64 h', .int .u64 l'], .int .u64 (b-lf), .bool true]) (by simp[results,Tryz.results66,go_sem,hc,hc4,hs4,hs]) rfl ⟨_,_,_,_,rfl,⟨HW.out,Pk (SG.out.1 c1) HM.out.2.2.1,by omega,by omega⟩,?_⟩;exact eIq
 ·go_wp2_with fail
  refine(bK.signed _ _ _ _ HM.out.2.1 _).mono ?_;rintro e w4 ⟨h',l',ok,rfl,hr,hb4⟩;have a0:0≤a:=by have:=SG.out;omega
  obtain⟨rfl,hw⟩:=sU hr (by have:=HM.out.2.2.2;have:=Qt.out.2 a0;obtain⟨_,_,_,_,_⟩:=HM.out.2.1;unfold WR;simp only[Bool.false_eq_true,if_false];omega);have HW:=aa (show dO h' l' (hq*18446744073709551616+lq) from by simpa[c1] using hw);clear hr hw;have o5:=hb4.mono (B':=w.heap.size) af;obtain⟨hc4,K6⟩:=xP hb4;have hs4:w.heap.size+1<w4.heap.size:=by have:=hb4.size;omega
  go_wp2
  refine bodyPost_ret (v:= .tuple #[.agg #[.int .i64 h', .int .u64 l'], .int .u64 lf, .bool true]) (by simp[results,Tryz.results66,go_sem,hc,hc4,hs4,hs]) rfl ⟨_,_,_,_,rfl,⟨HW.out,XC a0 HM.out.2.2.1,by omega,by omega⟩,?_⟩;exact eIq
end


section
open Go.RowKit
set_option maxHeartbeats 1000000 in
theorem bK.neB (h1 l1 h2 l2:Int) (w:World):
  (binOp .neq 42 (.agg #[.int .i64 h1, .int .u64 l1]) (.agg #[.int .i64 h2, .int .u64 l2])).run Tryz.prog w= .ok (.bool (!(h1 == h2&&l1 == l2))) w:=by
 by_cases p:h1=h2
 ·subst p;by_cases q:l1=l2
  ·subst q;go_simp
  ·have q':(l1 == l2)=false:=by simpa using q
   go_simp
 ·have p':(h1 == h2)=false:=by simpa using p
  go_simp
end


section
open Go.RowKit
theorem ai {W w w':World} (h:Below W W w) (hb:Below w w w'):Below W W w':=h.trans (hb.mono h.size)
end


section
open Go.RowKit
set_option maxHeartbeats 400000 in
theorem bK.small (h l n:Int) (hw:dO h l n) (n0: -9223372036854775808≤n) (n1:n≤9223372036854775807) (w:World):
  Calls Tryz.prog 103 #[.agg #[.int .i64 h, .int .u64 l]] w fun e w'=>e= .returned (.tuple #[.int .i64 n, .bool true])∧Below w w w':=by
 have E:wrap64 l=n:=by obtain⟨h1,h2,h3,h4,h5⟩:=hw;unfold wrap64;omega
 have HE:=aa E;have HW:=aa hw;clear E hw;go_enter Tryz.func103,Tryz.ntmps103;go_wp2_with fail
 rw[HE.out]
 go_region_held3 (fun w'=>(w'.cell? w=some (.int .i64 h)∧w'.cell? ⟨w,1,none⟩=some (.int .u64 l))∧Below w w w')
  (first|exact⟨⟨by simp[go_sem],by simp[go_sem]⟩,((Below.refl _ _).alloc ay _).drew⟩|exact⟨MI (And.left (by assumption:_∧Below w w _)) hb2,ai (And.right (by assumption:_∧Below w w _)) hb2⟩)
  (first|(go_at_call 105;refine(bK.Ti n n0 n1 _).mono ?_;rintro e w2 ⟨h2,l2,rfl,hw2,hb2⟩;obtain⟨rfl,rfl⟩:=dO.inj HW.out hw2))
 have HF:=aa (And.right (by assumption:_∧Below w w w2));clear hb2;go_wp2
 go_ret2;exact⟨rfl,HF.out⟩
set_option maxHeartbeats 400000 in
theorem bK.Ha (h l n:Int) (hw:dO h l n) (hn:n< -9223372036854775808∨9223372036854775807<n) (w:World):
  Calls Tryz.prog 103 #[.agg #[.int .i64 h, .int .u64 l]] w fun e w'=>e= .returned (.tuple #[.int .i64 0, .bool false])∧Below w w w':=by
 have HW:=aa hw;have HN:=aa hn;have q0: -9223372036854775808≤wrap64 l:=by unfold wrap64;omega
 have q1:wrap64 l≤9223372036854775807:=by unfold wrap64;omega
 have HQ:Hid (∀h2 l2,dO h2 l2 (wrap64 l)→l2=l∧(h2 == h)=false):=aa (by
  intro h2 l2 g;obtain⟨h1,h2,h3,h4,h5⟩:=hw;obtain⟨g1,g2,g3,g4,g5⟩:=g;rw[beq_eq_false_iff_ne];unfold wrap64 at g5;omega)
 have Q0:=aa q0;have Q1:=aa q1;clear hw hn q0 q1;go_enter Tryz.func103,Tryz.ntmps103;go_wp2_with fail
 go_region_held3 (fun w'=>(w'.cell? w=some (.int .i64 h)∧w'.cell? ⟨w,1,none⟩=some (.int .u64 l))∧Below w w w')
  (first|exact⟨⟨by simp[go_sem],by simp[go_sem]⟩,((Below.refl _ _).alloc ay _).drew⟩|exact⟨MI (And.left (by assumption:_∧Below w w _)) hb2,ai (And.right (by assumption:_∧Below w w _)) hb2⟩)
  (first|(go_at_call 105;refine(bK.Ti (wrap64 l) Q0.out Q1.out _).mono ?_;rintro e w2 ⟨h2,l2,rfl,hw2,hb2⟩;obtain⟨rfl,hne⟩:=HQ.out _ _ hw2;clear hw2))
 have HF:=aa (And.right (by assumption:_∧Below w w w2));clear hb2;go_wp2
 go_ret2;exact⟨rfl,HF.out⟩
theorem cOG {P:Prop} (h:P:=by
 rw[e];clear e;go_enter Tryz.func102,Tryz.ntmps102;go_wp2
 go_ret;exact⟨rfl,Below.refl _ _⟩):P:=h
set_option maxHeartbeats 400000 in
theorem Pos.weight (x:Int) (w:World):
  Calls Tryz.prog 102 #[.int .u32 x] w fun e w'=>e= .returned (.bool (decide (1≤x∧x≤1048576)))∧Below w w w':=by
 by_cases h1:1≤x
 ·by_cases h2:x≤1048576
  ·have e:decide (1≤x∧x≤1048576)=true:=by rw[decide_eq_true_eq];exact⟨h1,h2⟩
   exact cOG
  ·have e:decide (1≤x∧x≤1048576)=false:=by rw[decide_eq_false_iff_not];omega
   exact cOG
 ·have e:decide (1≤x∧x≤1048576)=false:=by rw[decide_eq_false_iff_not];omega
  exact cOG
set_option maxHeartbeats 1000000 in
theorem Pos.right (t r v:Int) (w:World):
  Calls Tryz.prog 86 #[.agg #[.int .u64 t, .int .u32 r, .int .u32 v]] w fun e w'=>e= .returned (.bool (decide (1≤v∧v≤1048576)&&decide (r<v)))∧Below w w w':=by
 by_cases h:1≤v∧v≤1048576
 ·have e:decide (1≤v∧v≤1048576)=true:=by rw[decide_eq_true_eq];exact h
  have E:=aa e;rw[e];clear e h;go_enter Tryz.func86,Tryz.ntmps86;go_wp2_with fail
  refine(Pos.weight v _).mono ?_;rintro e w1 ⟨rfl,hb⟩;rw[E.out];obtain⟨c0,c1⟩:w1.cell? ⟨w,1,none⟩=some (.int .u32 r)∧w1.cell? ⟨w,2,none⟩=some (.int .u32 v):=MI ⟨by simp[go_sem],by simp[go_sem]⟩ hb;have HB:=aa (((Below.refl _ w).alloc ay (.cells #[.int .u64 t, .int .u32 r, .int .u32 v] 55)).trans (hb.mono ag));clear hb;go_wp2
  go_ret;exact⟨rfl,HB.out⟩
 ·have e:decide (1≤v∧v≤1048576)=false:=by rw[decide_eq_false_iff_not];exact h
  have E:=aa e;rw[e];clear e h;go_enter Tryz.func86,Tryz.ntmps86;go_wp2_with fail
  refine(Pos.weight v _).mono ?_;rintro e w1 ⟨rfl,hb⟩;rw[E.out];have HB:=aa (((Below.refl _ w).alloc ay (.cells #[.int .u64 t, .int .u32 r, .int .u32 v] 55)).trans (hb.mono ag));clear hb;go_wp2
  go_ret;exact⟨rfl,HB.out⟩
end

end Go.Proofs.YtnmbfjgcmfjdcaaGreatDoor
