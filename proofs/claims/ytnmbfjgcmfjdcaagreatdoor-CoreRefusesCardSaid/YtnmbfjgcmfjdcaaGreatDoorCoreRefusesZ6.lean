/- Texts of CoreRefuses's proof, together. -/
import Derived.Test.YtnmbfjgcmfjdcaaGreatDoorBits
import Derived.Test.YtnmbfjgcmfjdcaaGreatDoorCoreRefusesZ1
import Derived.Deep.RegionHeld3
import Derived.Deep.QuietTactic
import Derived.BigQuiet
namespace Go.Proofs.YtnmbfjgcmfjdcaaGreatDoor

section
open Go.RowKit
set_option maxHeartbeats 400000 in
theorem bK.add (h1 l1 h2 l2 a b:Int) (ha:dO h1 l1 a) (hb:dO h2 l2 b) (w:World):
  Calls Tryz.prog 89 #[.agg #[.int .i64 h1, .int .u64 l1], .agg #[.int .i64 h2, .int .u64 l2]] w (Ju (a+b) w):=by
 have W:=QA ha hb _ rfl;obtain⟨a1,a2,a3,a4,a5⟩:=ha;obtain⟨b1,b2,b3,b4,b5⟩:=hb;have HW:=aa W;clear a5 b5 W;have k0:0≤(l1+l2)/18446744073709551616:=af;have k1:(l1+l2)/18446744073709551616≤1:=af;have e1:0≤IntKind.u64.wrap h1:=by rw[IntKind.wrap_u64];omega
 have e2:0≤IntKind.u64.wrap h2:=by rw[IntKind.wrap_u64];omega
 go_enter Tryz.func89,Tryz.ntmps89;go_wp2_with (first|simp only[Bits.EA _ _ a3 b3]|simp only[Bits.TQ _ _ _ e1 e2 k0 k1])
 all_goals refine bodyPost_ret (v:= .tuple #[.agg #[.int .i64 _, .int .u64 _], .bool _]) (by simp[results,Tryz.results89,go_sem];exact⟨⟨rfl,rfl⟩,rfl⟩) rfl ⟨_,_,_,rfl,?_,((((Below.refl _ _).alloc ay _).alloc ag _).alloc (by simp;omega) _).alloc (by simp;omega) _⟩
 all_goals
  have W:=HW.out;clear HW;revert W;generalize wrap64 ((IntKind.u64.wrap h1+IntKind.u64.wrap h2+(l1+l2)/18446744073709551616)%18446744073709551616)=s at *;intro W;by_cases p:s<0<;>by_cases q:h2<0<;>by_cases r:h1<0<;>simp_all
set_option maxHeartbeats 400000 in
theorem bK.sub (h1 l1 h2 l2 a b:Int) (ha:dO h1 l1 a) (hb:dO h2 l2 b) (w:World):
  Calls Tryz.prog 97 #[.agg #[.int .i64 h1, .int .u64 l1], .agg #[.int .i64 h2, .int .u64 l2]] w (Ju (a-b) w):=by
 have W:=Qz ha hb (Bits.uT l1 l2 0) (by unfold Bits.uT;split<;>omega) _ rfl;obtain⟨a1,a2,a3,a4,a5⟩:=ha;obtain⟨b1,b2,b3,b4,b5⟩:=hb;have HW:=aa W;clear a5 b5 W;have b4':l2<18446744073709551616:=af;obtain⟨k0,k1⟩:=Bits.Jm l1 l2 0;have e1:0≤IntKind.u64.wrap h1:=by rw[IntKind.wrap_u64];omega
 have e2:0≤IntKind.u64.wrap h2:=by rw[IntKind.wrap_u64];omega
 have e3:IntKind.u64.wrap h2<18446744073709551616:=by rw[IntKind.wrap_u64];omega
 go_enter Tryz.func97,Tryz.ntmps97;go_wp2_with (first|simp only[Bits.D7 _ _ a3 b3 b4']|simp only[Bits.Gg _ _ _ e1 e2 e3 k0 k1])
 all_goals refine bodyPost_ret (v:= .tuple #[.agg #[.int .i64 _, .int .u64 _], .bool _]) (by simp[results,Tryz.results97,go_sem];exact⟨⟨rfl,rfl⟩,rfl⟩) rfl ⟨_,_,_,rfl,?_,((((Below.refl _ _).alloc ay _).alloc ag _).alloc (by simp;omega) _).alloc (by simp;omega) _⟩
 all_goals
  have W:=HW.out;clear HW;revert W;generalize wrap64 ((IntKind.u64.wrap h1-IntKind.u64.wrap h2-Bits.uT l1 l2 0)%18446744073709551616)=s at *;intro W;by_cases p:s<0<;>by_cases q:h2<0<;>by_cases r:h1<0<;>simp_all
set_option maxHeartbeats 800000 in
theorem bK.cmp (h1 l1 h2 l2 a b:Int) (ha:dO h1 l1 a) (hb:dO h2 l2 b) (w:World):
  Calls Tryz.prog 116 #[.agg #[.int .i64 h1, .int .u64 l1], .agg #[.int .i64 h2, .int .u64 l2]] w fun e w'=>
   ∃c:Int,e= .returned (.int .i64 c)∧qd c a b∧Below w w w':=by
 have HA:=aa ha;have HB:=aa hb;clear ha hb;by_cases p:h1=h2
 ·subst p;by_cases q:l1=l2
  ·subst q;go_enter Tryz.func116,Tryz.ntmps116;go_wp2
   go_ret;exact⟨_,rfl,RB HA.out HB.out,((Below.refl _ _).alloc ay _).alloc ag _⟩
  ·have q':(l1 == l2)=false:=by simpa using q
   by_cases r:l1<l2
   ·go_enter Tryz.func116,Tryz.ntmps116;go_wp2
    go_ret;exact⟨_,rfl,Im HA.out HB.out (.inr ⟨rfl,r⟩),((Below.refl _ _).alloc ay _).alloc ag _⟩
   ·go_enter Tryz.func116,Tryz.ntmps116;go_wp2
    go_ret;exact⟨_,rfl,Io HA.out HB.out (.inr ⟨rfl,by omega⟩),((Below.refl _ _).alloc ay _).alloc ag _⟩
 ·have p':(h1 == h2)=false:=by simpa using p
  by_cases r:h1<h2
  ·go_enter Tryz.func116,Tryz.ntmps116;go_wp2
   go_ret;exact⟨_,rfl,Im HA.out HB.out (.inl r),((Below.refl _ _).alloc ay _).alloc ag _⟩
  ·go_enter Tryz.func116,Tryz.ntmps116;go_wp2
   go_ret;exact⟨_,rfl,Io HA.out HB.out (.inl af),((Below.refl _ _).alloc ay _).alloc ag _⟩
set_option maxHeartbeats 400000 in
theorem bK.sign (h1 l1 a:Int) (ha:dO h1 l1 a) (w:World):
  Calls Tryz.prog 79 #[.agg #[.int .i64 h1, .int .u64 l1]] w fun e w'=>
   ∃c:Int,e= .returned (.int .i64 c)∧qd c a 0∧Below w w w':=by
 go_enter Tryz.func79,Tryz.ntmps79;go_wp2_with (go_at_call 116;refine(bK.cmp _ _ _ _ _ _ ha Gq _).mono ?_;rintro e w' ⟨c,rfl,hc,hb⟩)
 go_ret;exact⟨_,rfl,hc,((Below.refl _ _).alloc ay _).trans (hb.mono ag)⟩
set_option maxHeartbeats 400000 in
theorem bK.neg (h1 l1 a:Int) (ha:dO h1 l1 a) (w:World):
  Calls Tryz.prog 177 #[.agg #[.int .i64 h1, .int .u64 l1]] w (Ju (0-a) w):=by
 go_enter Tryz.func177,Tryz.ntmps177;go_wp2_with (go_at_call 97;refine(bK.sub _ _ _ _ _ _ Gq ha _).mono ?_;rintro e w1 ⟨h,l,ok,rfl,hr,hb⟩;obtain⟨hc,hf⟩:=xP hb)
 refine bodyPost_ret (v:= .tuple #[.agg #[.int .i64 h, .int .u64 l], .bool ok]) (by simp[results,Tryz.results177,go_sem,hc]) rfl ⟨_,_,_,rfl,hr,?_⟩;exact(((((Below.refl _ _).alloc ay _).alloc ag _).trans (hb.mono (by simp;omega))).setCell ag _).setCell ag _
set_option maxHeartbeats 400000 in
theorem bK.Ti (x:Int) (h0: -9223372036854775808≤x) (h1:x≤9223372036854775807) (w:World):
  Calls Tryz.prog 105 #[.int .i64 x] w fun e w'=>∃h l:Int,e= .returned (.agg #[.int .i64 h, .int .u64 l])∧dO h l x∧Below w w w':=by
 go_enter Tryz.func105,Tryz.ntmps105;go_wp2
 refine bodyPost_ret (v:= .agg #[.int .i64 _, .int .u64 _]) (by simp[results,Tryz.results105,go_sem];exact⟨rfl,rfl⟩) rfl ⟨_,_,rfl,?_,(Below.refl _ _).alloc ay _⟩;rw[IntKind.wrap_u64];unfold dO;omega
set_option maxHeartbeats 400000 in
theorem bK.VZ (x:Int) (h0:0≤x) (h1:x≤18446744073709551615) (w:World):
  Calls Tryz.prog 128 #[.int .u64 x] w fun e w'=>e= .returned (.agg #[.int .i64 0, .int .u64 x])∧dO 0 x x∧Below w w w':=by
 go_enter Tryz.func128,Tryz.ntmps128;go_wp2
 refine bodyPost_ret (v:= .agg #[.int .i64 0, .int .u64 x]) (by simp[results,Tryz.results128,go_sem]) rfl ⟨rfl,?_,(Below.refl _ _).alloc ay _⟩;unfold dO;omega
end


section
open Go.RowKit
set_option maxHeartbeats 400000 in
theorem bK.size (h1 l1 a:Int) (ha:dO h1 l1 a) (w:World):
  Calls Tryz.prog 98 #[.agg #[.int .i64 h1, .int .u64 l1]] w fun e w'=>
   ∃h l:Int,e= .returned (.tuple #[.int .u64 h, .int .u64 l])∧(nU h l (ic a)∧h≤9223372036854775808)∧Below w w w':=by
 have HA:=aa ha;obtain⟨a1,a2,a3,a4,a5⟩:=ha;clear a5;have a4':l1<18446744073709551616:=af;obtain⟨k0,k1⟩:=Bits.Jm 0 l1 0;have e1:0≤IntKind.u64.wrap h1:=by rw[IntKind.wrap_u64];omega
 have e3:IntKind.u64.wrap h1<18446744073709551616:=by rw[IntKind.wrap_u64];omega
 by_cases p:0≤h1
 ·have q:IntKind.u64.wrap h1=h1:=by rw[IntKind.wrap_u64];omega
  go_enter Tryz.func98,Tryz.ntmps98;go_wp2
  go_quiet (fail)
  go_wp2
  go_ret2;exact⟨_,_,rfl,Ry HA.out p,PL ((Below.refl _ _).alloc ay _) _⟩
 ·go_enter Tryz.func98,Tryz.ntmps98;go_wp2_with (first|simp only[Bits.D7 _ _ (Int.le_refl 0) a3 a4']|simp only[Bits.Gg _ _ _ (Int.le_refl 0) e1 e3 k0 k1])
  go_ret2;exact⟨_,_,rfl,Rz HA.out af _ (by unfold Bits.uT;split<;>omega),((Below.refl _ _).alloc ay _)⟩
set_option maxHeartbeats 400000 in
theorem bK.NQ (x:Int) (h0: -9223372036854775808≤x) (h1:x≤9223372036854775807) (w:World):
  Calls Tryz.prog 126 #[.int .i64 x] w fun e w'=>∃y:Int,e= .returned (.int .u64 y)∧(y=ic x∧0≤y∧y≤9223372036854775808)∧w=w':=by
 go_enter Tryz.func126,Tryz.ntmps126;go_wp2
 all_goals go_ret
 all_goals refine⟨_,rfl,?_,rfl⟩
 all_goals ((try simp only[IntKind.wrap_u64]);unfold ic;split<;>omega)
set_option maxHeartbeats 400000 in
theorem bK.signed (s:Bool) (x y n:Int) (hn:nU x y n) (w:World):
  Calls Tryz.prog 101 #[.bool s, .int .u64 x, .int .u64 y] w (Ju (if s then-n else n) w):=by
 have HN:=aa hn;have hn0:=hn;obtain⟨n1,n2,n3,n4,n5⟩:=hn;clear n5;have n4':y<18446744073709551616:=af;have n2':x<18446744073709551616:=af;obtain⟨k0,k1⟩:=Bits.Jm 0 y 0;rcases s with _|_
 ·by_cases p:9223372036854775807<x
  ·go_enter Tryz.func101,Tryz.ntmps101;go_wp2
   refine bodyPost_ret (v:= .tuple #[.agg #[.int .i64 0, .int .u64 0], .bool false]) (by simp[results,Tryz.results101,go_sem]) rfl ⟨_,_,_,rfl,LM HN.out p,(Below.refl _ _).alloc ay _⟩
  ·have q:wrap64 x=x:=by unfold wrap64;omega
   go_enter Tryz.func101,Tryz.ntmps101;go_wp2
   refine bodyPost_ret (v:= .tuple #[.agg #[.int .i64 x, .int .u64 y], .bool true]) (by simp[results,Tryz.results101,go_sem]) rfl ⟨_,_,_,rfl,Uy HN.out af,(Below.refl _ _).alloc ay _⟩
 ·have W:=Nn hn0 (Bits.uT 0 y 0) (by unfold Bits.uT;split<;>omega) _ rfl;have HW:=aa W;clear W hn0;go_enter Tryz.func101,Tryz.ntmps101;go_wp2_with (first|simp only[Bits.D7 _ _ (Int.le_refl 0) n3 n4']|simp only[Bits.Gg _ _ _ (Int.le_refl 0) n1 n2' k0 k1])
  all_goals refine bodyPost_ret (v:= .tuple #[.agg #[.int .i64 _, .int .u64 _], .bool _]) (by simp[results,Tryz.results101,go_sem];exact⟨⟨rfl,rfl⟩,rfl⟩) rfl ⟨_,_,_,rfl,?_,((Below.refl _ _).alloc ay _).alloc ag _⟩
  all_goals
   have W:=HW.out;clear HW;revert W;generalize wrap64 ((-x-Bits.uT 0 y 0)%18446744073709551616)=s at *;intro W
  all_goals first
   |exact W.1 (.inl ‹_›)
   |(have e1:s=0:=by assumption
     have e2: -y%18446744073709551616=0:=by assumption
     have e3:=W.1 (.inr ⟨e1,e2⟩);rw[e1,e2] at e3;exact e3)
   |exact W.2 ‹_› (fun hh=>absurd hh.1 ‹_›)
   |exact W.2 ‹_› (fun hh=>absurd hh.2 ‹_›)
end


section
open Go.RowKit
theorem Jt (a b:Int):ic a*ic b=ic (a*b):=by
 unfold ic;by_cases p:a<0<;>by_cases q:b<0
 ·have:0<a*b:=Int.mul_pos_of_neg_of_neg p q;rw[if_pos p,if_pos q,if_neg af];simp[Int.neg_mul_neg]
 ·rcases Int.lt_or_eq_of_le (show 0≤b by omega) with r|r
  ·have:a*b<0:=Int.mul_neg_of_neg_of_pos p r;rw[if_pos p,if_neg q,if_pos af];simp[Int.neg_mul]
  ·subst r;simp
 ·rcases Int.lt_or_eq_of_le (show 0≤a by omega) with r|r
  ·have:a*b<0:=Int.mul_neg_of_pos_of_neg r q;rw[if_neg p,if_pos q,if_pos af];simp[Int.mul_neg]
  ·subst r;simp
 ·have:0≤a*b:=Int.mul_nonneg af af;rw[if_neg p,if_neg q,if_neg af]
theorem UK (a b:Int) (s:Bool) (hs:s=(decide (a<0) != decide (b<0))):(if s then-(ic a*ic b) else ic a*ic b)=a*b:=by
 subst hs;unfold ic;by_cases p:a<0<;>by_cases q:b<0<;>simp[p,q,Int.neg_mul,Int.mul_neg]
theorem RA {h l y A:Int} (hA:nU h l A) (B:Int) (hB:y=B) {ov lo tp mi:Int} (e1:ov*18446744073709551616+lo=l*y) (e2:tp*18446744073709551616+mi=h*y)
  (o0:0≤ov) (o1:ov<18446744073709551616) (l0:0≤lo) (l1:lo<18446744073709551616) (t0:0≤tp) (m0:0≤mi) (m1:mi<18446744073709551616):
  (tp=0→(mi+ov)/18446744073709551616=0→nU ((mi+ov)%18446744073709551616) lo (A*B))∧
  ((0<tp∨0<(mi+ov)/18446744073709551616)→340282366920938463463374607431768211456≤A*B):=by
 subst hB;obtain⟨a1,a2,a3,a4,a5⟩:=hA
 have e:A*y=h*y*18446744073709551616+l*y:=by
  rw[←a5,Int.add_mul,Int.mul_right_comm]
 rw[e,←e1,←e2];refine⟨fun p q=> ?_,fun p=> ?_⟩
 ·unfold nU;omega
 ·omega
theorem yj {n:Int} (h:340282366920938463463374607431768211456≤ic n):¬WR n:=by
 unfold ic at h;unfold WR;split at h<;>omega
theorem eGO {P:Prop} (h:P:=by
 exact(((((Below.refl _ _).alloc ay _).alloc ag _).trans (hb.mono (by simp;omega))).setCell ag _).setCell ag _):P:=h
set_option maxHeartbeats 1000000 in
theorem bK.mul (h1 l1 b a:Int) (ha:dO h1 l1 a) (b0: -9223372036854775808≤b) (b1:b≤9223372036854775807) (w:World):
  Calls Tryz.prog 87 #[.agg #[.int .i64 h1, .int .u64 l1], .int .i64 b] w (Ju (a*b) w):=by
 have sg:decide (h1<0)=decide (a<0):=by obtain⟨a1,a2,a3,a4,a5⟩:=ha;simp only[decide_eq_decide];omega
 have SG:=aa sg;have HA:=aa ha;clear sg ha;go_enter Tryz.func87,Tryz.ntmps87;go_wp2_with fail
 refine(bK.size _ _ _ HA.out _).mono ?_;rintro e w1 ⟨h,l,rfl,⟨hsz,hh⟩,hb⟩;obtain⟨hc,hf⟩:=xP hb;have hs:w.heap.size+1<w1.heap.size:=by have:=hb.size;simp at this;omega
 have kJ:=aa hsz;obtain⟨n1,n2,n3,n4,n5⟩:=hsz;clear n5;go_wp2_with fail
 refine(bK.NQ b b0 b1 _).mono ?_;rintro e w' ⟨y,rfl,⟨hy,hy0,hy1⟩,rfl⟩;have HY:=aa hy;clear hy;go_wp2_with fail
 refine(Bits.Tk l y n3 af hy0 af _).mono ?_;rintro e w' ⟨⟨ov,lo,rfl,e1,o0,o1,l0,l1'⟩,rfl⟩;have E1:=aa e1;clear e1;go_wp2_with fail
 refine(bK.NQ b b0 b1 _).mono ?_;rintro e w' ⟨y2,rfl,⟨hy2,_,_⟩,rfl⟩;obtain rfl:y2=y:=by rw[hy2,HY.out]
 clear hy2;go_wp2_with fail
 refine(Bits.Tk h y2 n1 af hy0 af _).mono ?_;rintro e w' ⟨⟨tp,mi,rfl,e2,t0,t1,m0,m1⟩,rfl⟩;have E2:=aa e2;clear e2;have M:=RA kJ.out (ic b) HY.out E1.out E2.out o0 o1 l0 l1' t0 m0 m1;have HM:=aa M;clear M;have k0:0≤(mi+ov)/18446744073709551616:=af;go_wp2_with (first|simp only[Bits.EA _ _ m0 o0])
 ·have p:((mi+ov)/18446744073709551616 != 0)=true:=by assumption
  have q:tp=0:=by assumption
  refine bodyPost_ret (v:= .tuple #[.agg #[.int .i64 0, .int .u64 0], .bool false]) (by simp[results,Tryz.results87,go_sem,hc]) rfl ⟨_,_,_,rfl, .inr ⟨rfl,?_,rfl,rfl⟩,?_⟩
  ·have p':(mi+ov)/18446744073709551616≠0:=by simpa using p
   have:=HM.out.2 (.inr af);rw[Jt] at this;exact yj this
  ·exact eGO
 ·have p:((mi+ov)/18446744073709551616 != 0)=false:=by assumption
  have q:tp=0:=by assumption
  have p':(mi+ov)/18446744073709551616=0:=by simpa using p
  have HZ:=aa (HM.out.1 q p');have HS:=aa (UK a b _ rfl);refine(bK.signed _ _ _ _ HZ.out _).mono ?_;rintro e w2 ⟨h',l',ok,rfl,hr,hb2⟩;have hr2:rZ h' l' ok (a*b):=by rw[←HS.out,←SG.out];simpa using hr
  have HR:=aa hr2;clear hr hr2 p q p';obtain⟨hc2,hf2⟩:=xP hb2;have hs2:w.heap.size+1<w2.heap.size:=by have:=hb2.size;omega
  go_wp2
  refine bodyPost_ret (v:= .tuple #[.agg #[.int .i64 h', .int .u64 l'], .bool ok]) (by simp[results,Tryz.results87,go_sem,hc,hs,hc2]) rfl ⟨_,_,_,rfl,HR.out,?_⟩;exact((((((Below.refl _ _).alloc ay _).alloc ag _).trans (hb.mono (by simp;omega))).trans (hb2.mono af)).setCell ag _).setCell ag _
 ·have q:¬tp=0:=by assumption
  refine bodyPost_ret (v:= .tuple #[.agg #[.int .i64 0, .int .u64 0], .bool false]) (by simp[results,Tryz.results87,go_sem,hc]) rfl ⟨_,_,_,rfl, .inr ⟨rfl,?_,rfl,rfl⟩,?_⟩
  ·have:=HM.out.2 (.inl af);rw[Jt] at this;exact yj this
  ·exact eGO
end

end Go.Proofs.YtnmbfjgcmfjdcaaGreatDoor
