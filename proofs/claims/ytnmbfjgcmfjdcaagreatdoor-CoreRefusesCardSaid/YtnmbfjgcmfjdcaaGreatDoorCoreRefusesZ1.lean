/- Texts of CoreRefuses's proof, together. -/
import Derived.Test.YtnmbfjgcmfjdcaaGreatDoorCoreRefusesZ0
import Derived.WalkKit
import Derived.Deep.Draws
namespace Go.Proofs.YtnmbfjgcmfjdcaaGreatDoor

section
open Go.RowKit
variable {B b0 o0 b1 o1:Nat} {w w':World} {v0 v1:Value} {h1 l1 h2 l2 a b h l n:Int}
theorem av:(∀{α:Type} (l:List α) (i:Nat) (h:i<l.toArray.size),l.toArray[i]=l[i]'(by simpa using h))∧(∀{α:Type} (a:α) (l:List α) (h:0<(a::l).length),(a::l)[0]=a)∧(∀{α:Type} (a:α) (l:List α) (i:Nat) (h:i+1<(a::l).length),(a::l)[i+1]=l[i]'(by simpa using h))∧(∀(a:Act) (d:Option Nat) (v:Value),Act.put a d v=(match d with|some n=>{a with tmps:=a.tmps.setIfInBounds n v}|none=>a))∧(∀{α:Type} (l:List α) (i:Nat) (v:α),l.toArray.setIfInBounds i v=(l.set i v).toArray)∧(∀{α:Type} (a:α) (l:List α) (v:α),(a::l).set 0 v=v::l)∧(∀{α:Type} (a:α) (l:List α) (i:Nat) (v:α),(a::l).set (i+1) v=a::l.set i v):=
 ⟨fun _ _ _=>by simp,fun _ _ _=>rfl,fun _ _ _ _=>rfl,fun _ d _=>by cases d<;>rfl,fun _ _ _=>by simp,fun _ _ _=>rfl,fun _ _ _ _=>rfl⟩
theorem hid {p:Prop} (h:p):RowKit.Hid p:=h
theorem xP {W w1:World} (hb:Below B W w1):(∀b o,b<B→w1.cell? ⟨b,o,none⟩=W.cell? ⟨b,o,none⟩)∧(∀b o,b<B→w1.frozen? ⟨b,o,none⟩=W.frozen? ⟨b,o,none⟩):=
 ⟨fun b o h=>hb.cell (p:=⟨b,o,none⟩) h,fun b o h=>hb.frozen (p:=⟨b,o,none⟩) h⟩
theorem aS {b o:Nat} {v:Value} (hb:Below w w w') (h:w.cell? ⟨b,o,none⟩=some v):w'.cell? ⟨b,o,none⟩=some v:=
 (hb.cell (p:=⟨b,o,none⟩) (World.block_lt_of_cell? w _ h)).trans h
theorem MI (h:w.cell? ⟨b0,o0,none⟩=some v0∧w.cell? ⟨b1,o1,none⟩=some v1) (hb:Below w w w'):w'.cell? ⟨b0,o0,none⟩=some v0∧w'.cell? ⟨b1,o1,none⟩=some v1:=
 ⟨aS hb h.1,aS hb h.2⟩
theorem Zh {b0 o0 b1 o1 b2 o2 b3 o3:Nat} {v0 v1 v2 v3:Value} (h:w.cell? ⟨b0,o0,none⟩=some v0∧w.cell? ⟨b1,o1,none⟩=some v1∧w.cell? ⟨b2,o2,none⟩=some v2∧w.cell? ⟨b3,o3,none⟩=some v3) (hb:Below w w w'):w'.cell? ⟨b0,o0,none⟩=some v0∧w'.cell? ⟨b1,o1,none⟩=some v1∧w'.cell? ⟨b2,o2,none⟩=some v2∧w'.cell? ⟨b3,o3,none⟩=some v3:=
 ⟨aS hb h.1,aS hb h.2.1,aS hb h.2.2.1,aS hb h.2.2.2⟩
theorem PL {a w:World} (h:Below B a w) (n:Nat):Below B a (w.drewN n):=⟨h.os,h.tape,h.output,h.size,h.block⟩
def dO (h l n:Int):Prop:= -9223372036854775808≤h∧h≤9223372036854775807∧0≤l∧l≤18446744073709551615∧n=h*18446744073709551616+l
def WR (n:Int):Prop:= -170141183460469231731687303715884105728≤n∧n≤170141183460469231731687303715884105727
def rZ (h l:Int) (ok:Bool) (n:Int):Prop:=(ok=true∧WR n∧dO h l n)∨(ok=false∧¬WR n∧h=0∧l=0)
theorem QA (ha:dO h1 l1 a) (hb:dO h2 l2 b) (s:Int) (hs:s=wrap64 ((IntKind.u64.wrap h1+IntKind.u64.wrap h2+(l1+l2)/18446744073709551616)%18446744073709551616)):
  (¬((h1<0↔h2<0)∧¬(s<0↔h2<0))→rZ s ((l1+l2)%18446744073709551616) true (a+b))∧
  ((h1<0↔h2<0)→¬(s<0↔h2<0)→rZ 0 0 false (a+b)):=by
 obtain⟨a1,a2,a3,a4,a5⟩:=ha;obtain⟨b1,b2,b3,b4,b5⟩:=hb;rw[IntKind.wrap_u64,IntKind.wrap_u64] at hs;unfold wrap64 at hs;refine⟨fun h=> .inl ⟨rfl,?_,?_⟩,fun h h'=> .inr ⟨rfl,?_,rfl,rfl⟩⟩
 ·unfold WR;omega
 ·unfold dO;omega
 ·unfold WR;omega
theorem Qz (ha:dO h1 l1 a) (hb:dO h2 l2 b) (c:Int) (hc:(c=1∧l1<l2)∨(c=0∧¬l1<l2)) (s:Int) (hs:s=wrap64 ((IntKind.u64.wrap h1-IntKind.u64.wrap h2-c)%18446744073709551616)):
  (¬(¬(h1<0↔h2<0)∧¬(s<0↔h1<0))→rZ s ((l1-l2)%18446744073709551616) true (a-b))∧
  (¬(h1<0↔h2<0)→¬(s<0↔h1<0)→rZ 0 0 false (a-b)):=by
 obtain⟨a1,a2,a3,a4,a5⟩:=ha;obtain⟨b1,b2,b3,b4,b5⟩:=hb;rw[IntKind.wrap_u64,IntKind.wrap_u64] at hs;unfold wrap64 at hs;refine⟨fun h=> .inl ⟨rfl,?_,?_⟩,fun h h'=> .inr ⟨rfl,?_,rfl,rfl⟩⟩
 ·unfold WR;omega
 ·unfold dO;omega
 ·unfold WR;omega
def qd (c a b:Int):Prop:=(c= -1∧a<b)∨(c=0∧a=b)∨(c=1∧b<a)
def fK (a b:Int):Int:=if a<b then-1 else if a=b then 0 else 1
theorem qd.eq {c a b:Int} (h:qd c a b):c=fK a b:=by
 unfold qd at h;unfold fK;split
 ·omega
 ·split<;>omega
theorem Lj (h:a<b):fK a b= -1:=by unfold fK;rw[if_pos h]
theorem Lm (a:Int):fK a a=0:=by unfold fK;rw[if_neg af,if_pos rfl]
theorem Ll (h:b<a):fK a b=1:=by unfold fK;rw[if_neg af,if_neg af]
theorem Po (a b:Int):fK a b= -fK b a:=by unfold fK;split<;>split<;>(try split)<;>(try split)<;>omega
theorem cwW {P:Prop} (h:P:=by
 obtain⟨a1,a2,a3,a4,a5⟩:=ha;obtain⟨b1,b2,b3,b4,b5⟩:=hb;unfold qd;omega):P:=h
theorem Im (ha:dO h1 l1 a) (hb:dO h2 l2 b) (h:h1<h2∨h1=h2∧l1<l2):qd (-1) a b:=by
 exact cwW
theorem Io (ha:dO h1 l1 a) (hb:dO h2 l2 b) (h:h2<h1∨h1=h2∧l2<l1):qd 1 a b:=by
 exact cwW
theorem RB (ha:dO h1 l1 a) (hb:dO h1 l1 b):qd 0 a b:=by
 exact cwW
theorem Gq:dO 0 0 0:=by unfold dO;omega
theorem dO.inj (ha:dO h1 l1 a) (hb:dO h2 l2 a):h1=h2∧l1=l2:=by
 obtain⟨a1,a2,a3,a4,a5⟩:=ha;obtain⟨b1,b2,b3,b4,b5⟩:=hb;omega
theorem dO.wr (ha:dO h l a):WR a:=by
 obtain⟨a1,a2,a3,a4,a5⟩:=ha;unfold WR;omega
def nU (h l n:Int):Prop:=0≤h∧h≤18446744073709551615∧0≤l∧l≤18446744073709551615∧h*18446744073709551616+l=n
def ic (n:Int):Int:=if n<0 then 0-n else n
theorem Ry (ha:dO h1 l1 a) (h:0≤h1):nU h1 l1 (ic a)∧h1≤9223372036854775808:=by
 obtain⟨a1,a2,a3,a4,a5⟩:=ha;unfold nU ic;refine⟨⟨by omega,by omega,by omega,by omega,?_⟩,by omega⟩;rw[if_neg af];omega
theorem Rz (ha:dO h1 l1 a) (h:h1<0) (c:Int) (hc:(c=1∧0<l1)∨(c=0∧¬0<l1)):
  nU ((-IntKind.u64.wrap h1-c)%18446744073709551616) (-l1%18446744073709551616) (ic a)∧(-IntKind.u64.wrap h1-c)%18446744073709551616≤9223372036854775808:=by
 obtain⟨a1,a2,a3,a4,a5⟩:=ha;rw[IntKind.wrap_u64];unfold nU ic;refine⟨⟨by omega,by omega,by omega,by omega,?_⟩,by omega⟩;rw[if_pos af];omega
def Ju (n:Int) (w:World) (e:Ending) (w':World):Prop:=
 ∃(h l:Int) (ok:Bool),e= .returned (.tuple #[.agg #[.int .i64 h, .int .u64 l], .bool ok])∧rZ h l ok n∧Below w w w'
theorem Uy (hn:nU h l n) (p:h≤9223372036854775807):rZ h l true n:=by
 obtain⟨n1,n2,n3,n4,n5⟩:=hn;refine .inl ⟨rfl,?_,?_⟩
 ·unfold WR;omega
 ·unfold dO;omega
theorem LM (hn:nU h l n) (p:9223372036854775807<h):rZ 0 0 false n:=by
 obtain⟨n1,n2,n3,n4,n5⟩:=hn;refine .inr ⟨rfl,?_,rfl,rfl⟩;unfold WR;omega
theorem Nn (hn:nU h l n) (c:Int) (hc:(c=1∧0<l)∨(c=0∧¬0<l)) (s:Int) (hs:s=wrap64 ((-h-c)%18446744073709551616)):
  (s<0∨(s=0∧-l%18446744073709551616=0)→rZ s (-l%18446744073709551616) true (-n))∧(0≤s→¬(s=0∧-l%18446744073709551616=0)→rZ 0 0 false (-n)):=by
 obtain⟨n1,n2,n3,n4,n5⟩:=hn;unfold wrap64 at hs;refine⟨fun h=> .inl ⟨rfl,?_,?_⟩,fun h h'=> .inr ⟨rfl,?_,rfl,rfl⟩⟩
 ·unfold WR;omega
 ·unfold dO;omega
 ·unfold WR;omega
end


section
open Go.RowKit
def eZ (t:Int):Prop:=0≤t∧t≤18446744073709551615
def aH (t u:Int):Int:=(t-u+9223372036854775808)%18446744073709551616-9223372036854775808
def il (t d:Int):Int:=(t+d)%18446744073709551616
theorem og (t u:Int): -9223372036854775808≤aH t u∧aH t u≤9223372036854775807:=by unfold aH;omega
theorem Gv (t d:Int):eZ (il t d):=by unfold eZ il;omega
theorem Jf (t:Int):aH t t=0:=by unfold aH;omega
theorem Vf (t:Int) {d:Int} (h0: -9223372036854775808≤d) (h1:d≤9223372036854775807):aH (il t d) t=d:=by unfold aH il;omega
theorem SA {t:Int} (h:eZ t):il t 0=t:=by unfold eZ at h;unfold il;omega
theorem Lh {t u v:Int} (h0: -9223372036854775808≤aH t u+aH u v) (h1:aH t u+aH u v≤9223372036854775807):aH t v=aH t u+aH u v:=by unfold aH at *;omega
def Ua (R W:Int):Prop:=1≤W∧W≤1048576∧0≤R∧R<W
def BF (d w:Int):Prop:=1≤w∧w≤1048576∧-9223372036854775808≤d/w∧d/w≤9223372036854775807
theorem Bq {q b r a:Int} (h:q*b+r=a) (r0:0≤r) (r1:r<b):q=a/b∧r=a%b:=by
 have hb:0<b:=af;have e:a=r+b*q:=by rw[Int.mul_comm b q];omega
 constructor
 ·rw[e,Int.add_mul_ediv_left _ _ af,Int.ediv_eq_zero_of_lt r0 r1];omega
 ·rw[e,Int.add_mul_emod_self_left,Int.emod_eq_of_lt r0 r1]
def mO (t r w u s v:Int):Int:=if aH u t≠0 then fK 0 (aH u t) else fK (r*v) (s*w)
end


section
open Go.RowKit
variable {a h l:Int}
def aJ (a:Int):Int:=a/18446744073709551616
def aI (a:Int):Int:=a%18446744073709551616
theorem kr (h:WR a):dO (aJ a) (aI a) a:=by unfold WR at h;unfold dO aJ aI;omega
theorem dO.words (hw:dO h l a):h=aJ a∧l=aI a:=dO.inj hw (kr hw.wr)
abbrev wv (a:Int):Value:= .agg #[.int .i64 (aJ a), .int .u64 (aI a)]
theorem MQ:aJ 0=0:=by decide
theorem MB:aI 0=0:=by decide
def okW (a:Int):Bool:=decide (-170141183460469231731687303715884105728≤a∧a≤170141183460469231731687303715884105727)
theorem dG:okW a=true↔WR a:=by unfold okW WR;rw[decide_eq_true_eq]
theorem Ot (h:okW a=false):¬WR a:=fun h2=>by rw[dG.2 h2] at h;cases h
def eQ (a:Int):Int:=if okW a=true then a else 0
theorem jg (h:okW a=true):eQ a=a:=by unfold eQ;rw[if_pos h]
theorem Di (h:okW a=false):eQ a=0:=by unfold eQ;rw[if_neg (by rw[h];decide)]
theorem BG {ok:Bool} {n:Int} (hr:rZ h l ok n):h=aJ (eQ n)∧l=aI (eQ n)∧ok=okW n:=by
 rcases hr with⟨rfl,h1,h2⟩|⟨rfl,h1,rfl,rfl⟩
 ·have hk:=dG.2 h1;rw[jg hk,hk];exact⟨h2.words.1,h2.words.2,rfl⟩
 ·have hk:okW n=false:=by cases h:okW n;rfl;exact absurd (dG.1 h) h1
  rw[Di hk,hk];exact⟨MQ.symm,MB.symm,rfl⟩
abbrev P3:=Int×Int×Int
abbrev pv (p:P3):Value:= .agg #[.int .u64 p.1, .int .u32 p.2.1, .int .u32 p.2.2]
def pR (p:P3):Bool:=decide (1≤p.2.2∧p.2.2≤1048576)&&decide (p.2.1<p.2.2)
def dJ (p:P3):Prop:=(0≤p.1∧p.1≤18446744073709551615)∧(0≤p.2.1∧p.2.1≤4294967295)∧(0≤p.2.2∧p.2.2≤4294967295)
def pD (base:Int) (p:P3):Int:=aH p.1 base*p.2.2+p.2.1
theorem kQ {p:P3} (hp:dJ p) (h:pR p=true):Ua p.2.1 p.2.2:=by
 unfold pR at h;simp only[Bool.and_eq_true,decide_eq_true_eq] at h;exact⟨h.1.1,h.1.2,hp.2.1.1,h.2⟩
theorem xy {d v M V:Int} (h0: -M≤d) (h1:d≤M) (v0:0≤v) (v1:v≤V) (hM:0≤M): -(M*V)≤d*v∧d*v≤M*V:=by
 have a:=Int.mul_le_mul_of_nonneg_right h0 v0;have b:=Int.mul_le_mul_of_nonneg_right h1 v0;have c:=Int.mul_le_mul_of_nonneg_left v1 hM;rw[Int.neg_mul] at a;omega
theorem aa3 (base:Int) {p:P3} (hp:dJ p): -39614081257132168796771975168≤pD base p∧pD base p≤39614081257132168800000000000:=by
 obtain⟨d0,d1⟩:=og p.1 base;have:=xy (M:=9223372036854775808) af af hp.2.2.1 hp.2.2.2 ak;obtain⟨r0,r1⟩:=hp.2.1;unfold pD;omega
theorem vV (base:Int) {p:P3} (hp:dJ p) (h:pR p=true): -9671406556917033397649408≤pD base p∧pD base p≤9671406556917033397649408+1048576:=by
 obtain⟨d0,d1⟩:=og p.1 base;obtain⟨v0,v1,r0,r1⟩:=kQ hp h;have:=xy (M:=9223372036854775808) (V:=1048576) af af af v1 ak;unfold pD;omega
structure Mu where
 (b a w n:Int)
abbrev Mu.val (m:Mu):Value:= .agg #[.int .u64 m.b, .int .i64 (aJ m.a), .int .u64 (aI m.a), .int .u64 m.w, .int .i64 m.n]
def Mu.cells (m:Mu):List Value:=[.int .u64 m.b, .int .i64 (aJ m.a), .int .u64 (aI m.a), .int .u64 m.w, .int .i64 m.n]
instance:Coe Mu (List Value):=⟨fun x=>[.int .u64 x.b, .int .i64 (aJ x.a), .int .u64 (aI x.a), .int .u64 x.w, .int .i64 x.n]⟩
instance:Coe Mu (Array Value):=⟨fun x=> #[.int .u64 x.b, .int .i64 (aJ x.a), .int .u64 (aI x.a), .int .u64 x.w, .int .i64 x.n]⟩
def Mu.In (m:Mu):Prop:=(0≤m.b∧m.b≤18446744073709551615)∧WR m.a∧(0≤m.w∧m.w≤18446744073709551615)∧(-9223372036854775808≤m.n∧m.n≤9223372036854775807)
def Mu.right (m:Mu):Bool:=if m.n=0 then decide (m.a=0)&&decide (m.w=0) else decide (1≤m.n∧m.n≤32)&&decide (m.n≤m.w∧m.w≤m.n*1048576)
abbrev Mu.no:Mu:=⟨0,0,0,0⟩
theorem Mu.uG:Mu.no.In:=by unfold Mu.In WR;refine⟨⟨?_,?_⟩,⟨?_,?_⟩,⟨?_,?_⟩,?_,?_⟩<;>decide
def Mu.pX (m:Mu) (p:P3):Bool:=m.right&&pR p&&decide (m.n<32)&&okW (m.a+pD m.b p)
def Mu.add (m:Mu) (p:P3):Bool×Mu:=if m.pX p=true then(true,⟨m.b,m.a+pD m.b p,m.w+p.2.2,m.n+1⟩) else(false,Mu.no)
def Mu.left (m:Mu) (p:P3):Mu:=⟨m.b,if m.n=1 then 0 else m.a-pD m.b p,m.w-p.2.2,m.n-1⟩
def Mu.j5 (m:Mu) (p:P3):Bool:=m.right&&pR p&&decide (m.n≠0)&&(decide (m.n=1)||okW (m.a-pD m.b p))&&decide (p.2.2≤m.w)&&(m.left p).right
def Mu.take (m:Mu) (p:P3):Bool×Mu:=if m.j5 p=true then(true,m.left p) else(false,Mu.no)
def Mu.zP (m:Mu) (t:Int):Bool:=m.right&&okW (m.a-aH t m.b*m.w)
def Mu.q9 (m:Mu) (t:Int):Bool×Mu:=if m.zP t=true then(true,⟨t,m.a-aH t m.b*m.w,m.w,m.n⟩) else(false,Mu.no)
def sD (x:Int):Bool:=decide (-9223372036854775808≤x∧x≤9223372036854775807)
def Mu.vG (m:Mu):Bool:=m.right&&decide (m.n≠0)&&sD (m.a/m.w)
def Mu.fl (m:Mu):Bool×Int:=if m.vG=true then(true,il m.b (m.a/m.w)) else(false,0)
def dD (base:Int) (l:List P3):Int:=(l.map (pD base)).sum
def dL (l:List P3):Int:=(l.map fun p=>p.2.2).sum
theorem gu (base:Int) (p:P3) (l:List P3):dD base (p::l)=pD base p+dD base l:=by simp[dD]
theorem gU (p:P3) (l:List P3):dL (p::l)=p.2.2+dL l:=by simp[dL]
theorem AJ (base:Int) (l k:List P3):dD base (l++k)=dD base l+dD base k:=by simp[dD]
theorem AB (l k:List P3):dL (l++k)=dL l+dL k:=by simp[dL]
theorem G7 (base:Int):dD base []=0:=rfl
theorem QH:dL []=0:=rfl
theorem zM {l:List P3} (hr:∀p∈l,Ua p.2.1 p.2.2):(l.length:Int)≤dL l∧dL l≤l.length*1048576:=by
 induction l with
 |nil=>exact⟨by decide,by decide⟩
 |cons p l ih=>
  obtain⟨h0,h1⟩:=ih (fun q hq=>hr q (by simp[hq]));obtain⟨v0,v1,_,_⟩:=hr p ag;rw[gU,List.length_cons];push_cast
  omega
theorem KF (base:Int) {l:List P3} (hr:∀p∈l,pR p=true∧dJ p): -(l.length*9671406556917033397649408)≤dD base l∧dD base l≤l.length*9671406556917033398697984:=by
 induction l with
 |nil=>rw[G7];exact⟨by simp,by simp⟩
 |cons p l ih=>
  obtain⟨h0,h1⟩:=ih (fun q hq=>hr q (by simp[hq]));obtain⟨v0,v1⟩:=vV base (hr p ag).2 (hr p ag).1;rw[gu,List.length_cons];push_cast
  omega
def Mu.sums (base:Int) (l:List P3):Mu:=⟨base,dD base l,dL l,l.length⟩
theorem zK (base:Int) {l:List P3} (hr:∀p∈l,pR p=true∧dJ p) (hn:l.length≤40):WR (dD base l):=by
 have:=KF base hr;unfold WR;omega
theorem nA (base:Int) {l:List P3} (hr:∀p∈l,pR p=true∧dJ p) (hn:l.length≤32):(Mu.sums base l).right=true:=by
 have hw:=zM (l:=l) (fun p hp=>kQ (hr p hp).2 (hr p hp).1);unfold Mu.right Mu.sums;split
 ·rename_i h;have:l=[]:=List.eq_nil_of_length_eq_zero (by simpa using h);subst this;rfl
 ·rename_i h;simp only at h⊢
  simp only[Bool.and_eq_true,decide_eq_true_eq];omega
theorem QG (base:Int) {l:List P3} {p:P3} (hr:∀q∈l,pR q=true∧dJ q) (hp:pR p=true∧dJ p) (hn:l.length<32):(Mu.sums base l).add p=(true,Mu.sums base (l++[p])):=by
 have hr2:∀q∈l++[p],pR q=true∧dJ q:=fun q hq=>by
  rcases List.mem_append.1 hq with h|h
  ·exact hr q h
  ·simp at h;subst h;exact hp
 have h1:=nA base hr af;have h2:=zK base hr2 (by simp;omega);have e:dD base (l++[p])=dD base l+pD base p:=by rw[AJ,gu,G7];omega
 have e2:dL (l++[p])=dL l+p.2.2:=by rw[AB,gU,QH];omega
 rw[e] at h2
 have hok:(Mu.sums base l).pX p=true:=by
  unfold Mu.pX;rw[h1,hp.1];simp only[Bool.true_and,Bool.and_eq_true,decide_eq_true_eq];exact⟨by unfold Mu.sums;simp;omega,dG.2 h2⟩
 unfold Mu.add;rw[if_pos hok];unfold Mu.sums;rw[e,e2];simp
def Mu.pO (m:Mu) (p:P3):Bool:=m.right&&decide (m.n≠0)&&pR p&&okW (m.a*p.2.2)&&okW (m.a*p.2.2-pD m.b p*m.w)
def Mu.ov (m:Mu) (p:P3):Int:=m.a*p.2.2-pD m.b p*m.w
def Mu.over (m:Mu) (p:P3):Bool×Int:=if m.pO p=true then(true,m.ov p) else(false,0)
def Mu.lag (m:Mu) (p:P3):Bool×Int:=if m.pO p=true then(true,m.ov p/m.w) else(false,0)
def Mu.jM (m:Mu) (p:P3):Bool:=(m.over p).1&&decide (0≤fK (m.over p).2 0)
end


section
open Go.RowKit
variable {l:List P3} {t lo hi A W:Int}
theorem uR {x t b:Int} (h0: -9223372036854775808≤aH x t-b) (h1:aH x t-b≤9223372036854775807):aH x (il t b)=aH x t-b:=by unfold aH il at *;omega
theorem VG (h:∀p∈l,pR p=true∧dJ p) (hl:∀p∈l,lo≤aH p.1 t):lo*dL l≤dD t l:=by
 induction l with
 |nil=>simp[dL,dD]
 |cons p l ih=>
  have h1:=ih (fun q hq=>h q (by simp[hq])) (fun q hq=>hl q (by simp[hq]));obtain⟨v0,v1,r0,r1⟩:=kQ (h p ag).2 (h p ag).1;have h2:=Int.mul_le_mul_of_nonneg_right (hl p ag) (show 0≤p.2.2 by omega);rw[gU,gu,Int.mul_add];unfold pD;omega
theorem VH (h:∀p∈l,pR p=true∧dJ p) (hl:∀p∈l,aH p.1 t≤hi):dD t l+l.length≤(hi+1)*dL l:=by
 induction l with
 |nil=>simp[dL,dD]
 |cons p l ih=>
  have h1:=ih (fun q hq=>h q (by simp[hq])) (fun q hq=>hl q (by simp[hq]));obtain⟨v0,v1,r0,r1⟩:=kQ (h p ag).2 (h p ag).1;have h2:=Int.mul_le_mul_of_nonneg_right (hl p ag) (show 0≤p.2.2 by omega);rw[gU,gu,Int.mul_add,List.length_cons,Int.add_mul hi 1 p.2.2];unfold pD;push_cast
  omega
theorem TI (hW:0<W) (h:lo*W≤A):lo≤A/W:=Int.le_ediv_of_mul_le hW h
theorem TJ (hW:0<W) (h:A<hi*W):A/W<hi:=Int.ediv_lt_of_lt_mul hW h
theorem AA (h:∀p∈l,pR p=true∧dJ p) (hn:0<l.length):0<dL l:=by
 have:=zM (l:=l) (fun p hp=>kQ (h p hp).2 (h p hp).1);omega
theorem Va (h:∀p∈l,pR p=true∧dJ p) (hn:0<l.length) (h0:∀p∈l,lo≤aH p.1 t) (h1:∀p∈l,aH p.1 t≤hi):lo≤dD t l/dL l∧dD t l/dL l≤hi:=by
 have hW:=AA h hn;have a:=TI hW (VG h h0);have b:=TJ (A:=dD t l) (hi:=hi+1) hW (by have:=VH (t:=t) (hi:=hi) h h1;omega);exact⟨a,by omega⟩
theorem Sj (A b:Int) (hW:0<W):(A-b*W)/W=A/W-b:=by
 rw[Int.sub_eq_add_neg,←Int.neg_mul,Int.add_mul_ediv_right _ _ af];omega
def Ew (p q:P3):Int:=mO p.1 p.2.1 p.2.2 q.1 q.2.1 q.2.2
def ZO (d:Int) (p:P3):P3:=(IntKind.u64.wrap (p.1+d),p.2.1,p.2.2)
end


section
open Go.RowKit
variable {p:P3} {l:List P3} {t:Int}
theorem Ou {a:Int} (h0: -170141183460469231731687303715884105728≤a) (h1:a≤170141183460469231731687303715884105727):okW a=true:=dG.2 ⟨h0,h1⟩
theorem KJ {m:Mu} (h:m.right=true) (hn:m.n≠0):(1≤m.n∧m.n≤32)∧m.n≤m.w∧m.w≤33554432:=by
 unfold Mu.right at h;rw[if_neg hn] at h;simp only[Bool.and_eq_true,decide_eq_true_eq] at h;omega
theorem kG {m:Mu} (h:m.right=true):(0≤m.n∧m.n≤32)∧0≤m.w∧m.w≤33554432:=by
 unfold Mu.right at h;split at h
 ·simp only[Bool.and_eq_true,decide_eq_true_eq] at h;omega
 ·simp only[Bool.and_eq_true,decide_eq_true_eq] at h;omega
theorem VX {m:Mu} (hm:m.right=true) (hn:m.n≠0) (hp:pR p=true∧dJ p) (a0: -1267650600228229401496703205376≤m.a) (a1:m.a≤1267650600228229401496703205376):m.pO p=true:=by
 obtain⟨v0,v1,r0,r1⟩:=kQ hp.2 hp.1;obtain⟨_,w0,w1⟩:=KJ hm hn;have e1:=xy (V:=1048576) a0 a1 (show 0≤p.2.2 by omega) v1 ak;have e2:=vV m.b hp.2 hp.1;have e3:=xy (d:=pD m.b p) (M:=9671406556917033398697984) (V:=33554432) af af (show 0≤m.w by omega) w1 ak;unfold Mu.pO;rw[hm,hp.1];simp only[Bool.true_and,Bool.and_true,Bool.and_eq_true,decide_eq_true_eq];exact⟨⟨hn,Ou af af⟩,Ou af af⟩
theorem NG (t:Int) (hr:∀p∈l,pR p=true∧dJ p) (hn:l.length≤40): -1267650600228229401496703205376≤dD t l∧dD t l≤1267650600228229401496703205376:=by
 have:=KF t hr;omega
theorem VF (h0:0<l.length):(Mu.sums t l).n≠0:=by
 show((l.length:Nat):Int)≠0
 omega
theorem UE (hr:∀p∈l,pR p=true∧dJ p) (hn:l.length≤32) (h0:0<l.length) (hp:pR p=true∧dJ p):(Mu.sums t l).pO p=true:=
 VX (nA t hr hn) (VF h0) hp (NG t hr af).1 (NG t hr af).2
def Mu.Co (m:Mu) (w o:Int):Int:=(m.a*w-o*(m.w+w))/m.w
def Mu.l9 (m:Mu) (w o:Int):Bool:=okW (m.a*w)&&okW (m.a*w-o*(m.w+w))
def atOk (d v:Int):Bool:=decide (1≤v∧v≤1048576)&&sD (d/v)
def sG (base d v:Int):P3:=if atOk d v=true then(il base (d/v),d%v,v) else(0,0,0)
theorem ui {d v:Int}:atOk d v=true↔BF d v:=by
 unfold atOk BF sD;simp only[Bool.and_eq_true,decide_eq_true_eq];constructor
 ·intro h;exact⟨h.1.1,h.1.2,h.2⟩
 ·intro h;exact⟨⟨h.1,h.2.1⟩,h.2.2⟩
end


section
open Go.RowKit
variable {k:Nat} {l:List P3}
theorem G8 (hk:k<l.length):l=l.take k++l.getD k (0,0,0)::l.drop (k+1):=by
 have e:l.getD k (0,0,0)=l[k]:=by simp[List.getD,hk]
 rw[e,List.getElem_cons_drop hk,List.take_append_drop]
theorem L8 (t:Int) (hk:k<l.length):dD t l=dD t (l.take k++l.drop (k+1))+pD t (l.getD k (0,0,0)):=by
 have:=congrArg (dD t) (G8 hk);rw[AJ,gu] at this;rw[AJ];omega
theorem L6 (hk:k<l.length):dL l=dL (l.take k++l.drop (k+1))+(l.getD k (0,0,0)).2.2:=by
 have:=congrArg dL (G8 hk);rw[AB,gU] at this;rw[AB];omega
theorem OM (hk:k<l.length):(l.take k++l.drop (k+1)).length=l.length-1:=by simp;omega
theorem OC {q:P3} (h:q∈l.take k++l.drop (k+1)):q∈l:=by
 rcases List.mem_append.1 h with h|h
 ·exact List.mem_of_mem_take h
 ·exact List.mem_of_mem_drop h
theorem R6 (hk:k<l.length):l.getD k (0,0,0)∈l:=by
 have e:l.getD k (0,0,0)=l[k]:=by simp[List.getD,hk]
 rw[e];exact List.getElem_mem hk
theorem NF (t:Int) (hr:∀p∈l,pR p=true∧dJ p) (hk:k<l.length) (hn:l.length≤32):
  (Mu.sums t l).take (l.getD k (0,0,0))=(true,Mu.sums t (l.take k++l.drop (k+1))):=by
 have hr2:∀p∈l.take k++l.drop (k+1),pR p=true∧dJ p:=fun q hq=>hr q (OC hq);have hp:=hr _ (R6 hk);have e1:=L8 t hk;have e2:=L6 hk;have e3:=OM hk;have h1:=nA t hr hn;have h2:=nA t hr2 af;have h3:=zK t hr2 af;have hw:=zM (l:=l.take k++l.drop (k+1)) (fun p hp=>kQ (hr2 p hp).2 (hr2 p hp).1)
 have hl:(Mu.sums t l).left (l.getD k (0,0,0))=Mu.sums t (l.take k++l.drop (k+1)):=by
  unfold Mu.left Mu.sums;simp only;have hn1:(l.length:Int)-1=((l.take k++l.drop (k+1)).length:Nat):=af;rw[hn1]
  have hd:(if (l.length:Int)=1 then 0 else dD t l-pD t (l.getD k (0,0,0)))=dD t (l.take k++l.drop (k+1)):=by
   split
   ·have:l.take k++l.drop (k+1)=[]:=List.eq_nil_of_length_eq_zero af;rw[this];rfl
   ·omega
  rw[hd,show dL l-(l.getD k (0,0,0)).2.2=dL (l.take k++l.drop (k+1)) by omega]
 have hok:(Mu.sums t l).j5 (l.getD k (0,0,0))=true:=by
  unfold Mu.j5;rw[hl,h1,h2,hp.1]
  have ea:(Mu.sums t l).a-pD (Mu.sums t l).b (l.getD k (0,0,0))=dD t (l.take k++l.drop (k+1)):=by
   show dD t l-pD t _=_
   omega
  rw[ea,dG.2 h3];simp only[Bool.true_and,Bool.and_true,Bool.or_true,Bool.and_eq_true,decide_eq_true_eq];refine⟨?_,?_⟩
  ·show((l.length:Nat):Int)≠0
   omega
  ·show(l.getD k (0,0,0)).2.2≤dL l
   omega
 unfold Mu.take;rw[if_pos hok,hl]
def rQ (m:Mu) (l:List P3):Int:=(l.map m.ov).sum
theorem KE (m:Mu):∀l:List P3,rQ m l=m.a*dL l-dD m.b l*m.w
 |[]=>by simp[rQ,dL,dD]
 |p::l=>by
  have:=KE m l;have e:rQ m (p::l)=m.ov p+rQ m l:=by simp[rQ]
  rw[e,this,gU,gu];unfold Mu.ov;rw[Int.mul_add,Int.add_mul];omega
theorem NI (t:Int) (l:List P3):rQ (Mu.sums t l) l=0:=by
 rw[KE];show dD t l*dL l-dD t l*dL l=0
 omega
theorem KG {m:Mu}:∀{l:List P3},0<l.length→0≤rQ m l→∃p∈l,0≤m.ov p
 |[p],_,h=>⟨p,by simp,by simpa[rQ] using h⟩
 |p::q::l,_,h=>by
  by_cases c:0≤m.ov p
  ·exact⟨p,by simp,c⟩
  ·have e:rQ m (p::q::l)=m.ov p+rQ m (q::l):=by simp[rQ]
   obtain⟨r,hr,h2⟩:=KG (m:=m) (l:=q::l) ag af;exact⟨r,by simp at hr⊢;exact Or.inr hr,h2⟩
theorem zL {base:Int} (hb:eZ base) (hr:∀p∈l,pR p=true∧dJ p) (hn:l.length≤32):(Mu.sums base l).In:=by
 have h1:=zK base hr af;have h2:=zM (l:=l) (fun p hp=>kQ (hr p hp).2 (hr p hp).1);refine⟨hb,h1,⟨?_,?_⟩,?_,?_⟩
 ·show 0≤dL l;omega
 ·show dL l≤_;omega
 ·show _≤((l.length:Nat):Int);omega
 ·show((l.length:Nat):Int)≤_;omega
end


section
open Go.RowKit
def Mu.wf (m:Mu) (v x:Int):Int:=m.a*(x-v)/m.w
def Mu.GM (m:Mu) (p:P3) (x:Int):Bool:=m.right&&decide (m.n≠0)&&pR p&&okW (m.a*(x-p.2.2))&&okW (pD m.b p+m.wf p.2.2 x)
def Mu.kK (m:Mu) (p:P3) (x:Int):Bool×P3:=
 if m.GM p x=true then(atOk (pD m.b p+m.wf p.2.2 x) x,sG m.b (pD m.b p+m.wf p.2.2 x) x) else(false,(0,0,0))
end


section
open Go.RowKit
variable {x:Int} {k:Nat} {l:List Int}
def mP:Int:=170141183460469231731687303715884105727
def q8 (x:Int):Int:=if 0≤x then x else if x= -170141183460469231731687303715884105728 then mP else-x
theorem G5 (h:WR x):0≤q8 x∧q8 x≤mP:=by unfold WR at h;unfold q8 mP;split;omega;split<;>omega
theorem VD (h:WR x):WR (q8 x):=by have:=G5 h;unfold mP at this;unfold WR;omega
def jh (l:List Int):Int:=(l.map fun x=>q8 x+2).sum
def oH (l:List Int):Int:=min (jh l) mP
theorem xM:jh []=0:=rfl
theorem FJ (x:Int) (l:List Int):jh (x::l)=q8 x+2+jh l:=by simp[jh]
theorem Jl (l k:List Int):jh (l++k)=jh l+jh k:=by simp[jh]
theorem zW:∀{l:List Int},(∀x∈l,WR x)→0≤jh l
 |[],_=>by rw[xM];omega
 |x::l,h=>by
  have h1:=zW (l:=l) (fun y hy=>h y (by simp[hy]));have h2:=G5 (h x ag);rw[FJ];omega
theorem PE (hk:k<l.length):jh (l.take (k+1))=jh (l.take k)+(q8 (l.getD k 0)+2):=by
 have e:l.getD k 0=l[k]:=by simp[List.getD,hk]
 rw[List.take_succ_eq_append_getElem hk,Jl,e,FJ,xM];omega
theorem Vm (h:∀x∈l,WR x) (k:Nat):jh (l.take k)≤jh l:=by
 have e:=Jl (l.take k) (l.drop k);rw[List.take_append_drop] at e;have:=zW (l:=l.drop k) (fun x hx=>h x (List.mem_of_mem_drop hx));omega
theorem PH (h:∀x∈l,WR x) (hk:mP<jh (l.take k)):oH l=mP:=by
 have:=Vm h k;unfold oH;omega
theorem Vo (hk:jh l≤mP):oH l=jh l:=by unfold oH;omega
end

end Go.Proofs.YtnmbfjgcmfjdcaaGreatDoor
