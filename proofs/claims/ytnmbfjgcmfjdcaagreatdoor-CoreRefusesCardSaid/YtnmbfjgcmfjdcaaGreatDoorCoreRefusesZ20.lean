/- Texts of CoreRefuses's proof, together. -/
import Derived.Test.YtnmbfjgcmfjdcaaGreatDoorCoreRefusesZ19
import Derived.Test.YtnmbfjgcmfjdcaaGreatDoorCoreRefusesZ3
namespace Go.Proofs.YtnmbfjgcmfjdcaaGreatDoor

section
open Go.RowKit
variable {x:It} {g:Nat} {w:World} {Q:Exit→Act→World→Prop} {a:Act} {rest:List Oper} {ops:Array Oper}
theorem dx:(Tryz.prog.info? 57).map (·.size)=some 7:=by kernel_rfl
def Th (w:World) (g:Nat) (x:It):Prop:=w.cell? ⟨g,0,none⟩=some (.int .u64 x.t)∧w.cell? ⟨g,1,none⟩=some (.int .u32 x.r)∧w.cell? ⟨g,2,none⟩=some (.int .u32 x.v)∧w.cell? ⟨g,3,none⟩=some (.int .i64 x.i)∧w.cell? ⟨g,4,none⟩=some (.int .u64 x.u)∧w.cell? ⟨g,5,none⟩=some (.int .u32 x.s)∧w.cell? ⟨g,6,none⟩=some (.int .u32 x.y)
theorem Th.below {w w':World} (h:Th w g x) (hb:Below w w w'):Th w' g x:=⟨aS hb h.1,aS hb h.2.1,aS hb h.2.2.1,aS hb h.2.2.2.1,aS hb h.2.2.2.2.1,aS hb h.2.2.2.2.2.1,aS hb h.2.2.2.2.2.2⟩
theorem Cs.nW (h:Cs w g x.cells):Th w g x:=It.at x h
theorem Cs.putAt {vs:List Value} (h:Cs w g vs) (i:Nat) (hi:i<vs.length) (u:Value):Cs (w.setCell ⟨g,i,none⟩ u) g (vs.set i u):=by
 intro j x hx;have hv:=h i vs[i] (List.getElem?_eq_getElem hi);by_cases e:i=j
 ·subst e;rw[List.getElem?_set_self hi] at hx;injection hx with hx;subst hx;exact⟨by simp[go_sem,hv.1],by simp[go_sem,hv.2]⟩
 ·rw[List.getElem?_set_ne e] at hx;have:=h j x hx;exact⟨(World.cell?_setCell_other w ⟨g,i,none⟩ ⟨g,j,none⟩ u (fun e'=>by injection e' with _ e2;exact e e2)).trans this.1,by simpa[go_sem] using this.2⟩
theorem Cs.stored (h:Cs w g x.cells) (k:It):Cs (w.setCells g 0 k.cells) g k.cells:=
 ((((((h.putAt 0 (by simp[It.cells]) (.int .u64 k.t)).putAt 1 (by simp[It.cells]) (.int .u32 k.r)).putAt 2 (by simp[It.cells]) (.int .u32 k.v)).putAt 3 (by simp[It.cells]) (.int .i64 k.i)).putAt 4 (by simp[It.cells]) (.int .u64 k.u)).putAt 5 (by simp[It.cells]) (.int .u32 k.s)).putAt 6 (by simp[It.cells]) (.int .u32 k.y)
theorem Cs.qL {b g:Nat} {us:List Value} (hb:b≠g):∀(vs:List Value) {w:World} (o:Nat),Cs w g us→Cs (w.setCells b o vs) g us
 |[],_,_,h=>h
 |v::r,_,o,h=>Cs.qL hb r (o+1) (h.far hb o v)
theorem aU {B b:Nat} {w0:World} (hB:B≤b):∀(vs:List Value) {w:World} (o:Nat),Below B w0 w→Below B w0 (w.setCells b o vs)
 |[],_,_,h=>h
 |v::r,_,o,h=>aU hB r (o+1) (h.setCell hB v)
theorem Cs.vN (h:Cs w g x.cells):w.there g 0 7:=fun j hj=>by
 have e:∃v,x.cells[j]?=some v:=⟨_,List.getElem?_eq_getElem (by simp[It.cells];omega)⟩;obtain⟨v,e⟩:=e;rw[Nat.zero_add];exact⟨by rw[(h _ _ e).1];rfl,(h _ _ e).2⟩
theorem BJ {op:Oper} (T:TypeId) (hT:(Tryz.prog.info? T).map (·.size)=some 7) (hgd:op.guard=none) (x y:Operand) (ho:op.op= .store T x y)
  (b o:Nat) (k:It) (hx:a.eval x= .pointer (some ⟨b,o,none⟩)) (hy:a.eval y=k.val) (ht:w.there b o 7)
  (h:wpList Tryz.prog ops Q rest (a.put op.dst undef) (w.setCells b o k.cells)):wpList Tryz.prog ops Q (op::rest) a w:=
 wpList_store_mid hgd T x y ho b o k hx hy ht hT (by simp[Value.oneCell']) h
theorem dC {op:Oper} (T:TypeId) (hT:(Tryz.prog.info? T).map (·.size)=some 7) (hgd:op.guard=none) (x y:Operand) (ho:op.op= .store T x y)
  (b o:Nat) (k:It) (ht:w.there b o 7) (hx:a.eval x= .pointer (some ⟨b,o,none⟩)) (hy:a.eval y=k.val)
  (h:∀W,W=w.setCells b o k.cells→wpList Tryz.prog ops Q rest (a.put op.dst undef) W):wpList Tryz.prog ops Q (op::rest) a w:=
 BJ T hT hgd x y ho b o k hx hy ht (h _ rfl)
end


section
open Go.RowKit
def xg:List Value→Nat→List Value→List Value
 |us,_,[]=>us
 |us,o,v::r=>xg (us.set o v) (o+1) r
theorem Cs.bH {g:Nat}:∀(vs:List Value) {w:World} {us:List Value} (o:Nat),Cs w g us→o+vs.length≤us.length→Cs (w.setCells g o vs) g (xg us o vs)
 |[],_,_,_,h,_=>h
 |v::r,_,us,o,h,hl=>Cs.bH r (o+1) (h.putAt o (by simp at hl;omega) v) (by simp at hl⊢;omega)
theorem Cs.Nw {w:World} {g:Nat} {us:List Value} (h:Cs w g us):w.there g 0 us.length:=fun j hj=>by
 rw[Nat.zero_add];exact⟨by rw[(h j _ (List.getElem?_eq_getElem hj)).1];rfl,(h j _ (List.getElem?_eq_getElem hj)).2⟩
theorem bG {ops:Array Oper} {rest:List Oper} {op:Oper} {a:Act} {w:World} {Q:Exit→Act→World→Prop} (T:TypeId) (vs:List Value) {n:Nat} (hT:(Tryz.prog.info? T).map (·.size)=some n) (hgd:op.guard=none) (x y:Operand) (ho:op.op= .store T x y)
  (b:Nat) (us:List Value) (hc:Cs w b us) (hn:vs.length=n) (hl:us.length=n) (h1:vs.all (·.oneCell')=true) (hx:a.eval x= .pointer (some ⟨b,0,none⟩)) (hy:a.eval y= .agg vs.toArray)
  (h:∀W,W=w.setCells b 0 vs→wpList Tryz.prog ops Q rest (a.put op.dst undef) W):wpList Tryz.prog ops Q (op::rest) a w:=
 wpList_store_mid hgd T x y ho b 0 vs.toArray hx hy (by have:=hc.Nw;rw[hl,←hn] at this;simpa using this) (by rw[hT,←hn];simp) (by simpa using h1) (h _ rfl)
theorem fE:(Tryz.prog.info? 79).map (·.size)=some 5:=by kernel_rfl
theorem zU:(Tryz.prog.info? 55).map (·.size)=some 3:=by kernel_rfl
theorem fT:(Tryz.prog.info? 42).map (·.size)=some 2:=by kernel_rfl
theorem Mu.at {w:World} {g:Nat} (m:Mu) (h:Cs w g m.cells):w.cell? g=some (.int .u64 m.b)∧w.cell? ⟨g,1,none⟩=some (.int .i64 (aJ m.a))∧w.cell? ⟨g,2,none⟩=some (.int .u64 (aI m.a))∧w.cell? ⟨g,3,none⟩=some (.int .u64 m.w)∧w.cell? ⟨g,4,none⟩=some (.int .i64 m.n):=
 ⟨h.aL,h.fH,h.at2,h.at3,h.at4⟩
def VW (p:P3):List Value:=[.int .u64 p.1, .int .u32 p.2.1, .int .u32 p.2.2]
theorem P3.at {w:World} {g:Nat} (p:P3) (h:Cs w g (VW p)):w.cell? g=some (.int .u64 p.1)∧w.cell? ⟨g,1,none⟩=some (.int .u32 p.2.1)∧w.cell? ⟨g,2,none⟩=some (.int .u32 p.2.2):=⟨h.aL,h.fH,h.at2⟩
theorem Sb {a b:Int}:(aJ a=aJ b∧aI a=aI b)↔a=b:=by
 constructor
 ·rintro⟨h1,h2⟩;unfold aJ at h1;unfold aI at h2;omega
 ·rintro rfl;exact⟨rfl,rfl⟩
set_option maxHeartbeats 2000000 in
theorem jm.Ph (b1 b2 h1 h2 l1 l2 v1 v2 n1 n2:Int) (w:World):
  (binOp .eql 79 (.agg #[.int .u64 b1, .int .i64 h1, .int .u64 l1, .int .u64 v1, .int .i64 n1]) (.agg #[.int .u64 b2, .int .i64 h2, .int .u64 l2, .int .u64 v2, .int .i64 n2])).run Tryz.prog w= .ok (.bool (b1 == b2&&h1 == h2&&l1 == l2&&v1 == v2&&n1 == n2)) w:=by
 by_cases pb:b1=b2
 ·subst pb;by_cases ph:h1=h2
  ·subst ph;by_cases pl:l1=l2
   ·subst pl;by_cases pv:v1=v2
    ·subst pv;by_cases pn:n1=n2
     ·subst pn;go_simp
     ·have qn:(n1 == n2)=false:=by simpa using pn
      go_simp
    ·have qv:(v1 == v2)=false:=by simpa using pv
     go_simp
   ·have ql:(l1 == l2)=false:=by simpa using pl
    go_simp
  ·have qh:(h1 == h2)=false:=by simpa using ph
   go_simp
 ·have qb:(b1 == b2)=false:=by simpa using pb
  go_simp
set_option maxHeartbeats 1000000 in
theorem Pos.Ph (b1 b2 h1 h2 l1 l2:Int) (w:World):
  (binOp .eql 55 (.agg #[.int .u64 b1, .int .u32 h1, .int .u32 l1]) (.agg #[.int .u64 b2, .int .u32 h2, .int .u32 l2])).run Tryz.prog w= .ok (.bool (b1 == b2&&h1 == h2&&l1 == l2)) w:=by
 by_cases pb:b1=b2
 ·subst pb;by_cases ph:h1=h2
  ·subst ph;by_cases pl:l1=l2
   ·subst pl;go_simp
   ·have ql:(l1 == l2)=false:=by simpa using pl
    go_simp
  ·have qh:(h1 == h2)=false:=by simpa using ph
   go_simp
 ·have qb:(b1 == b2)=false:=by simpa using pb
  go_simp
section
attribute [local go_sem] jm.Ph
theorem cqu {P:Prop} (h:P:=by
 go_enter Tryz.func68,Tryz.ntmps68;go_wp2_with fail
 go_ret;exact⟨rfl,HB0.out⟩):P:=h
set_option maxRecDepth 100000 in
set_option maxHeartbeats 4000000 in
theorem jm.right (m:Mu) (hm:m.In) (w:World):Calls Tryz.prog 68 #[m.val] w (aV (.bool m.right) w):=by
 obtain⟨b,a,v,n⟩:=m;obtain⟨⟨b0,b1⟩,ha,⟨v0,v1⟩,⟨n0,n1⟩⟩:=hm;dsimp only at b0 b1 ha v0 v1 n0 n1;have HB0:=aa (aD w (.cells #[.int .u64 b, .int .i64 (aJ a), .int .u64 (aI a), .int .u64 v, .int .i64 n] 79));unfold Mu.val;dsimp only;by_cases c:n=0
 ·subst c
  have E:Hid ((b == b&&aJ a == 0&&aI a == 0&&v == 0&&(0:Int) == 0)=Mu.right ⟨b,a,v,0⟩):=aa (by
   have h1:=Sb (a:=a) (b:=0);rw[MQ,MB] at h1;unfold Mu.right;rw[if_pos rfl,Bool.eq_iff_iff];simp only[Bool.and_eq_true,beq_iff_eq,decide_eq_true_eq,true_and,and_true];rw[h1])
  clear b0 b1 ha v0 v1 n0 n1;go_enter Tryz.func68,Tryz.ntmps68;go_wp2_with fail
  all_goals go_ret
  all_goals exact⟨by rw[←E.out];simp[*],(Below.refl _ _).alloc ay _⟩
 ·have c':(n == 0)=false:=by simpa using c
  have E:Hid ((decide (1≤n∧n≤32)&&decide (n≤v∧v≤n*1048576))=Mu.right ⟨b,a,v,n⟩):=aa (by unfold Mu.right;rw[if_neg c]);rw[←E.out];clear E c ha b0 b1;by_cases c1:1≤n
  ·by_cases c2:n≤32
   ·have e1:IntKind.u64.wrap n=n:=by rw[IntKind.wrap_u64];omega
    have e2:IntKind.u64.wrap (n*1048576)=n*1048576:=by rw[IntKind.wrap_u64];omega
    by_cases c3:n≤v
    ·by_cases c4:v≤n*1048576
     ·have F:Hid ((decide (1≤n∧n≤32)&&decide (n≤v∧v≤n*1048576))=true):=aa (by simp only[Bool.and_eq_true,decide_eq_true_eq];omega);rw[F.out];exact cqu
     ·have F:Hid ((decide (1≤n∧n≤32)&&decide (n≤v∧v≤n*1048576))=false):=aa (by rw[Bool.and_eq_false_iff];right;rw[decide_eq_false_iff_not];omega);rw[F.out];exact cqu
    ·have F:Hid ((decide (1≤n∧n≤32)&&decide (n≤v∧v≤n*1048576))=false):=aa (by rw[Bool.and_eq_false_iff];right;rw[decide_eq_false_iff_not];omega);rw[F.out];have c4:¬v≥n:=af;exact cqu
   ·have F:Hid ((decide (1≤n∧n≤32)&&decide (n≤v∧v≤n*1048576))=false):=aa (by rw[Bool.and_eq_false_iff];left;rw[decide_eq_false_iff_not];omega);rw[F.out];exact cqu
  ·have F:Hid ((decide (1≤n∧n≤32)&&decide (n≤v∧v≤n*1048576))=false):=aa (by rw[Bool.and_eq_false_iff];left;rw[decide_eq_false_iff_not];omega);rw[F.out];exact cqu
end
end


namespace Ck
open Go Go.RowKit
def BS:List (Nat×SF):=(68,s1 (α:=Mu) fun m=> .bool m.right)::Ta
theorem qZ:oL Tryz.prog BS:= .cons (ok1 fun m hm w=>jm.right m hm w) GZ
end Ck


section
open Go Go.RowKit Ck
variable {p:P3} {m:Mu} {b:Bool} {n:Int}
theorem take_one (hp:dJ p) (h1:m.right=true) (h2:pR p=true) (h3:m.n=1):m.take p=if (Mu.mk m.b 0 (IntKind.u64.wrap (m.w-p.2.2)) (m.n-1)).right=true then(true,(Mu.mk m.b 0 (IntKind.u64.wrap (m.w-p.2.2)) (m.n-1))) else(false,Mu.no):=by
 have hb:=kG h1;have WO:=kQ hp h2;unfold Ua at WO;have hw:m.w≤33554432:=hb.2.2;unfold Mu.take;by_cases c:m.w=p.2.2
 ·have e:(IntKind.u64.wrap (m.w-p.2.2))=m.w-p.2.2:=by rw[IntKind.wrap_u64];omega
  have e2:m.left p=(Mu.mk m.b 0 (IntKind.u64.wrap (m.w-p.2.2)) (m.n-1)):=by unfold Mu.left;rw[e,h3];simp
  have hr:(Mu.mk m.b 0 (IntKind.u64.wrap (m.w-p.2.2)) (m.n-1)).right=true:=by
   unfold Mu.right;rw[e,h3,c];simp
  rw[if_pos hr,←e2,if_pos];unfold Mu.j5;rw[h1,h2,e2,hr,h3];simp;omega
 ·have hr:(Mu.mk m.b 0 (IntKind.u64.wrap (m.w-p.2.2)) (m.n-1)).right=false:=by
   unfold Mu.right;rw[h3];simp only[Int.sub_self,if_true];rw[Bool.and_eq_false_iff];right;rw[decide_eq_false_iff_not,IntKind.wrap_u64];omega
  have h9:¬m.j5 p=true:=by
   unfold Mu.j5;intro h;simp only[Bool.and_eq_true,decide_eq_true_eq] at h;have h5:=h.2;unfold Mu.right Mu.left at h5;simp only[h3,Int.sub_self,if_true,Bool.and_eq_true,decide_eq_true_eq] at h5;omega
  rw[if_neg h9,hr,if_neg ak]
theorem QD (hp:dJ p) (h1:m.right=true) (h2:pR p=true) (h3:1<m.n) (h4:okW (m.a-pD m.b p)=true):m.take p=if (Mu.mk m.b (m.a-pD m.b p) (IntKind.u64.wrap (m.w-p.2.2)) (m.n-1)).right=true then(true,(Mu.mk m.b (m.a-pD m.b p) (IntKind.u64.wrap (m.w-p.2.2)) (m.n-1))) else(false,Mu.no):=by
 have hb:=kG h1;have WO:=kQ hp h2;unfold Ua at WO;unfold Mu.take;by_cases c:p.2.2≤m.w
 ·have e:(IntKind.u64.wrap (m.w-p.2.2))=m.w-p.2.2:=by rw[IntKind.wrap_u64];omega
  have e2:m.left p=(Mu.mk m.b (m.a-pD m.b p) (IntKind.u64.wrap (m.w-p.2.2)) (m.n-1)):=by unfold Mu.left;rw[e,if_neg af]
  have e3:m.j5 p=(Mu.mk m.b (m.a-pD m.b p) (IntKind.u64.wrap (m.w-p.2.2)) (m.n-1)).right:=by
   unfold Mu.j5;rw[h1,h2,h4,e2,decide_eq_true (show m.n≠0 by omega),decide_eq_true c];simp
  rw[e3,e2]
 ·have hr:(Mu.mk m.b (m.a-pD m.b p) (IntKind.u64.wrap (m.w-p.2.2)) (m.n-1)).right=false:=by
   unfold Mu.right;rw[if_neg (by simp only;omega),Bool.and_eq_false_iff];right;rw[decide_eq_false_iff_not];simp only;rw[IntKind.wrap_u64];omega
  have h9:¬m.j5 p=true:=by
   unfold Mu.j5;intro h;simp only[Bool.and_eq_true,decide_eq_true_eq] at h;exact c h.1.2
  rw[if_neg h9,hr,if_neg ak]
theorem Df {a b:Int} (ha:WR a) (hb:0<b):WR (a/b):=by
 unfold WR at *
 have h1: -170141183460469231731687303715884105728*b≤a:=by
  have:=Int.mul_le_mul_of_nonneg_left (show(1:Int)≤b by omega) (show(0:Int)≤170141183460469231731687303715884105728 by decide);rw[Int.neg_mul];omega
 have h2:a<170141183460469231731687303715884105728*b:=by
  have:=Int.mul_le_mul_of_nonneg_left (show(1:Int)≤b by omega) (show(0:Int)≤170141183460469231731687303715884105728 by decide);omega
 have h3:=TI hb h1;have h4:=TJ hb h2;omega
theorem l7 {r:Bool×Mu} {x:Mu} (h:r=(b,x)):Value.tuple #[x.val, .bool b]= .tuple #[Mu.val r.2, .bool r.1]:=by rw[h]
theorem vv {r:Bool×P3} {x:P3} (h:r=(b,x)):Value.tuple #[pv x, .bool b]= .tuple #[pv r.2, .bool r.1]:=by rw[h]
theorem GR {r:Bool×Int} {x:Int} (h:r=(b,x)):Value.tuple #[wv x, .bool b]= .tuple #[wv r.2, .bool r.1]:=by rw[h]
theorem BI (h0:0≤n) (h1:n≤18446744073709551615):IntKind.u64.wrap n=n:=by rw[IntKind.wrap_u64];omega
theorem qP (h0: -9223372036854775808≤n) (h1:n≤9223372036854775807):IntKind.i64.wrap n=n:=by rw[IntKind.wrap_i64];omega
theorem jm.Y7 (m:Mu) (p:P3) (K:Value→Prop):jE Tryz.prog (gD BS) 3000 166 [m.val,pv p] K=((cd Mu m.val)∧br ((dM m.val).right)
 ((cd PX (pv p))∧br (pR p)
  (br (m.n == 0)
   (K (.tuple #[Mu.no.val, .bool false]))
   (br (decide (IntKind.i64.wrap (m.n-1)>0))
    ((cd P3 (pv p)∧cd UX (.int .u64 m.b))∧(cd WI (wv m.a)∧cd WI (wv (pD m.b p)))∧br (!okW (dW (wv m.a)-dW (wv (pD m.b p))))
     (K (.tuple #[Mu.no.val, .bool false]))
     ((cd Mu (Mu.val ⟨m.b,eQ (dW (wv m.a)-dW (wv (pD m.b p))),IntKind.u64.wrap (m.w-IntKind.u64.wrap p.2.2),IntKind.i64.wrap (m.n-1)⟩))∧br ((dM (Mu.val ⟨m.b,eQ (dW (wv m.a)-dW (wv (pD m.b p))),IntKind.u64.wrap (m.w-IntKind.u64.wrap p.2.2),IntKind.i64.wrap (m.n-1)⟩)).right)
      (K (.tuple #[(Mu.val ⟨m.b,eQ (dW (wv m.a)-dW (wv (pD m.b p))),IntKind.u64.wrap (m.w-IntKind.u64.wrap p.2.2),IntKind.i64.wrap (m.n-1)⟩), .bool true]))
      (K (.tuple #[Mu.no.val, .bool false]))))
    ((cd Mu (Mu.val ⟨m.b,0,IntKind.u64.wrap (m.w-IntKind.u64.wrap p.2.2),IntKind.i64.wrap (m.n-1)⟩))∧br ((dM (Mu.val ⟨m.b,0,IntKind.u64.wrap (m.w-IntKind.u64.wrap p.2.2),IntKind.i64.wrap (m.n-1)⟩)).right)
     (K (.tuple #[(Mu.val ⟨m.b,0,IntKind.u64.wrap (m.w-IntKind.u64.wrap p.2.2),IntKind.i64.wrap (m.n-1)⟩), .bool true]))
     (K (.tuple #[Mu.no.val, .bool false])))))
  (K (.tuple #[Mu.no.val, .bool false])))
 (K (.tuple #[Mu.no.val, .bool false]))):=by kernel_rfl
theorem jm.take (m:Mu) (p:P3) (hm:m.In) (hp:dJ p) (w:World):Calls Tryz.prog 166 #[m.val,pv p] w (aV (.tuple #[Mu.val (m.take p).2, .bool (m.take p).1]) w):=by
 refine kF mixed qZ (jm.Y7 m p _) ?_ w;simp only[kv,ku,kU,rY,lJ,mg,rX,mf,rE,lN,lQ,oC,Bool.not_eq_true',Bool.not_eq_false'];refine⟨hm,fun h1=>⟨trivial,fun h2=> ?_,fun h2=>l7 (by simp[Mu.take,Mu.j5,h2])⟩,fun h1=>l7 (by simp[Mu.take,Mu.j5,h1])⟩;have hb:=kG h1;have hd:=vV m.b hp h2;have hq:=hp.2.2;rw[BI (n:=p.2.2) af af,qP (n:=m.n-1) af af];have hu:0≤IntKind.u64.wrap (m.w-p.2.2)∧IntKind.u64.wrap (m.w-p.2.2)≤18446744073709551615:=by rw[IntKind.wrap_u64];omega
 refine⟨fun h3=>l7 (by simp[Mu.take,Mu.j5,eq_of_beq h3]),fun h3=> ?_⟩;have h3:m.n≠0:=by simpa using h3
 refine⟨fun h4=> ?_,fun h4=> ?_⟩
 ·have h4:1<m.n:=by have:=of_decide_eq_true h4;omega
  refine⟨⟨hp,trivial⟩,⟨hm.2.1,by unfold WR;omega⟩,fun h5=>l7 ?_,fun h5=> ?_⟩
  ·unfold Mu.take Mu.j5;rw[h5,decide_eq_false (show ¬m.n=1 by omega),if_neg ag]
  ·rw[jg h5];have e:=QD hp h1 h2 h4 h5;exact⟨⟨hm.1,dG.1 h5,hu,by show-9223372036854775808≤m.n-1∧m.n-1≤9223372036854775807;omega⟩,fun h6=>l7 (by rw[e,if_pos h6]),fun h6=>l7 (by rw[e,h6,if_neg ag])⟩
 ·have h4:m.n=1:=by have:=of_decide_eq_false h4;omega
  have e:=take_one hp h1 h2 h4;exact⟨⟨hm.1,by show WR 0;unfold WR;omega,hu,by show-9223372036854775808≤m.n-1∧m.n-1≤9223372036854775807;omega⟩,fun h6=>l7 (by rw[e,if_pos h6]),fun h6=>l7 (by rw[e,h6,if_neg ag])⟩
theorem jm.aaF (m:Mu) (p:P3) (K:Value→Prop):jE Tryz.prog (gD BS) 3000 147 [m.val,pv p] K=((cd Mu m.val)∧br ((dM m.val).right)
 ((cd PX (pv p))∧br (pR p)
  (br (m.n == 32)
   (K (.tuple #[Mu.no.val, .bool false]))
   ((cd P3 (pv p)∧cd UX (.int .u64 m.b))∧(cd WI (wv m.a)∧cd WI (wv (pD m.b p)))∧br (!okW (dW (wv m.a)+dW (wv (pD m.b p))))
    (K (.tuple #[Mu.no.val, .bool false]))
    (K (.tuple #[(Mu.val ⟨m.b,eQ (dW (wv m.a)+dW (wv (pD m.b p))),IntKind.u64.wrap (m.w+IntKind.u64.wrap p.2.2),IntKind.i64.wrap (m.n+1)⟩), .bool true]))))
  (K (.tuple #[Mu.no.val, .bool false])))
 (K (.tuple #[Mu.no.val, .bool false]))):=by kernel_rfl
theorem jm.add (m:Mu) (p:P3) (hm:m.In) (hp:dJ p) (w:World):Calls Tryz.prog 147 #[m.val,pv p] w (aV (.tuple #[Mu.val (m.add p).2, .bool (m.add p).1]) w):=by
 refine kF mixed qZ (jm.aaF m p _) ?_ w;simp only[kv,ku,kU,rY,lJ,mg,rX,mf,rE,lN,lQ,oC,Bool.not_eq_true',Bool.not_eq_false'];refine⟨hm,fun h1=>⟨trivial,fun h2=> ?_,fun h2=>l7 (by simp[Mu.add,Mu.pX,h2])⟩,fun h1=>l7 (by simp[Mu.add,Mu.pX,h1])⟩;have hb:=kG h1;have hd:=vV m.b hp h2;have hq:=hp.2.2;refine⟨fun h3=>l7 (by simp[Mu.add,Mu.pX,eq_of_beq h3]),fun h3=> ?_⟩;have h3:m.n≠32:=by simpa using h3
 rw[BI (n:=p.2.2) af af,BI af af,qP (n:=m.n+1) af af];refine⟨⟨hp,trivial⟩,⟨hm.2.1,by unfold WR;omega⟩,?_⟩;first
 |exact⟨fun h5=>l7 (by simp[Mu.add,Mu.pX,h5]),fun h5=>l7 (by rw[jg h5];unfold Mu.add Mu.pX;rw[h1,h2,h5,if_pos (by simp;omega)])⟩
 |exact⟨fun h5=>l7 (by rw[jg h5];unfold Mu.add Mu.pX;rw[h1,h2,h5,if_pos (by simp;omega)]),fun h5=>l7 (by simp[Mu.add,Mu.pX,h5])⟩
theorem jm.aac (m:Mu) (t:Int) (K:Value→Prop):jE Tryz.prog (gD BS) 3000 175 [m.val, .int .u64 t] K=((cd Mu m.val)∧br ((dM m.val).right)
 ((cd UX (.int .u64 t)∧cd UX (.int .u64 m.b))∧(cd sH (.int .i64 (aH t m.b)))∧(cd WI (wv (aH t m.b))∧cd sH (.int .i64 (IntKind.i64.wrap m.w)))∧(cd WI (wv m.a)∧cd WI (wv (eQ (dW (wv (aH t m.b))*IntKind.i64.wrap m.w))))∧br (!okW (dW (wv m.a)-dW (wv (eQ (dW (wv (aH t m.b))*IntKind.i64.wrap m.w)))))
  (K (.tuple #[Mu.no.val, .bool false]))
  (K (.tuple #[(Mu.val ⟨t,eQ (dW (wv m.a)-dW (wv (eQ (dW (wv (aH t m.b))*IntKind.i64.wrap m.w)))),m.w,m.n⟩), .bool true])))
 (K (.tuple #[Mu.no.val, .bool false]))):=by kernel_rfl
theorem jm.Oi (m:Mu) (t:Int) (hm:m.In) (w:World):Calls Tryz.prog 175 #[m.val, .int .u64 t] w (aV (.tuple #[Mu.val (m.q9 t).2, .bool (m.q9 t).1]) w):=by
 refine kF mixed qZ (jm.aac m t _) ?_ w;simp only[kv,ku,kU,rY,lJ,mg,rX,mf,rE,lN,lQ,oC,Bool.not_eq_true',Bool.not_eq_false'];refine⟨hm,fun h1=> ?_,fun h1=>l7 (by simp[Mu.q9,Mu.zP,h1])⟩;have hb:=kG h1;have hd:=og t m.b;have hx:=xy (d:=aH t m.b) (M:=9223372036854775808) (V:=33554432) af af hb.2.1 hb.2.2 ak;rw[qP af af,jg (a:=aH t m.b*m.w) (dG.2 (by unfold WR;omega))];refine⟨⟨trivial,trivial⟩,⟨by omega,by omega⟩,⟨by unfold WR;omega,by omega,by omega⟩,⟨hm.2.1,by unfold WR;omega⟩,fun h5=>l7 (by simp[Mu.q9,Mu.zP,h5]),fun h5=>l7 (by rw[jg h5];simp[Mu.q9,Mu.zP,h1,h5])⟩
theorem jm.flT (m:Mu) (K:Value→Prop):jE Tryz.prog (gD BS) 3000 174 [m.val] K=((cd Mu m.val)∧br ((dM m.val).right)
 (br (m.n == 0)
  (K (.tuple #[.int .u64 0, .bool false]))
  ((cd WI (wv m.a)∧cd NZ (.int .u64 m.w))∧(cd WI (wv (dW (wv m.a)/m.w)))∧br (!sD (dW (wv (dW (wv m.a)/m.w))))
   (K (.tuple #[.int .u64 0, .bool false]))
   ((cd UX (.int .u64 m.b)∧cd sH (.int .i64 (if sD (dW (wv (dW (wv m.a)/m.w)))=true then dW (wv (dW (wv m.a)/m.w)) else 0)))∧K (.tuple #[.int .u64 (il m.b (if sD (dW (wv (dW (wv m.a)/m.w)))=true then dW (wv (dW (wv m.a)/m.w)) else 0)), .bool true]))))
 (K (.tuple #[.int .u64 0, .bool false]))):=by kernel_rfl
theorem ctI {P:Prop} (h:P:=by
 have h:=h1;unfold Mu.right at h;rw[if_neg h2] at h;simp only[Bool.and_eq_true,decide_eq_true_eq] at h;omega):P:=h
theorem jm.floor (m:Mu) (hm:m.In) (w:World):Calls Tryz.prog 174 #[m.val] w (aV (.tuple #[.int .u64 m.fl.2, .bool m.fl.1]) w):=by
 refine kF mixed qZ (jm.flT m _) ?_ w;simp only[kv,ku,kU,rY,lJ,mg,rX,mf,rE,lN,lQ,oC,Bool.not_eq_true',Bool.not_eq_false'];have KA:∀{b:Bool} {x:Int},m.fl=(b,x)→Value.tuple #[.int .u64 x, .bool b]= .tuple #[.int .u64 m.fl.2, .bool m.fl.1]:=fun h=>by rw[h]
 refine⟨hm,fun h1=>⟨fun h2=>KA (by simp[Mu.fl,Mu.vG,eq_of_beq h2]),fun h2=> ?_⟩,fun h1=>KA (by simp[Mu.fl,Mu.vG,h1])⟩;have h2:m.n≠0:=by simpa using h2
 have hw:0<m.w:=by
  exact ctI
 have hb:=kG h1;have hd:=Df hm.2.1 hw;refine⟨⟨hm.2.1,hw,by omega⟩,hd,?_⟩;first
 |exact⟨fun h=>KA (by simp[Mu.fl,Mu.vG,h]),fun h=>by have h':=h;unfold sD at h';rw[decide_eq_true_eq] at h';rw[if_pos h];exact⟨⟨trivial,h'⟩,KA (by simp[Mu.fl,Mu.vG,h1,h2,h])⟩⟩
 |exact⟨fun h=>by have h':=h;unfold sD at h';rw[decide_eq_true_eq] at h';rw[if_pos h];exact⟨⟨trivial,h'⟩,KA (by simp[Mu.fl,Mu.vG,h1,h2,h])⟩,fun h=>KA (by simp[Mu.fl,Mu.vG,h])⟩
theorem qc.aaa (m:Mu) (p:P3) (K:Value→Prop):jE Tryz.prog (gD BS) 3000 65 [m.val,pv p] K=((cd Mu m.val)∧br ((dM m.val).right)
 (br (m.n == 0)
  (K (.tuple #[wv 0, .bool false]))
  ((cd PX (pv p))∧br (pR p)
   ((cd WI (wv m.a)∧cd sH (.int .i64 (IntKind.i64.wrap p.2.2)))∧br (!okW (dW (wv m.a)*IntKind.i64.wrap p.2.2))
    (K (.tuple #[wv 0, .bool false]))
    ((cd P3 (pv p)∧cd UX (.int .u64 m.b))∧(cd WI (wv (pD m.b p))∧cd sH (.int .i64 (IntKind.i64.wrap m.w)))∧(cd WI (wv (eQ (dW (wv m.a)*IntKind.i64.wrap p.2.2)))∧cd WI (wv (eQ (dW (wv (pD m.b p))*IntKind.i64.wrap m.w))))∧K (.tuple #[wv (eQ (dW (wv (eQ (dW (wv m.a)*IntKind.i64.wrap p.2.2)))-dW (wv (eQ (dW (wv (pD m.b p))*IntKind.i64.wrap m.w))))), .bool (okW (dW (wv (eQ (dW (wv m.a)*IntKind.i64.wrap p.2.2)))-dW (wv (eQ (dW (wv (pD m.b p))*IntKind.i64.wrap m.w)))))])))
   (K (.tuple #[wv 0, .bool false]))))
 (K (.tuple #[wv 0, .bool false]))):=by kernel_rfl
theorem qc.Nt (m:Mu) (p:P3) (hm:m.In) (hp:dJ p) (w:World):Calls Tryz.prog 65 #[m.val,pv p] w (aV (.tuple #[wv (m.over p).2, .bool (m.over p).1]) w):=by
 refine kF mixed qZ (qc.aaa m p _) ?_ w;simp only[kv,ku,kU,rY,lJ,mg,rX,mf,rE,lN,lQ,oC,Bool.not_eq_true',Bool.not_eq_false'];refine⟨hm,fun h1=>⟨fun h2=>GR (by simp[Mu.over,Mu.pO,eq_of_beq h2]),fun h2=>⟨trivial,fun h3=> ?_,fun h3=>GR (by simp[Mu.over,Mu.pO,h3])⟩⟩,fun h1=>GR (by simp[Mu.over,Mu.pO,h1])⟩;have h2:m.n≠0:=by simpa using h2
 have hb:=kG h1;have hq:=hp.2.2;have hd:=vV m.b hp h3;have hx:=xy (d:=pD m.b p) (M:=9671406556917033398697984) (V:=33554432) af af hb.2.1 hb.2.2 ak;rw[qP (n:=p.2.2) af af,qP (n:=m.w) af af];refine⟨⟨hm.2.1,by omega,by omega⟩,fun h4=>GR (by simp[Mu.over,Mu.pO,h4]),fun h4=> ?_⟩;rw[jg h4,jg (a:=pD m.b p*m.w) (dG.2 (by unfold WR;omega))];refine⟨⟨hp,trivial⟩,⟨by unfold WR;omega,by omega,by omega⟩,⟨dG.1 h4,by unfold WR;omega⟩,GR ?_⟩;unfold Mu.over Mu.pO Mu.ov;cases h5:okW (m.a*p.2.2-pD m.b p*m.w)
 ·rw[Di h5];simp
 ·rw[jg h5];simp[h1,h2,h3,h4]
theorem Place.ciT (m:Mu) (v o:Int) (K:Value→Prop):jE Tryz.prog (gD BS) 3000 70 [m.val, .int .u32 v, .int .i64 o] K=((cd WI (wv m.a)∧cd sH (.int .i64 (IntKind.i64.wrap v)))∧br (!okW (dW (wv m.a)*IntKind.i64.wrap v))
 (K (.tuple #[wv 0, .bool false]))
 ((cd sH (.int .i64 o))∧(cd WI (wv o)∧cd sH (.int .i64 (IntKind.i64.wrap (IntKind.u64.wrap (m.w+IntKind.u64.wrap v)))))∧(cd WI (wv (eQ (dW (wv m.a)*IntKind.i64.wrap v)))∧cd WI (wv (eQ (dW (wv o)*IntKind.i64.wrap (IntKind.u64.wrap (m.w+IntKind.u64.wrap v))))))∧br (!okW (dW (wv (eQ (dW (wv m.a)*IntKind.i64.wrap v)))-dW (wv (eQ (dW (wv o)*IntKind.i64.wrap (IntKind.u64.wrap (m.w+IntKind.u64.wrap v)))))))
  (K (.tuple #[wv 0, .bool false]))
  ((cd WI (wv (eQ (dW (wv (eQ (dW (wv m.a)*IntKind.i64.wrap v)))-dW (wv (eQ (dW (wv o)*IntKind.i64.wrap (IntKind.u64.wrap (m.w+IntKind.u64.wrap v))))))))∧cd NZ (.int .u64 m.w))∧K (.tuple #[wv (dW (wv (eQ (dW (wv (eQ (dW (wv m.a)*IntKind.i64.wrap v)))-dW (wv (eQ (dW (wv o)*IntKind.i64.wrap (IntKind.u64.wrap (m.w+IntKind.u64.wrap v))))))))/m.w), .bool true])))):=by kernel_rfl
theorem Place.Vi (m:Mu) (v o:Int) (hm:m.In) (hr:m.right=true) (hn:m.n≠0) (v0:0≤v) (v1:v≤4294967295) (o0: -9223372036854775808≤o) (o1:o≤9223372036854775807) (w:World):
  Calls Tryz.prog 70 #[m.val, .int .u32 v, .int .i64 o] w (aV (.tuple #[wv (if m.l9 v o=true then m.Co v o else 0), .bool (m.l9 v o)]) w):=by
 refine kF mixed qZ (Place.ciT m v o _) ?_ w;simp only[kv,ku,kU,rY,lJ,mg,rX,mf,rE,lN,lQ,oC,Bool.not_eq_true',Bool.not_eq_false'];have hb:=kG hr
 have hw:0<m.w:=by
  have h:=hr;unfold Mu.right at h;rw[if_neg hn] at h;simp only[Bool.and_eq_true,decide_eq_true_eq] at h;omega
 have hx:=xy (d:=o) (v:=m.w+v) (M:=9223372036854775808) (V:=4328521727) af af af af ak;rw[qP (n:=v) af af,BI (n:=v) af af,BI (n:=m.w+v) af af,qP (n:=m.w+v) af af,jg (a:=o*(m.w+v)) (dG.2 (by unfold WR;omega))];refine⟨⟨hm.2.1,by omega,by omega⟩,fun h4=>by simp[Mu.l9,h4],fun h4=> ?_⟩;rw[jg h4];refine⟨⟨o0,o1⟩,⟨by unfold WR;omega,by omega,by omega⟩,⟨dG.1 h4,by unfold WR;omega⟩,fun h5=>by simp[Mu.l9,h5],fun h5=> ?_⟩;rw[jg h5];exact⟨⟨dG.1 h5,hw,by omega⟩,by simp[Mu.l9,Mu.Co,h4,h5]⟩
theorem M8.weT (m:Mu) (p:P3) (v:Int) (K:Value→Prop):jE Tryz.prog (gD BS) 3000 56 [m.val,pv p, .int .u32 v] K=((cd Mu m.val)∧br ((dM m.val).right)
 (br (m.n == 0)
  (K (.tuple #[pv (0,0,0), .bool false]))
  ((cd PX (pv p))∧br (pR p)
   ((cd WI (wv m.a)∧cd sH (.int .i64 (IntKind.i64.wrap (IntKind.i64.wrap v-IntKind.i64.wrap p.2.2))))∧br (!okW (dW (wv m.a)*IntKind.i64.wrap (IntKind.i64.wrap v-IntKind.i64.wrap p.2.2)))
    (K (.tuple #[pv (0,0,0), .bool false]))
    ((cd WI (wv (eQ (dW (wv m.a)*IntKind.i64.wrap (IntKind.i64.wrap v-IntKind.i64.wrap p.2.2))))∧cd NZ (.int .u64 m.w))∧(cd P3 (pv p)∧cd UX (.int .u64 m.b))∧(cd WI (wv (pD m.b p))∧cd WI (wv (dW (wv (eQ (dW (wv m.a)*IntKind.i64.wrap (IntKind.i64.wrap v-IntKind.i64.wrap p.2.2))))/m.w)))∧br (!okW (dW (wv (pD m.b p))+dW (wv (dW (wv (eQ (dW (wv m.a)*IntKind.i64.wrap (IntKind.i64.wrap v-IntKind.i64.wrap p.2.2))))/m.w))))
     (K (.tuple #[pv (0,0,0), .bool false]))
     ((cd UX (.int .u64 m.b)∧cd WI (wv (eQ (dW (wv (pD m.b p))+dW (wv (dW (wv (eQ (dW (wv m.a)*IntKind.i64.wrap (IntKind.i64.wrap v-IntKind.i64.wrap p.2.2))))/m.w)))))∧cd FL (.int .u32 v))∧K (.tuple #[pv (sG m.b (dW (wv (eQ (dW (wv (pD m.b p))+dW (wv (dW (wv (eQ (dW (wv m.a)*IntKind.i64.wrap (IntKind.i64.wrap v-IntKind.i64.wrap p.2.2))))/m.w)))))) v), .bool (atOk (dW (wv (eQ (dW (wv (pD m.b p))+dW (wv (dW (wv (eQ (dW (wv m.a)*IntKind.i64.wrap (IntKind.i64.wrap v-IntKind.i64.wrap p.2.2))))/m.w)))))) v)]))))
   (K (.tuple #[pv (0,0,0), .bool false]))))
 (K (.tuple #[pv (0,0,0), .bool false]))):=by kernel_rfl
theorem M8.kK (m:Mu) (p:P3) (v:Int) (hm:m.In) (hp:dJ p) (v0:0≤v) (v1:v≤4294967295) (w:World):
  Calls Tryz.prog 56 #[m.val,pv p, .int .u32 v] w (aV (.tuple #[pv (m.kK p v).2, .bool (m.kK p v).1]) w):=by
 refine kF mixed qZ (M8.weT m p v _) ?_ w;simp only[kv,ku,kU,rY,lJ,mg,rX,mf,rE,lN,lQ,oC,Bool.not_eq_true',Bool.not_eq_false'];refine⟨hm,fun h1=>⟨fun h2=>vv (by simp[Mu.kK,Mu.GM,eq_of_beq h2]),fun h2=>⟨trivial,fun h3=> ?_,fun h3=>vv (by simp[Mu.kK,Mu.GM,h3])⟩⟩,fun h1=>vv (by simp[Mu.kK,Mu.GM,h1])⟩;have h2:m.n≠0:=by simpa using h2
 have hb:=kG h1;have hq:=hp.2.2;have hd:=vV m.b hp h3
 have hw:0<m.w:=by
  exact ctI
 rw[qP (n:=v) af af,qP (n:=p.2.2) af af,qP (n:=v-p.2.2) af af];refine⟨⟨hm.2.1,by omega,by omega⟩,fun h4=>vv (by simp[Mu.kK,Mu.GM,h4]),fun h4=> ?_⟩;rw[jg h4];have hf:=Df (dG.1 h4) hw;refine⟨⟨dG.1 h4,hw,by omega⟩,⟨hp,trivial⟩,⟨by unfold WR;omega,hf⟩,fun h5=>vv (by unfold Mu.kK Mu.GM Mu.wf;rw[h5];simp),fun h5=> ?_⟩;rw[jg h5]
 have e:m.kK p v=(atOk (pD m.b p+m.a*(v-p.2.2)/m.w) v,sG m.b (pD m.b p+m.a*(v-p.2.2)/m.w) v):=by
  unfold Mu.kK Mu.GM Mu.wf;rw[h1,h3,h4,h5];simp[h2]
 exact⟨⟨trivial,dG.1 h5,by omega,by omega⟩,vv e⟩
end


section
open Go Go.RowKit
theorem bK.aaf {a:Int} (ha:WR a) (w:World):Calls Tryz.prog 177 #[wv a] w (aV (.tuple #[wv (eQ (-a)), .bool (okW (-a))]) w):=by
 have e0: -a=0-a:=af;rw[e0];exact(bK.neg _ _ a (kr ha) w).mono (by rintro e w' ⟨h,l,ok,rfl,hr,hb⟩;obtain⟨rfl,rfl,rfl⟩:=BG hr;exact⟨rfl,hb⟩)
end
namespace Ck
open Go Go.RowKit
def MR:Type:=Mu
instance:Enc MR:=⟨Mu.val,dM,fun(m:Mu)=>m.In∧m.right=true∧m.n≠0⟩
theorem Dj (m:Mu):cd MR m.val↔m.In∧m.right=true∧m.n≠0:=by
 show(m.val=(dM m.val).val∧(dM m.val).In∧(dM m.val).right=true∧(dM m.val).n≠0)↔_
 rw[ku];simp
def KD:List (Nat×SF):=
 (147,s2 (α:=Mu) (β:=P3) fun m p=> .tuple #[Mu.val (m.add p).2, .bool (m.add p).1])::
 (166,s2 (α:=Mu) (β:=P3) fun m p=> .tuple #[Mu.val (m.take p).2, .bool (m.take p).1])::
 (65,s2 (α:=Mu) (β:=P3) fun m p=> .tuple #[wv (m.over p).2, .bool (m.over p).1])::
 (70,s3 (α:=MR) (β:=FL) (γ:=sH) fun(m:Mu) (v o:Int)=> .tuple #[wv (if m.l9 v o=true then m.Co v o else 0), .bool (m.l9 v o)])::
 (177,s1 (α:=WI) fun(a:Int)=> .tuple #[wv (eQ (-a)), .bool (okW (-a))])::
 BS
theorem yM:oL Tryz.prog KD:=
 .cons (rA fun m p hm hp w=>jm.add m p hm hp w) <| .cons (rA fun m p hm hp w=>jm.take m p hm hp w) <| .cons (rA fun m p hm hp w=>qc.Nt m p hm hp w) <|
 .cons (ZR fun m v o hm hv ho w=>Place.Vi m v o hm.1 hm.2.1 hm.2.2 hv.1 hv.2 ho.1 ho.2 w) <| .cons (ok1 fun _ ha w=>bK.aaf ha w) qZ
end Ck


section
open Go Go.RowKit Ck
theorem UO (m:Mu) (p:P3):WR (m.over p).2:=by
 unfold Mu.over;split
 ·rename_i h;unfold Mu.pO at h;simp only[Bool.and_eq_true] at h;exact dG.1 h.2
 ·unfold WR;omega
def Mu.sign (m:Mu) (p:P3):Bool×Int:=((m.over p).1,fK (m.over p).2 0)
theorem Bt {x:Int}:0≤fK x 0↔0≤x:=by unfold fK;split<;>(try split)<;>omega
def Mu.place (m:Mu) (clock v o:Int):Bool×P3:=
 if m.right=true then(if m.n=0 then(atOk 0 v,sG clock 0 v) else if m.l9 v o=true then(atOk (m.Co v o) v,sG m.b (m.Co v o) v) else(false,(0,0,0))) else(false,(0,0,0))
theorem VV {m:Mu} {v o:Int} (hw:0<m.w) (h:m.l9 v o=true):WR (m.Co v o):=by
 unfold Mu.l9 at h;simp only[Bool.and_eq_true] at h;exact Df (dG.1 h.2) hw
theorem qc.sgT (m:Mu) (p:P3) (K:Value→Prop):jE Tryz.prog (gD KD) 3000 85 [m.val,pv p] K=((cd Mu m.val∧cd P3 (pv p))∧(cd WI (wv ((dM m.val).over p).2))∧K (.tuple #[.int .i64 (fK (dW (wv ((dM m.val).over p).2)) 0), .bool ((dM m.val).over p).1])):=by kernel_rfl
theorem qc.sign (m:Mu) (p:P3) (hm:m.In) (hp:dJ p) (w:World):Calls Tryz.prog 85 #[m.val,pv p] w (aV (.tuple #[.int .i64 (m.sign p).2, .bool (m.sign p).1]) w):=by
 refine kF mixed yM (qc.sgT m p _) ?_ w;simp only[kv,ku,kU,rY,Dj,lJ,mg,rX,mf,lN,lQ,oC,Bool.not_eq_true',Bool.not_eq_false'];exact⟨⟨hm,hp⟩,UO m p,rfl⟩
theorem qc.rdT (m:Mu) (p:P3) (K:Value→Prop):jE Tryz.prog (gD KD) 3000 31 [m.val,pv p] K=((cd Mu m.val∧cd P3 (pv p))∧br (!((dM m.val).over p).1)
 (K (.tuple #[wv 0, .bool false]))
 ((cd WI (wv ((dM m.val).over p).2)∧cd NZ (.int .u64 m.w))∧K (.tuple #[wv (dW (wv ((dM m.val).over p).2)/m.w), .bool true]))):=by kernel_rfl
theorem qc.read (m:Mu) (p:P3) (hm:m.In) (hp:dJ p) (w:World):Calls Tryz.prog 31 #[m.val,pv p] w (aV (.tuple #[wv (m.lag p).2, .bool (m.lag p).1]) w):=by
 refine kF mixed yM (qc.rdT m p _) ?_ w;simp only[kv,ku,kU,rY,Dj,lJ,mg,rX,mf,lN,lQ,oC,Bool.not_eq_true',Bool.not_eq_false'];unfold Mu.lag Mu.over;cases h:m.pO p
 ·simp;exact⟨hm,hp⟩
 ·simp only[if_true];refine⟨⟨hm,hp⟩,fun h=>by simp at h,fun _=> ?_⟩;have h1:=h;unfold Mu.pO at h1;simp only[Bool.and_eq_true,decide_eq_true_eq] at h1;have h2:=h1.1.1.1.1;have hb:=kG h2;unfold Mu.right at h2;rw[if_neg h1.1.1.1.2] at h2;simp only[Bool.and_eq_true,decide_eq_true_eq] at h2;exact⟨⟨dG.1 h1.2,by omega,by omega⟩,by trivial⟩
theorem Place.plT (m:Mu) (t v o:Int) (K:Value→Prop):jE Tryz.prog (gD KD) 3000 38 [m.val, .int .u64 t, .int .u32 v, .int .i64 o] K=((cd Mu m.val)∧br ((dM m.val).right)
 (br (m.n == 0)
  ((cd UX (.int .u64 t)∧cd WI (wv 0)∧cd FL (.int .u32 v))∧K (.tuple #[pv (sG t (dW (wv 0)) v), .bool (atOk (dW (wv 0)) v)]))
  ((cd MR m.val∧cd FL (.int .u32 v)∧cd sH (.int .i64 o))∧br (!(dM m.val).l9 v o)
   (K (.tuple #[pv (0,0,0), .bool false]))
   ((cd UX (.int .u64 m.b)∧cd WI (wv (if (dM m.val).l9 v o=true then(dM m.val).Co v o else 0))∧cd FL (.int .u32 v))∧K (.tuple #[pv (sG m.b (dW (wv (if (dM m.val).l9 v o=true then(dM m.val).Co v o else 0))) v), .bool (atOk (dW (wv (if (dM m.val).l9 v o=true then(dM m.val).Co v o else 0))) v)]))))
 (K (.tuple #[pv (0,0,0), .bool false]))):=by kernel_rfl
theorem Place.place (m:Mu) (clock v o:Int) (hm:m.In) (v0:0≤v) (v1:v≤4294967295) (o0: -9223372036854775808≤o) (o1:o≤9223372036854775807) (w:World):
  Calls Tryz.prog 38 #[m.val, .int .u64 clock, .int .u32 v, .int .i64 o] w (aV (.tuple #[pv (m.place clock v o).2, .bool (m.place clock v o).1]) w):=by
 refine kF mixed yM (Place.plT m clock v o _) ?_ w;simp only[kv,ku,kU,rY,Dj,lJ,mg,rX,mf,lN,lQ,oC,Bool.not_eq_true',Bool.not_eq_false'];refine⟨hm,fun h1=>⟨fun h2=>⟨⟨trivial,by unfold WR;omega,v0,v1⟩,vv (by simp[Mu.place,h1,eq_of_beq h2])⟩,fun h2=> ?_⟩,fun h1=>vv (by simp[Mu.place,h1])⟩;have h2:m.n≠0:=by simpa using h2
 have hw:0<m.w:=by
  have h:=h1;unfold Mu.right at h;rw[if_neg h2] at h;simp only[Bool.and_eq_true,decide_eq_true_eq] at h;omega
 refine⟨⟨⟨hm,h1,h2⟩,⟨v0,v1⟩,o0,o1⟩,fun h3=>vv (by simp[Mu.place,h1,h2,h3]),fun h3=> ?_⟩;rw[if_pos h3];exact⟨⟨trivial,VV hw h3,v0,v1⟩,vv (by simp[Mu.place,h1,h2,h3])⟩
theorem qw.grT (_u:Unit) (K:Value→Prop):jE Tryz.prog (gD KD) 3000 152 [] K=(K (.agg #[.int .i64 9223372036854775807, .int .u64 18446744073709551615])):=by kernel_rfl
theorem qw.greatest (w:World):Calls Tryz.prog 152 #[] w (aV (wv mP) w):=kF mixed yM (qw.grT () _) rfl w
def VC:List (Nat×SF):=
 (85,s2 (α:=Mu) (β:=P3) fun m p=> .tuple #[.int .i64 (fK (m.over p).2 0), .bool (m.over p).1])::
 (152,s0 (wv mP))::KD
theorem NC:oL Tryz.prog VC:= .cons (rA fun m p hm hp w=>qc.sign m p hm hp w) <| .cons (ok0 qw.greatest) yM
theorem qc.elT (m:Mu) (p:P3) (K:Value→Prop):jE Tryz.prog (gD VC) 3000 156 [m.val,pv p] K=((cd Mu m.val∧cd P3 (pv p))∧br (((dM m.val).over p).1)
 (br (decide (fK ((dM m.val).over p).2 0≥0))
  (K (.bool true))
  (K (.bool false)))
 (K (.bool false))):=by kernel_rfl
theorem qc.eligible (m:Mu) (p:P3) (hm:m.In) (hp:dJ p) (w:World):Calls Tryz.prog 156 #[m.val,pv p] w (aV (.bool (m.jM p)) w):=by
 refine kF mixed NC (qc.elT m p _) ?_ w;simp only[kv,ku,kU,rY,Dj,lJ,mg,rX,mf,lN,lQ,oC,Bool.not_eq_true',Bool.not_eq_false'];unfold Mu.jM;refine⟨⟨hm,hp⟩,fun h=> ?_,fun h=> ?_⟩<;>simp_all
theorem qw.szT (a:Int) (K:Value→Prop):jE Tryz.prog (gD VC) 3000 151 [wv a] K=((cd WI (wv a))∧br (decide (fK (dW (wv a)) 0≥0))
 (K (wv a))
 ((cd WI (wv a))∧br (!okW (-dW (wv a)))
  ((True)∧K (wv mP))
  (K (wv (eQ (-dW (wv a))))))):=by kernel_rfl
theorem qw.size (x:Int) (hx:WR x) (w:World):Calls Tryz.prog 151 #[wv x] w (aV (wv (q8 x)) w):=by
 refine kF mixed NC (qw.szT x _) ?_ w;simp only[kv,ku,kU,rY,Dj,lJ,mg,rX,mf,lN,lQ,oC,Bool.not_eq_true',Bool.not_eq_false'];refine⟨hx,fun h1=> ?_,fun h1=>⟨hx,fun h2=> ?_,fun h2=> ?_⟩⟩
 ·have h1:=Bt.1 (of_decide_eq_true h1);rw[q8,if_pos h1]
 ·have h1:=fun h=>of_decide_eq_false h1 (Bt.2 h);have h3:=Ot h2;unfold WR at h3 hx;rw[q8,if_neg h1,if_pos af];exact⟨trivial,rfl⟩
 ·have h1:=fun h=>of_decide_eq_false h1 (Bt.2 h);have h3:=dG.1 h2;unfold WR at h3 hx;rw[jg h2,q8,if_neg h1,if_neg af]
end

end Go.Proofs.YtnmbfjgcmfjdcaaGreatDoor
