/- Texts of CoreRefuses's proof, together. -/
import Derived.Test.YtnmbfjgcmfjdcaaGreatDoorCoreRefusesZ20
import Derived.Deep.AppendLies
import Derived.Deep.RegionWith
import Derived.OwnWalk
namespace Go.Proofs.YtnmbfjgcmfjdcaaGreatDoor

section
open Go.RowKit
variable {w w' w1:World} {k:Nat}
def Bl (W w:World):Prop:=Below W.heap.size W w
theorem Bl.drew (W:World):Bl W W.drew:=(Below.refl _ _).drew
theorem Bl.on {W w w':World} (h:Bl W w) (hb:Below w w w'):Bl W w':=ai h hb
def TU (w:World) (b o:Nat) (x:It):Prop:=w.cell? ⟨b,o,none⟩=some (.int .u64 x.t)∧w.cell? ⟨b,o+1,none⟩=some (.int .u32 x.r)∧w.cell? ⟨b,o+2,none⟩=some (.int .u32 x.v)∧w.cell? ⟨b,o+3,none⟩=some (.int .i64 x.i)∧w.cell? ⟨b,o+4,none⟩=some (.int .u64 x.u)∧w.cell? ⟨b,o+5,none⟩=some (.int .u32 x.s)∧w.cell? ⟨b,o+6,none⟩=some (.int .u32 x.y)
theorem TU.below {b o:Nat} {x:It} (h:TU w b o x) (hb:Below w w w'):TU w' b o x:=⟨aS hb h.1,aS hb h.2.1,aS hb h.2.2.1,aS hb h.2.2.2.1,aS hb h.2.2.2.2.1,aS hb h.2.2.2.2.2.1,aS hb h.2.2.2.2.2.2⟩
abbrev It.zero:It:=It.mk 0 0 0 0 0 0 0
theorem It.nz:It.zero.In:=by unfold It.In;refine⟨?_,?_,?_,?_,?_,?_,?_⟩<;>exact⟨by decide,by decide⟩
def uk (w:World) (A:Option Addr) (n:Nat) (l:List It):Prop:=
 l.length=n∧∀i,i<n→∃b off,A=some ⟨b,off,none⟩∧b<w.heap.size∧∀j,j<n→TU w b (off+j*7) (l.getD j It.zero)
theorem uk.below {w w':World} {A:Option Addr} {n:Nat} {l:List It} (h:uk w A n l) (hb:Below w w w'):uk w' A n l:=
 ⟨h.1,fun i hi=>by
   obtain⟨b,off,e,hl,hc⟩:=h.2 i hi;exact⟨b,off,e,Nat.lt_of_lt_of_le hl hb.size,fun j hj=>(hc j hj).below hb⟩⟩
def Du (l:List It):Prop:=∀x∈l,x.In
theorem Du.get {l:List It} (h:Du l) (hk:k<l.length):(l.getD k It.zero).In:=by
 have e:l.getD k It.zero=l[k]:=by simp[List.getD,hk]
 rw[e];exact h _ (List.getElem_mem hk)
def sooner (a b:It):It:=if It.due b a then b else a
theorem uD {a b:It} (ha:a.In) (hb:b.In):(sooner a b).In:=by unfold sooner;split;exact hb;exact ha
theorem U8 (l:List It) (hl:Du l):∀a:It,a.In→(l.foldl sooner a).In:=by
 induction l with
 |nil=>intro a ha;exact ha
 |cons b l ih=>intro a ha;exact ih (fun x hx=>hl x (by simp[hx])) _ (uD ha (hl b ag))
theorem O7 {l:List It} (hk:k<l.length) (a:It):(l.take (k+1)).foldl sooner a=sooner ((l.take k).foldl sooner a) (l.getD k It.zero):=by
 have e:l.getD k It.zero=l[k]:=by simp[List.getD,hk]
 rw[e,List.take_succ_eq_append_getElem hk,List.foldl_append];rfl
def Sv (w:World) (a:It) (w':World):Prop:=Cs w' w.heap.size a.cells∧(∃b:It,Cs w' (w.heap.size+1) b.cells)∧Below w.heap.size w w'
theorem Sv.below {w w1 w2:World} {a:It} (h:Sv w a w1) (hb:Below w1 w1 w2):Sv w a w2:=⟨h.1.below hb,by obtain⟨b,hc⟩:=h.2.1;exact⟨b,hc.below hb⟩,ai h.2.2 hb⟩
theorem Sv.store {a:It} (h:Sv w a w1) (k:It):Sv w k (w1.setCells w.heap.size 0 k.cells):=by
 obtain⟨h1,⟨b,h2⟩,h3⟩:=h;exact⟨h1.stored k,⟨b,h2.qL af _ _⟩,aU ay _ _ h3⟩
theorem Sv.answer {a:It} (h:Sv w a w1) (k:It):Th (w1.setCells (w.heap.size+1) 0 k.cells) (w.heap.size+1) k∧Below w w (w1.setCells (w.heap.size+1) 0 k.cells):=by
 obtain⟨b,hc⟩:=h.2.1;exact⟨(hc.stored k).nW,aU af _ _ h.2.2⟩
theorem Sv.Vy {a:It} (h:Sv w a w1):w1.there (w.heap.size+1) 0 7:=by obtain⟨b,hc⟩:=h.2.1;exact hc.vN
set_option maxRecDepth 100000 in
set_option maxHeartbeats 4000000 in
theorem Item.D9 (a:It) (A:Option Addr) (n c:Nat) (l:List It) (w:World) (ha:a.In) (hr:uk w A n l) (hl:Du l) (hn:n≤1000000):
  Calls Tryz.prog 119 #[a.val, .slice A n c] w (aV (It.val (l.foldl sooner a)) w):=by
 have HA:=aa ha;have HR:=aa hr;have HL:=aa hl;have hni:(n:Int)≤1000000:=af
 have kC:Hid (Sv w a ((w.alloc (.cells a 57)).alloc (.cells aM 57))):=aa
  ⟨(Cs.cu _ _ _).alloc _,⟨It.zero,by have:=Cs.cu (w.alloc (.cells a 57)) 57 It.zero;simp only[World.size_alloc] at this;exact this⟩,((Below.refl _ _).alloc ay _).alloc ag _⟩
 clear ha hr hl;unfold It.val;go_enter Tryz.func119,Tryz.ntmps119;go_wp2_with fail
 generalize ((w.alloc (.cells a 57)).alloc (.cells aM 57))=W0 at kC⊢
 go_loopg [9] n (fun s i wr=>∃k:Nat,i= .int .i64 k∧k≤n∧s=n-k∧Sv w ((l.take k).foldl sooner a) wr)
 case atStart=>exact⟨0,rfl,Nat.zero_le _,by omega,kC.out⟩
 case round=>
  obtain⟨k,rfl,hk,hs,hv⟩:=hrel;have HS:=aa hs;have HV:=aa hv;clear hs hv kC;by_cases hkn:k<n
  ·obtain⟨b,off,hA,_,hc⟩:=(HR.out.below HV.out.2.2).2 0 af;obtain⟨p0,p1,p2,p3,p4,p5,p6⟩:=hc k hkn;have HX:=aa (HL.out.get (show k<l.length by have:=HR.out.1;omega));have HF:=aa (O7 (show k<l.length by have:=HR.out.1;omega) a);have HC:=aa (U8 (l.take k) (fun x hx=>HL.out x (List.mem_of_mem_take hx)) a HA.out);generalize l.getD k It.zero=x at *;generalize (l.take k).foldl sooner a=y at *;subst hA;have hki:(k:Int)<n:=af;clear hc;have HB1:=aa (aD wr (.cells x 57));obtain⟨q0,q1,q2,q3,q4,q5,q6⟩:=It.at y (HV.out.below HB1.out).1;have bX:Hid (Cs (wr.alloc (.cells x 57)) wr.heap.size x.cells):=aa (Cs.cu _ _ _);go_wp2_with fail
   refine(Item.due x y HX.out HC.out _).mono ?_;rintro e w1 ⟨rfl,hb⟩;have zq:=aa ((HV.out.below HB1.out).below hb);have dK:=aa (bX.out.below hb);clear p0 p1 p2 p3 p4 p5 p6 q0 q1 q2 q3 q4 q5 q6 hb HB1 bX;cases hd:It.due x y with
   |true=>
    have HD:Hid ((l.take (k+1)).foldl sooner a=x):=aa (by rw[HF.out,sooner,if_pos hd]);clear hd;obtain⟨p0,p1,p2,p3,p4,p5,p6⟩:=It.at x dK.out;have hth:=zq.out.1.vN;go_wp2_with (((with_reducible refine dC 57 dx rfl (.tmp 2) (.tmp 16) rfl w.heap.size 0 x hth ?h1 ?h2 ?h3);(case h1=>rfl);(case h2=>rfl);(intro W2 hW2);(have FN:=aa (hW2▸zq.out.store x:Sv w x W2));(clear hW2 p0 p1 p2 p3 p4 p5 p6)))
    go_roundg (n-(k+1))
    case measure=>have:=HS.out;omega
    case rel=>exact⟨k+1,by go_num,by omega,rfl,by rw[HD.out];exact FN.out⟩
   |false=>
    have HD:Hid ((l.take (k+1)).foldl sooner a=y):=aa (by rw[HF.out,sooner,if_neg (by rw[hd];simp)]);clear hd;go_wp2_with fail
    go_roundg (n-(k+1))
    case measure=>have:=HS.out;omega
    case rel=>exact⟨k+1,by go_num,by omega,rfl,by rw[HD.out];exact zq.out⟩
  ·obtain rfl:k=n:=af;have hki:¬(k:Int)<k:=af;have hq:=HV.out;rw[List.take_of_length_le (by have:=HR.out.1;omega)] at hq;have HQ:=aa hq;clear hq;generalize l.foldl sooner a=y at *;obtain⟨q0,q1,q2,q3,q4,q5,q6⟩:=It.at y HQ.out.1;have hth:=HQ.out.Vy;have wY:Hid (∀W,W=wr.setCells (w.heap.size+1) 0 y.cells→Th W (w.heap.size+1) y∧Below w w W):=aa (fun W e=>by rw[e];exact HQ.out.answer y);go_wp2_with ((with_reducible refine dC 57 dx rfl (.tmp 4) (.tmp 18) rfl (w.heap.size+1) 0 y hth ?k1 ?k2 ?k3);(case k1=>rfl);(case k2=>rfl);(intro W2 hW2);(have HW:=aa (wY.out W2 hW2));(clear hW2 q0 q1 q2 q3 q4 q5 q6);(obtain⟨z0,z1,z2,z3,z4,z5,z6⟩:=HW.out.1))
   refine bodyPost_ret (v:=It.val y) (by simp[results,Tryz.results119,go_sem,z0,z1,z2,z3,z4,z5,z6]) rfl ⟨rfl,HW.out.2⟩
end


section
open Go.RowKit
variable {g:Nat} {L:List (Nat×List Value)} {w W:World} {p:P3}
def VS (w:World) (L:List (Nat×List Value)) (W:World):Prop:=
 (∀(k g:Nat) (vs:List Value),L[k]?=some (g,vs)→Cs W g vs∧w.heap.size≤g∧g<W.heap.size)∧(L.map (·.1)).Nodup∧Below w w W
theorem VS.nil (w:World):VS w [] w:=⟨fun k g vs h=>by simp at h,List.nodup_nil,Below.refl _ _⟩
theorem VS.cs (h:VS w L W) (k:Nat) {vs:List Value} (e:L[k]?=some (g,vs)):Cs W g vs:=(h.1 k g vs e).1
theorem VS.jv (h:VS w L W):Below w w W:=h.2.2
theorem VS.below {w W W2:World} {L:List (Nat×List Value)} (h:VS w L W) (hb:Below W W W2):VS w L W2:=
 ⟨fun k g vs e=>⟨(h.1 k g vs e).1.below hb,(h.1 k g vs e).2.1,Nat.lt_of_lt_of_le (h.1 k g vs e).2.2 hb.size⟩,h.2.1,ai h.2.2 hb⟩
theorem VS.new (h:VS w L W) (T:TypeId) (vs:List Value):VS w (L++[(W.heap.size,vs)]) (W.alloc (.cells vs.toArray T)):=by
 have hb:=aD W (.cells vs.toArray T);have h2:=h.below hb;refine⟨fun k g us e=> ?_,?_,h2.2.2⟩
 ·rw[List.getElem?_append] at e;split at e
  ·exact h2.1 k g us e
  ·rcases hk:k-L.length with _|j
   ·rw[hk] at e;simp at e;obtain⟨rfl,rfl⟩:=e;exact⟨Cs.ja W T vs,h.2.2.size,by simp⟩
   ·rw[hk] at e;simp at e
 ·rw[List.map_append,List.nodup_append];refine⟨h.2.1,by simp,fun a ha b hb e=> ?_⟩;simp at hb;obtain⟨x,hx,e2⟩:=List.mem_map.1 ha;obtain⟨k,hk⟩:=List.getElem?_of_mem hx;have:=(h.1 k x.1 x.2 hk).2.2;omega
theorem VS.puts (h:VS w L W) (k:Nat) {us:List Value} (e:L[k]?=some (g,us)) (o:Nat) (vs:List Value) (hl:o+vs.length≤us.length):VS w (L.set k (g,xg us o vs)) (W.setCells g o vs):=by
 have hg:=h.1 k g us e
 have hsz:∀(vs:List Value) (o:Nat) (W:World),(W.setCells g o vs).heap.size=W.heap.size:=by
  intro vs;induction vs with
  |nil=>intro o W;rfl
  |cons v r ih=>intro o W;exact(ih (o+1) _).trans ag
 have hkl:k<L.length:=by
  rcases Nat.lt_or_ge k L.length with c|c
  ·exact c
  ·rw[List.getElem?_eq_none c] at e;cases e
 refine⟨fun j b ts ej=> ?_,?_,aU hg.2.1 _ _ h.2.2⟩
 ·rw[hsz];by_cases c:k=j
  ·subst c;rw[List.getElem?_set_self hkl] at ej;injection ej with ej;injection ej with e1 e2;subst e1 e2;exact⟨Cs.bH vs o hg.1 hl,hg.2⟩
  ·rw[List.getElem?_set_ne c] at ej;have hj:=h.1 j b ts ej;refine⟨hj.1.qL ?_ _ _,hj.2⟩;intro e';subst e';have n:=List.pairwise_iff_getElem.1 h.2.1
   have hjl:j<L.length:=by
    rcases Nat.lt_or_ge j L.length with d|d
    ·exact d
    ·rw[List.getElem?_eq_none d] at ej;cases ej
   rw[List.getElem?_eq_getElem hkl] at e;rw[List.getElem?_eq_getElem hjl] at ej;injection e with e;injection ej with ej;rcases Nat.lt_or_gt_of_ne c with d|d
   ·have:=n k j (by simpa using hkl) (by simpa using hjl) d;simp[e,ej] at this
   ·have:=n j k (by simpa using hjl) (by simpa using hkl) d;simp[e,ej] at this
 ·have:(L.set k (g,xg us o vs)).map (·.1)=L.map (·.1):=by
   rw[List.map_set];apply List.ext_getElem?
   intro i;by_cases c:k=i
   ·subst c;rw[List.getElem?_set_self (by simpa using hkl)];simp[e]
   ·rw[List.getElem?_set_ne c]
  rw[this];exact h.2.1
theorem VS.stays (w:World) (L:List (Nat×List Value)):aF (VS w L):=fun _ _ h hb=>h.below hb
theorem xZ {ops:Array Oper} {rest:List Oper} {op:Oper} {a:Act} {Q:Exit→Act→World→Prop} (h:VS w L W) (k:Nat) (T:TypeId) (vs:List Value) {n:Nat} (hT:(Tryz.prog.info? T).map (·.size)=some n) (hgd:op.guard=none) (x y:Operand) (ho:op.op= .store T x y)
  (g:Nat) (us:List Value) (hk:L[k]?=some (g,us)) (o:Nat) (hn:vs.length=n) (hl:o+n≤us.length) (h1:vs.all (·.oneCell')=true) (hx:a.eval x= .pointer (some ⟨g,o,none⟩)) (hy:a.eval y= .agg vs.toArray)
  (hK:∀W2,VS w (L.set k (g,xg us o vs)) W2→wpList Tryz.prog ops Q rest (a.put op.dst undef) W2):wpList Tryz.prog ops Q (op::rest) a W:=
 wpList_store_mid hgd T x y ho g o vs.toArray hx hy (by
   intro j hj;have hc:=h.cs k hk;have hj':o+j<us.length:=by simp at hj;omega
   exact⟨by rw[(hc _ _ (List.getElem?_eq_getElem hj')).1];rfl,(hc _ _ (List.getElem?_eq_getElem hj')).2⟩) (by rw[hT,←hn];simp) (by simpa using h1) (hK _ (by simpa using h.puts k hk o vs af))
structure Rq where
 a:It
 l:Int
 s:Int
 z:Bool
def Rq.cells (r:Rq):List Value:=[.int .u64 r.a.t, .int .u32 r.a.r, .int .u32 r.a.v, .int .i64 r.a.i, .int .u64 r.a.u, .int .u32 r.a.s, .int .u32 r.a.y, .int .u64 r.l, .int .u64 r.s, .bool r.z]
instance:Coe Rq (List Value):=⟨fun x=>[.int .u64 x.a.t, .int .u32 x.a.r, .int .u32 x.a.v, .int .i64 x.a.i, .int .u64 x.a.u, .int .u32 x.a.s, .int .u32 x.a.y, .int .u64 x.l, .int .u64 x.s, .bool x.z]⟩
instance:Coe Rq (Array Value):=⟨fun x=> #[.int .u64 x.a.t, .int .u32 x.a.r, .int .u32 x.a.v, .int .i64 x.a.i, .int .u64 x.a.u, .int .u32 x.a.s, .int .u32 x.a.y, .int .u64 x.l, .int .u64 x.s, .bool x.z]⟩
abbrev Rq.val (r:Rq):Value:= .agg #[.int .u64 r.a.t, .int .u32 r.a.r, .int .u32 r.a.v, .int .i64 r.a.i, .int .u64 r.a.u, .int .u32 r.a.s, .int .u32 r.a.y, .int .u64 r.l, .int .u64 r.s, .bool r.z]
def Rq.In (r:Rq):Prop:=r.a.In∧eZ r.l∧eZ r.s
abbrev Rq.no:Rq:=⟨It.zero,0,0,false⟩
theorem Rq.uG:Rq.no.In:=⟨It.nz,⟨by decide,by decide⟩,⟨by decide,by decide⟩⟩
theorem Rq.at (r:Rq) (h:Cs w g r.cells):w.cell? g=some (.int .u64 r.a.t)∧w.cell? ⟨g,1,none⟩=some (.int .u32 r.a.r)∧w.cell? ⟨g,2,none⟩=some (.int .u32 r.a.v)∧w.cell? ⟨g,3,none⟩=some (.int .i64 r.a.i)∧w.cell? ⟨g,4,none⟩=some (.int .u64 r.a.u)∧w.cell? ⟨g,5,none⟩=some (.int .u32 r.a.s)∧w.cell? ⟨g,6,none⟩=some (.int .u32 r.a.y)∧w.cell? ⟨g,7,none⟩=some (.int .u64 r.l)∧w.cell? ⟨g,8,none⟩=some (.int .u64 r.s)∧w.cell? ⟨g,9,none⟩=some (.bool r.z):=
 ⟨(h 0 _ rfl).1,(h 1 _ rfl).1,(h 2 _ rfl).1,(h 3 _ rfl).1,(h 4 _ rfl).1,(h 5 _ rfl).1,(h 6 _ rfl).1,(h 7 _ rfl).1,(h 8 _ rfl).1,(h 9 _ rfl).1⟩
def mK (n:Int):Bool:=decide (1≤n∧n≤1099511627776)
def gw (n:Int):Int:=IntKind.u64.wrap (1048576*n)
theorem R5 (n:Int):eZ (gw n):=by unfold gw eZ;rw[IntKind.wrap_u64];omega
def nQ (p:P3) (n:Int):P3:=sG p.1 (gw n+p.2.1) p.2.2
def Rq.pp (r:Rq):P3:=(r.a.t,r.a.r,r.a.v)
def Rq.due (r:Rq):P3:=nQ r.pp r.l
def Rq.right (r:Rq):Bool:=r.a.right&&mK r.l&&mK r.s&&(r.a.u == r.due.1&&r.a.s == r.due.2.1&&r.a.y == r.due.2.2)
def Rq.iR (r:Rq):Rq×Bool:=if r.right=true then(r,true) else(Rq.no,false)
def Rq.from_ (r:Rq) (p:P3):Rq:=⟨⟨p.1,p.2.1,p.2.2,r.a.i,(nQ p r.l).1,(nQ p r.l).2.1,(nQ p r.l).2.2⟩,r.l,r.s,r.z⟩
def Rq.new (p:P3) (id n:Int):Rq×Bool:=(Rq.from_ ⟨⟨0,0,0,id,0,0,0⟩,n,n,false⟩ p).iR
def Rq.moved (r:Rq) (p:P3):Rq×Bool:=if r.right=true then(r.from_ p).iR else(Rq.no,false)
def Rq.sliced (r:Rq) (n:Int):Rq×Bool:=if r.right=true then(Rq.mk r.a r.l n r.z).iR else(Rq.no,false)
def Rq.left (r:Rq) (n:Int):Int:=if r.l=n then r.s else r.l-n
def Rq.went (r:Rq) (n:Int):Rq:=Rq.from_ ⟨r.a,r.left n,r.s,r.z⟩ (nQ r.pp n)
def Rq.sM (r:Rq) (n:Int):Bool:=r.right&&decide (1≤n∧n≤r.l)
def Rq.serve (r:Rq) (n:Int):Rq×Bool×Bool:=if r.sM n=true then((r.went n).iR.1,decide (r.l=n)&&(r.went n).iR.2,(r.went n).iR.2) else(Rq.no,false,false)
theorem Dm (base d:Int) {v:Int} (h0:0≤v) (h1:v≤4294967295):dJ (sG base d v):=by
 unfold sG;split
 ·rename_i h;obtain⟨a,b,_,_⟩:=ui.1 h;have c:=Int.emod_nonneg d (show v≠0 by omega);have e:=Int.emod_lt_of_pos d (show 0<v by omega);exact⟨Gv _ _,⟨c,by show d%v≤4294967295;omega⟩,h0,h1⟩
 ·exact⟨⟨by decide,by decide⟩,⟨by decide,by decide⟩,by decide,by decide⟩
theorem o6 (hp:dJ p) (n:Int):dJ (nQ p n):=Dm _ _ hp.2.2.1 hp.2.2.2
theorem Rq.Cm {r:Rq} (h:r.In):dJ r.pp:=⟨h.1.1,h.1.2.1,h.1.2.2.1⟩
theorem Rq.Er {r:Rq} (h:r.In) (hp:dJ p):(r.from_ p).In:=
 ⟨⟨hp.1,hp.2.1,hp.2.2,h.1.2.2.2.1,(o6 hp _).1,(o6 hp _).2.1,(o6 hp _).2.2⟩,h.2⟩
theorem Rq.BO {r:Rq} (h:r.In):r.iR.1.In:=by
 unfold Rq.iR;split
 ·exact h
 ·exact Rq.uG
theorem vQ {n:Int}:mK n=true↔(1≤n∧n≤1099511627776):=by unfold mK;rw[decide_eq_true_eq]
theorem Q3 {r:Rq} (h:r.In) (n:Int) (h0:0≤n):(r.serve n).1.In:=by
 unfold Rq.serve;split
 ·rename_i c;unfold Rq.sM at c;simp only[Bool.and_eq_true,decide_eq_true_eq] at c;have l2:=h.2.1;have s2:=h.2.2;unfold eZ at l2
  have hl:eZ (r.left n):=by
   unfold Rq.left;split
   ·exact s2
   ·unfold eZ;omega
  exact Rq.BO (Rq.Er (r:=⟨r.a,r.left n,r.s,r.z⟩) ⟨h.1,hl,s2⟩ (o6 (Rq.Cm h) n))
 ·exact Rq.uG
end


section
open Go.RowKit
set_option maxRecDepth 100000
set_option maxHeartbeats 32000000
theorem jr:(Tryz.prog.info? 59).map (·.size)=some 10:=by kernel_rfl
theorem dA4 {P:Prop} (h:P:=by
 rw[e];clear e;go_enter Tryz.func129,Tryz.ntmps129;go_wp2
 go_ret;exact⟨rfl,Below.refl _ _⟩):P:=h
theorem gX.slice (n:Int) (w:World):Calls Tryz.prog 129 #[.int .u64 n] w (aV (.bool (mK n)) w):=by
 unfold mK;by_cases h1:1≤n
 ·by_cases h2:n≤1099511627776
  ·have e:decide (1≤n∧n≤1099511627776)=true:=by rw[decide_eq_true_eq];exact⟨h1,h2⟩
   exact dA4
  ·have e:decide (1≤n∧n≤1099511627776)=false:=by rw[decide_eq_false_iff_not];omega
   exact dA4
 ·have e:decide (1≤n∧n≤1099511627776)=false:=by rw[decide_eq_false_iff_not];omega
  exact dA4
theorem Pos.Zd (t r v n:Int) (hp:dJ (t,r,v)) (w:World):Calls Tryz.prog 112 #[.agg #[.int .u64 t, .int .u32 r, .int .u32 v], .int .u64 (gw n)] w (aV (.tuple #[pv (nQ (t,r,v) n), .bool (atOk (gw n+r) v)]) w):=
 Pos.moveF (p:=(t,r,v)) hp (R5 n).1 (R5 n).2 w
section
attribute [local go_sem] Pos.Ph
theorem gX.due (r:Rq) (hr:r.In) (w:World):Calls Tryz.prog 106 #[r.val] w (aV (pv r.due) w):=by
 have HR:=aa hr;obtain⟨d,hd⟩:∃d,nQ (r.a.t,r.a.r,r.a.v) r.l=d:=⟨_,rfl⟩;have HD:Hid (nQ (r.a.t,r.a.r,r.a.v) r.l=d):=aa hd;have e1:IntKind.u64.wrap (1048576*r.l)=gw r.l:=rfl;rw[show r.due=d from hd];clear hr hd;unfold Rq.val;have aY:Hid (VS w [(w.heap.size,r.cells),(w.heap.size+1,[.int .u64 0, .int .u32 0, .int .u32 0])] ((w.alloc (.cells r 59)).alloc (.cells #[.int .u64 0, .int .u32 0, .int .u32 0] 55))):=aa (by have h:=(((VS.nil w).new 59 r.cells).new 55 [.int .u64 0, .int .u32 0, .int .u32 0]);(try simp only[World.size_alloc] at h);exact h);go_enter Tryz.func106,Tryz.ntmps106;go_wp2_with fail
 generalize ((w.alloc (.cells r 59)).alloc (.cells #[.int .u64 0, .int .u32 0, .int .u32 0] 55))=W0 at aY⊢
 obtain⟨c0,c1,c2,c3,c4,c5,c6,c7,c8,c9⟩:=Rq.at r (aY.out.cs 0 rfl);go_wp2_with fail
 refine(Pos.Zd r.a.t r.a.r r.a.v r.l (Rq.Cm HR.out) _).mono ?_;rw[HD.out];rintro e w1 ⟨rfl,hb⟩;have zq:=aa (aY.out.below hb);clear hb aY e1 c0 c1 c2 c3 c4 c5 c6 c7 c8 c9;have FN:Hid (VS w [(w.heap.size,r.cells),(w.heap.size+1,[.int .u64 0, .int .u32 0, .int .u32 0]),(w1,[.int .u64 0, .int .u32 0, .int .u32 0])] (w1.alloc (.cells #[.int .u64 0, .int .u32 0, .int .u32 0] 55))):=aa (zq.out.new 55 [.int .u64 0, .int .u32 0, .int .u32 0]);clear zq;go_wp2_with (first|((with_reducible refine xZ FN.out 2 55 [.int .u64 d.1, .int .u32 d.2.1, .int .u32 d.2.2] zU rfl (.tmp 3) (.tmp 13) rfl (w1.heap.size) ([.int .u64 0, .int .u32 0, .int .u32 0]) ?hz1a 0 ?hz1b ?hz1c ?hz1d ?hz1e ?hz1f ?abd);(case hz1a=>rfl);(case hz1b=>rfl);(case hz1c=>exact of_decide_eq_true rfl);(case hz1d=>rfl);(case hz1e=>rfl);(case hz1f=>rfl);(intro W2 hW2);(have JE:Hid (VS w [(w.heap.size,r.cells),(w.heap.size+1,[.int .u64 0, .int .u32 0, .int .u32 0]),(w1,[.int .u64 d.1, .int .u32 d.2.1, .int .u32 d.2.2])] W2):=aa hW2);(clear hW2 FN);(obtain⟨q0,q1,q2⟩:=P3.at d (JE.out.cs 2 rfl)))|((with_reducible refine xZ JE.out 1 55 [.int .u64 d.1, .int .u32 d.2.1, .int .u32 d.2.2] zU rfl (.tmp 2) (.tmp 15) rfl (w.heap.size+1) ([.int .u64 0, .int .u32 0, .int .u32 0]) ?hz2a 0 ?hz2b ?hz2c ?hz2d ?hz2e ?hz2f ?abb);(case hz2a=>rfl);(case hz2b=>rfl);(case hz2c=>exact of_decide_eq_true rfl);(case hz2d=>rfl);(case hz2e=>rfl);(case hz2f=>rfl);(intro W2 hW2);(have Lt:Hid (VS w [(w.heap.size,r.cells),(w.heap.size+1,[.int .u64 d.1, .int .u32 d.2.1, .int .u32 d.2.2]),(w1,[.int .u64 d.1, .int .u32 d.2.1, .int .u32 d.2.2])] W2):=aa hW2);(clear hW2 JE);(clear q0 q1 q2);(obtain⟨q0,q1,q2⟩:=P3.at d (Lt.out.cs 1 rfl)))|fail)
 refine bodyPost_ret (v:=pv d) (by simp[results,Tryz.results106,go_sem,q0,q1,q2]) rfl ⟨rfl,Lt.out.jv⟩
theorem gX.right (r:Rq) (hr:r.In) (w:World):Calls Tryz.prog 90 #[r.val] w (aV (.bool r.right) w):=by
 have HR:=aa hr;clear hr;unfold Rq.val;cases h1:It.right r.a with
 |false=>
  have H1:=aa h1;clear h1;have HE:Hid (r.right=false):=aa (by unfold Rq.right;rw[H1.out];rfl);rw[HE.out];have aY:Hid (VS w [(w.heap.size,r.cells)] (w.alloc (.cells r 59))):=aa (by have h:=((VS.nil w).new 59 r.cells);(try simp only[World.size_alloc] at h);exact h);go_enter Tryz.func90,Tryz.ntmps90;go_wp2_with fail
  generalize (w.alloc (.cells r 59))=W0 at aY⊢
  refine aA (S:=VS w [(w.heap.size,r.cells)]) 22 ae (aY.out.below (Below.refl _ _).drew) ?_;refine aQ (VS.stays w _) (fun _ h=>h) fun g=> ?_;refine tk 0 ?_ g ?_ ?_ (tk 1 ?_ g ?_ ?_ ?_);rotate_left;(·rfl);(·exact ah);rotate_left;(·rfl);(·intro wq hSw;obtain⟨c0,c1,c2,c3,c4,c5,c6,c7,c8,c9⟩:=Rq.at r (hSw.cs 0 rfl);go_simp;try with_reducible rfl);try simp only[av]
  clear g;refine iI 2 (.bool false) (VS.stays w _) (fun _ h=>h) (fun wq hSw=> ?_) ?_
  ·refine dU.aN ((Item.right r.a wq).mono (by rintro e w' ⟨rfl,hb⟩;exact⟨by rw[H1.out],hb⟩:∀e w',aV (.bool (It.right r.a)) wq e w'→aV (.bool false) wq e w')) (by go_simp) ?_;rintro e wr ⟨rfl,hb⟩;exact⟨rfl,hb⟩
  try simp only[av]
  refine aQ (VS.stays w _) (fun _ h=>h) fun g=> ?_;refine tk 3 ?_ g ?_ ?_ (kM 4 g ?_ (kM 5 g ?_ (kM 6 g ?_ (tk 7 ?_ g ?_ ?_ (tk 8 ?_ g ?_ ?_ ?_)))));rotate_left;(·rfl);(·exact ah);iterate 3 ((·rfl))
  iterate 2 (rotate_left;(·rfl);(·exact ah))
  try simp only[av]
  clear g;refine aQ (VS.stays w _) (fun _ h=>h) fun g=> ?_;refine kM 9 g ?_ (kM 10 g ?_ (kM 11 g ?_ (tk 12 ?_ g ?_ ?_ (tk 13 ?_ g ?_ ?_ (kM 14 g ?_ ?_)))));iterate 3 ((·rfl))
  iterate 2 (rotate_left;(·rfl);(·exact ah))
  (·rfl)
  try simp only[av]
  clear g;refine aQ (VS.stays w _) (fun _ h=>h) fun g=> ?_;refine kM 15 g ?_ (kM 16 g ?_ (kM 17 g ?_ (kM 18 g ?_ (kM 19 g ?_ (tk 20 ?_ g ?_ ?_ ?_)))));iterate 5 ((·rfl))
  rotate_left;(·rfl);(·exact ah);try simp only[av]
  clear g;refine aQ (VS.stays w _) (fun _ h=>h) fun g=> ?_;refine tk 21 ?_ g ?_ ?_ ?_;rotate_left;(·rfl);(·exact ah);try simp only[av]
  clear g;refine aZ ae (fun wz hSz=> ?_) _;go_wp2_with fail
  go_ret;exact⟨rfl,hSz.jv⟩
 |true=>
  cases h2:mK r.l with
  |false=>
   have H1:=aa h1;have H2:=aa h2;clear h1 h2;have HE:Hid (r.right=false):=aa (by unfold Rq.right;rw[H1.out,H2.out];rfl);rw[HE.out];have aY:Hid (VS w [(w.heap.size,r.cells)] (w.alloc (.cells r 59))):=aa (by have h:=((VS.nil w).new 59 r.cells);(try simp only[World.size_alloc] at h);exact h);go_enter Tryz.func90,Tryz.ntmps90;go_wp2_with fail
   generalize (w.alloc (.cells r 59))=W0 at aY⊢
   refine aA (S:=VS w [(w.heap.size,r.cells)]) 22 ae (aY.out.below (Below.refl _ _).drew) ?_;refine aQ (VS.stays w _) (fun _ h=>h) fun g=> ?_;refine tk 0 ?_ g ?_ ?_ (tk 1 ?_ g ?_ ?_ ?_);rotate_left;(·rfl);(·exact ah);rotate_left;(·rfl);(·intro wq hSw;obtain⟨c0,c1,c2,c3,c4,c5,c6,c7,c8,c9⟩:=Rq.at r (hSw.cs 0 rfl);go_simp;try with_reducible rfl);try simp only[av]
   clear g;refine iI 2 (.bool true) (VS.stays w _) (fun _ h=>h) (fun wq hSw=> ?_) ?_
   ·refine dU.aN ((Item.right r.a wq).mono (by rintro e w' ⟨rfl,hb⟩;exact⟨by rw[H1.out],hb⟩:∀e w',aV (.bool (It.right r.a)) wq e w'→aV (.bool true) wq e w')) (by go_simp) ?_;rintro e wr ⟨rfl,hb⟩;exact⟨rfl,hb⟩
   try simp only[av]
   refine aQ (VS.stays w _) (fun _ h=>h) fun g=> ?_;refine tk 3 ?_ g ?_ ?_ (tk 4 ?_ g ?_ ?_ (tk 5 ?_ g ?_ ?_ ?_));iterate 2 (rotate_left;(·rfl);(·exact ah))
   rotate_left;(·rfl);(·intro wq hSw;obtain⟨c0,c1,c2,c3,c4,c5,c6,c7,c8,c9⟩:=Rq.at r (hSw.cs 0 rfl);go_simp;try with_reducible rfl);try simp only[av]
   clear g;refine iI 6 (.bool false) (VS.stays w _) (fun _ h=>h) (fun wq hSw=> ?_) ?_
   ·refine dU.aN ((gX.slice r.l wq).mono (by rintro e w' ⟨rfl,hb⟩;exact⟨by rw[H2.out],hb⟩:∀e w',aV (.bool (mK r.l)) wq e w'→aV (.bool false) wq e w')) (by go_simp) ?_;rintro e wr ⟨rfl,hb⟩;exact⟨rfl,hb⟩
   try simp only[av]
   refine aQ (VS.stays w _) (fun _ h=>h) fun g=> ?_;refine tk 7 ?_ g ?_ ?_ (tk 8 ?_ g ?_ ?_ (kM 9 g ?_ (kM 10 g ?_ (kM 11 g ?_ (tk 12 ?_ g ?_ ?_ ?_)))));iterate 2 (rotate_left;(·rfl);(·exact ah))
   iterate 3 ((·rfl))
   rotate_left;(·rfl);(·exact ah);try simp only[av]
   clear g;refine aQ (VS.stays w _) (fun _ h=>h) fun g=> ?_;refine tk 13 ?_ g ?_ ?_ (kM 14 g ?_ (kM 15 g ?_ (kM 16 g ?_ (kM 17 g ?_ (kM 18 g ?_ ?_)))));rotate_left;(·rfl);(·exact ah);iterate 5 ((·rfl))
   try simp only[av]
   clear g;refine aQ (VS.stays w _) (fun _ h=>h) fun g=> ?_;refine kM 19 g ?_ (tk 20 ?_ g ?_ ?_ (tk 21 ?_ g ?_ ?_ ?_))
   (·rfl)
   iterate 2 (rotate_left;(·rfl);(·exact ah))
   try simp only[av]
   clear g;refine aZ ae (fun wz hSz=> ?_) _;go_wp2_with fail
   go_ret;exact⟨rfl,hSz.jv⟩
  |true=>
   cases h3:mK r.s with
   |false=>
    have H1:=aa h1;have H2:=aa h2;have H3:=aa h3;clear h1 h2 h3;have HE:Hid (r.right=false):=aa (by unfold Rq.right;rw[H1.out,H2.out,H3.out];rfl);rw[HE.out];have aY:Hid (VS w [(w.heap.size,r.cells)] (w.alloc (.cells r 59))):=aa (by have h:=((VS.nil w).new 59 r.cells);(try simp only[World.size_alloc] at h);exact h);go_enter Tryz.func90,Tryz.ntmps90;go_wp2_with fail
    generalize (w.alloc (.cells r 59))=W0 at aY⊢
    refine aA (S:=VS w [(w.heap.size,r.cells)]) 22 ae (aY.out.below (Below.refl _ _).drew) ?_;refine aQ (VS.stays w _) (fun _ h=>h) fun g=> ?_;refine tk 0 ?_ g ?_ ?_ (tk 1 ?_ g ?_ ?_ ?_);rotate_left;(·rfl);(·exact ah);rotate_left;(·rfl);(·intro wq hSw;obtain⟨c0,c1,c2,c3,c4,c5,c6,c7,c8,c9⟩:=Rq.at r (hSw.cs 0 rfl);go_simp;try with_reducible rfl);try simp only[av]
    clear g;refine iI 2 (.bool true) (VS.stays w _) (fun _ h=>h) (fun wq hSw=> ?_) ?_
    ·refine dU.aN ((Item.right r.a wq).mono (by rintro e w' ⟨rfl,hb⟩;exact⟨by rw[H1.out],hb⟩:∀e w',aV (.bool (It.right r.a)) wq e w'→aV (.bool true) wq e w')) (by go_simp) ?_;rintro e wr ⟨rfl,hb⟩;exact⟨rfl,hb⟩
    try simp only[av]
    refine aQ (VS.stays w _) (fun _ h=>h) fun g=> ?_;refine tk 3 ?_ g ?_ ?_ (tk 4 ?_ g ?_ ?_ (tk 5 ?_ g ?_ ?_ ?_));iterate 2 (rotate_left;(·rfl);(·exact ah))
    rotate_left;(·rfl);(·intro wq hSw;obtain⟨c0,c1,c2,c3,c4,c5,c6,c7,c8,c9⟩:=Rq.at r (hSw.cs 0 rfl);go_simp;try with_reducible rfl);try simp only[av]
    clear g;refine iI 6 (.bool true) (VS.stays w _) (fun _ h=>h) (fun wq hSw=> ?_) ?_
    ·refine dU.aN ((gX.slice r.l wq).mono (by rintro e w' ⟨rfl,hb⟩;exact⟨by rw[H2.out],hb⟩:∀e w',aV (.bool (mK r.l)) wq e w'→aV (.bool true) wq e w')) (by go_simp) ?_;rintro e wr ⟨rfl,hb⟩;exact⟨rfl,hb⟩
    try simp only[av]
    refine aQ (VS.stays w _) (fun _ h=>h) fun g=> ?_;refine tk 7 ?_ g ?_ ?_ (tk 8 ?_ g ?_ ?_ (tk 9 ?_ g ?_ ?_ (tk 10 ?_ g ?_ ?_ ?_)));iterate 3 (rotate_left;(·rfl);(·exact ah))
    rotate_left;(·rfl);(·intro wq hSw;obtain⟨c0,c1,c2,c3,c4,c5,c6,c7,c8,c9⟩:=Rq.at r (hSw.cs 0 rfl);go_simp;try with_reducible rfl);try simp only[av]
    clear g;refine iI 11 (.bool false) (VS.stays w _) (fun _ h=>h) (fun wq hSw=> ?_) ?_
    ·refine dU.aN ((gX.slice r.s wq).mono (by rintro e w' ⟨rfl,hb⟩;exact⟨by rw[H3.out],hb⟩:∀e w',aV (.bool (mK r.s)) wq e w'→aV (.bool false) wq e w')) (by go_simp) ?_;rintro e wr ⟨rfl,hb⟩;exact⟨rfl,hb⟩
    try simp only[av]
    refine aQ (VS.stays w _) (fun _ h=>h) fun g=> ?_;refine tk 12 ?_ g ?_ ?_ (tk 13 ?_ g ?_ ?_ (kM 14 g ?_ (kM 15 g ?_ (kM 16 g ?_ (kM 17 g ?_ ?_)))));iterate 2 (rotate_left;(·rfl);(·exact ah))
    iterate 4 ((·rfl))
    try simp only[av]
    clear g;refine aQ (VS.stays w _) (fun _ h=>h) fun g=> ?_;refine kM 18 g ?_ (kM 19 g ?_ (tk 20 ?_ g ?_ ?_ (tk 21 ?_ g ?_ ?_ ?_)));iterate 2 ((·rfl))
    iterate 2 (rotate_left;(·rfl);(·exact ah))
    try simp only[av]
    clear g;refine aZ ae (fun wz hSz=> ?_) _;go_wp2_with fail
    go_ret;exact⟨rfl,hSz.jv⟩
   |true=>
    have H1:=aa h1;have H2:=aa h2;have H3:=aa h3;clear h1 h2 h3;have HE:Hid (r.right=(r.a.u == r.due.1&&r.a.s == r.due.2.1&&r.a.y == r.due.2.2)):=aa (by unfold Rq.right;rw[H1.out,H2.out,H3.out];rfl);rw[HE.out];have aY:Hid (VS w [(w.heap.size,r.cells)] (w.alloc (.cells r 59))):=aa (by have h:=((VS.nil w).new 59 r.cells);(try simp only[World.size_alloc] at h);exact h);go_enter Tryz.func90,Tryz.ntmps90;go_wp2_with fail
    generalize (w.alloc (.cells r 59))=W0 at aY⊢
    refine aA (S:=VS w [(w.heap.size,r.cells)]) 22 ae (aY.out.below (Below.refl _ _).drew) ?_;refine aQ (VS.stays w _) (fun _ h=>h) fun g=> ?_;refine tk 0 ?_ g ?_ ?_ (tk 1 ?_ g ?_ ?_ ?_);rotate_left;(·rfl);(·exact ah);rotate_left;(·rfl);(·intro wq hSw;obtain⟨c0,c1,c2,c3,c4,c5,c6,c7,c8,c9⟩:=Rq.at r (hSw.cs 0 rfl);go_simp;try with_reducible rfl);try simp only[av]
    clear g;refine iI 2 (.bool true) (VS.stays w _) (fun _ h=>h) (fun wq hSw=> ?_) ?_
    ·refine dU.aN ((Item.right r.a wq).mono (by rintro e w' ⟨rfl,hb⟩;exact⟨by rw[H1.out],hb⟩:∀e w',aV (.bool (It.right r.a)) wq e w'→aV (.bool true) wq e w')) (by go_simp) ?_;rintro e wr ⟨rfl,hb⟩;exact⟨rfl,hb⟩
    try simp only[av]
    refine aQ (VS.stays w _) (fun _ h=>h) fun g=> ?_;refine tk 3 ?_ g ?_ ?_ (tk 4 ?_ g ?_ ?_ (tk 5 ?_ g ?_ ?_ ?_));iterate 2 (rotate_left;(·rfl);(·exact ah))
    rotate_left;(·rfl);(·intro wq hSw;obtain⟨c0,c1,c2,c3,c4,c5,c6,c7,c8,c9⟩:=Rq.at r (hSw.cs 0 rfl);go_simp;try with_reducible rfl);try simp only[av]
    clear g;refine iI 6 (.bool true) (VS.stays w _) (fun _ h=>h) (fun wq hSw=> ?_) ?_
    ·refine dU.aN ((gX.slice r.l wq).mono (by rintro e w' ⟨rfl,hb⟩;exact⟨by rw[H2.out],hb⟩:∀e w',aV (.bool (mK r.l)) wq e w'→aV (.bool true) wq e w')) (by go_simp) ?_;rintro e wr ⟨rfl,hb⟩;exact⟨rfl,hb⟩
    try simp only[av]
    refine aQ (VS.stays w _) (fun _ h=>h) fun g=> ?_;refine tk 7 ?_ g ?_ ?_ (tk 8 ?_ g ?_ ?_ (tk 9 ?_ g ?_ ?_ (tk 10 ?_ g ?_ ?_ ?_)));iterate 3 (rotate_left;(·rfl);(·exact ah))
    rotate_left;(·rfl);(·intro wq hSw;obtain⟨c0,c1,c2,c3,c4,c5,c6,c7,c8,c9⟩:=Rq.at r (hSw.cs 0 rfl);go_simp;try with_reducible rfl);try simp only[av]
    clear g;refine iI 11 (.bool true) (VS.stays w _) (fun _ h=>h) (fun wq hSw=> ?_) ?_
    ·refine dU.aN ((gX.slice r.s wq).mono (by rintro e w' ⟨rfl,hb⟩;exact⟨by rw[H3.out],hb⟩:∀e w',aV (.bool (mK r.s)) wq e w'→aV (.bool true) wq e w')) (by go_simp) ?_;rintro e wr ⟨rfl,hb⟩;exact⟨rfl,hb⟩
    try simp only[av]
    refine aQ (VS.stays w _) (fun _ h=>h) fun g=> ?_;refine tk 12 ?_ g ?_ ?_ (tk 13 ?_ g ?_ ?_ (tk 14 ?_ g ?_ ?_ (tk 15 ?_ g ?_ ?_ (tk 16 ?_ g ?_ ?_ (tk 17 ?_ g ?_ ?_ ?_)))));iterate 4 (rotate_left;(·rfl);(·exact ah))
    iterate 2 (rotate_left;(·rfl);(·intro wq hSw;obtain⟨c0,c1,c2,c3,c4,c5,c6,c7,c8,c9⟩:=Rq.at r (hSw.cs 0 rfl);go_simp;try with_reducible rfl))
    try simp only[av]
    clear g;refine iI 18 (pv r.due) (VS.stays w _) (fun _ h=>h) (fun wq hSw=> ?_) ?_
    ·refine dU.aN (gX.due r HR.out wq) (by go_simp) ?_;rintro e wr ⟨rfl,hb⟩;exact⟨rfl,hb⟩
    try simp only[av]
    refine cB (i:=19) (v:= .bool (r.a.u == r.due.1&&r.a.s == r.due.2.1&&r.a.y == r.due.2.2)) (VS.stays w _) (fun _ h=>h) rfl ae ae ae ae (fun _ _ _ h=>h) (bA.bF (Or.inl ⟨by rfl,?_⟩)) ?_
    ·intro wq hSw;go_simp;by_cases q1:r.a.u=r.due.1<;>by_cases q2:r.a.s=r.due.2.1<;>by_cases q3:r.a.y=r.due.2.2<;>simp[q1,q2,q3]
    try simp only[av]
    refine aQ (VS.stays w _) (fun _ h=>h) fun g=> ?_;refine tk 20 ?_ g ?_ ?_ (tk 21 ?_ g ?_ ?_ ?_);iterate 2 (rotate_left;(·rfl);(·exact ah))
    try simp only[av]
    clear g;refine aZ ae (fun wz hSz=> ?_) _;go_wp2_with fail
    go_ret;exact⟨rfl,hSz.jv⟩
end
end


namespace Ck
open Go Go.RowKit
def aax:Value→Bool
 | .bool b=>b
 |_=>false
def dR:Value→Rq
 | .agg c=>match c.toList with
   |[t,r,v,i,u,s,y,l,m,z]=>⟨⟨gQ t,gQ r,gQ v,gQ i,gQ u,gQ s,gQ y⟩,gQ l,gQ m,aax z⟩
   |_=>Rq.no
 |_=>Rq.no
instance:Enc Rq:=⟨Rq.val,dR,Rq.In⟩
theorem uf (r:Rq):cd Rq r.val↔r.In:=⟨fun h=>h.2,fun h=>⟨rfl,h⟩⟩
def VA:List (Nat×SF):=
 (90,s1 (α:=Rq) fun r=> .bool r.right)::
 (106,s1 (α:=Rq) fun r=>pv r.due)::Ta
theorem NA:oL Tryz.prog VA:= .cons (ok1 fun r hr w=>gX.right r hr w) <| .cons (ok1 fun r hr w=>gX.due r hr w) GZ
end Ck
section
open Go Go.RowKit Ck
theorem D5 {x:Rq×Bool} {r:Rq} {b:Bool} (h:x=(r,b)):Value.tuple #[r.val, .bool b]= .tuple #[Rq.val x.1, .bool x.2]:=by rw[h]
theorem gX.whT (r:Rq) (K:Value→Prop):jE Tryz.prog (gD VA) 3000 93 [r.val] K=(cd Rq r.val∧br r.right (K (.tuple #[r.val, .bool true])) (K (.tuple #[Rq.no.val, .bool false]))):=by kernel_rfl
theorem gX.iR (r:Rq) (hr:r.In) (w:World):Calls Tryz.prog 93 #[r.val] w (aV (.tuple #[Rq.val r.iR.1, .bool r.iR.2]) w):=
 kF mixed NA (gX.whT r _) ⟨(uf r).2 hr,oI (fun h=>D5 (by simp[Rq.iR,h])) fun h=>D5 (by simp[Rq.iR,h])⟩ w
def Ck.Vz:List (Nat×SF):=
 (93,s1 (α:=Rq) fun r=> .tuple #[Rq.val r.iR.1, .bool r.iR.2])::VA
theorem Ck.Nz:oL Tryz.prog Vz:= .cons (ok1 fun r hr w=>gX.iR r hr w) NA
theorem gX.frT (r:Rq) (p:P3) (K:Value→Prop):jE Tryz.prog (gD Vz) 3000 71 [r.val,pv p] K=(cd Rq (Rq.val ⟨⟨p.1,p.2.1,p.2.2,r.a.i,r.a.u,r.a.s,r.a.y⟩,r.l,r.s,r.z⟩)∧cd Rq (r.from_ p).val∧K (.tuple #[(r.from_ p).iR.1.val, .bool (r.from_ p).iR.2])):=by kernel_rfl
theorem gX.from_ (r:Rq) (hr:r.In) (p:P3) (hp:dJ p) (w:World):Calls Tryz.prog 71 #[r.val,pv p] w (aV (.tuple #[Rq.val (r.from_ p).iR.1, .bool (r.from_ p).iR.2]) w):=
 kF mixed Nz (gX.frT r p _) ⟨(uf _).2 ⟨⟨hp.1,hp.2.1,hp.2.2,hr.1.2.2.2⟩,hr.2⟩,(uf _).2 (Rq.Er hr hp),rfl⟩ w
def Ck.Ny:List (Nat×SF):=
 (71,s2 (α:=Rq) (β:=P3) fun r p=> .tuple #[Rq.val (r.from_ p).iR.1, .bool (r.from_ p).iR.2])::Vz
theorem Ck.BR:oL Tryz.prog Ny:= .cons (rA fun r p hr hp w=>gX.from_ r hr p hp w) Nz
theorem gX.neT (p:P3) (i n:Int) (K:Value→Prop):jE Tryz.prog (gD Ny) 3000 39 [pv p, .int .i64 i, .int .u64 n] K=((cd Rq (Rq.val ⟨⟨0,0,0,i,0,0,0⟩,n,n,false⟩)∧cd P3 (pv p))∧K (.tuple #[(Rq.new p i n).1.val, .bool (Rq.new p i n).2])):=by kernel_rfl
theorem gX.new (p:P3) (hp:dJ p) (id n:Int) (hi: -9223372036854775808≤id∧id≤9223372036854775807) (hn:eZ n) (w:World):Calls Tryz.prog 39 #[pv p, .int .i64 id, .int .u64 n] w (aV (.tuple #[Rq.val (Rq.new p id n).1, .bool (Rq.new p id n).2]) w):=
 kF mixed BR (gX.neT p id n _) ⟨⟨(uf _).2 ⟨⟨It.nz.1,It.nz.2.1,It.nz.2.2.1,hi,It.nz.2.2.2.2⟩,hn,hn⟩,(lJ p).2 hp⟩,rfl⟩ w
theorem gX.moT (r:Rq) (p:P3) (K:Value→Prop):jE Tryz.prog (gD Ny) 3000 57 [r.val,pv p] K=(cd Rq r.val∧br r.right ((cd Rq r.val∧cd P3 (pv p))∧K (.tuple #[(r.from_ p).iR.1.val, .bool (r.from_ p).iR.2])) (K (.tuple #[Rq.no.val, .bool false]))):=by kernel_rfl
theorem gX.moved (r:Rq) (hr:r.In) (p:P3) (hp:dJ p) (w:World):Calls Tryz.prog 57 #[r.val,pv p] w (aV (.tuple #[Rq.val (r.moved p).1, .bool (r.moved p).2]) w):=
 kF mixed BR (gX.moT r p _) ⟨(uf r).2 hr,oI (fun h=>⟨⟨(uf r).2 hr,(lJ p).2 hp⟩,D5 (by simp[Rq.moved,h])⟩) fun h=>D5 (by simp[Rq.moved,h])⟩ w
theorem gX.slT (r:Rq) (n:Int) (K:Value→Prop):jE Tryz.prog (gD Ny) 3000 60 [r.val, .int .u64 n] K=(cd Rq r.val∧br r.right (cd Rq (Rq.val ⟨r.a,r.l,n,r.z⟩)∧K (.tuple #[(Rq.mk r.a r.l n r.z).iR.1.val, .bool (Rq.mk r.a r.l n r.z).iR.2])) (K (.tuple #[Rq.no.val, .bool false]))):=by kernel_rfl
theorem gX.sliced (r:Rq) (hr:r.In) (n:Int) (hn:eZ n) (w:World):Calls Tryz.prog 60 #[r.val, .int .u64 n] w (aV (.tuple #[Rq.val (r.sliced n).1, .bool (r.sliced n).2]) w):=
 kF mixed BR (gX.slT r n _) ⟨(uf r).2 hr,oI (fun h=>⟨(uf _).2 ⟨hr.1,hr.2.1,hn⟩,D5 (by simp[Rq.sliced,h])⟩) fun h=>D5 (by simp[Rq.sliced,h])⟩ w
theorem gX.seT (r:Rq) (n:Int) (K:Value→Prop):jE Tryz.prog (gD Ny) 3000 76 [r.val, .int .u64 n] K=(cd Rq r.val∧br r.right (br (n == 0) (K (.tuple #[Rq.no.val, .bool false, .bool false])) (br (decide (n>r.l)) (K (.tuple #[Rq.no.val, .bool false, .bool false])) ((cd P3 (pv r.pp)∧cd TR (.int .u64 (gw n)))∧br (IntKind.u64.wrap (r.l-n) == 0) ((cd Rq (Rq.val ⟨r.a,r.s,r.s,r.z⟩)∧cd P3 (pv (nQ r.pp n)))∧K (.tuple #[(Rq.from_ ⟨r.a,r.s,r.s,r.z⟩ (nQ r.pp n)).iR.1.val, .bool (Rq.from_ ⟨r.a,r.s,r.s,r.z⟩ (nQ r.pp n)).iR.2, .bool (Rq.from_ ⟨r.a,r.s,r.s,r.z⟩ (nQ r.pp n)).iR.2])) ((cd Rq (Rq.val ⟨r.a,IntKind.u64.wrap (r.l-n),r.s,r.z⟩)∧cd P3 (pv (nQ r.pp n)))∧K (.tuple #[(Rq.from_ ⟨r.a,IntKind.u64.wrap (r.l-n),r.s,r.z⟩ (nQ r.pp n)).iR.1.val, .bool false, .bool (Rq.from_ ⟨r.a,IntKind.u64.wrap (r.l-n),r.s,r.z⟩ (nQ r.pp n)).iR.2]))))) (K (.tuple #[Rq.no.val, .bool false, .bool false]))):=by kernel_rfl
theorem gX.serve (r:Rq) (hr:r.In) (n:Int) (hn:eZ n) (w:World):Calls Tryz.prog 76 #[r.val, .int .u64 n] w (aV (.tuple #[Rq.val (r.serve n).1, .bool (r.serve n).2.1, .bool (r.serve n).2.2]) w):=by
 refine kF mixed BR (gX.seT r n _) ?_ w;have t3:∀{x:Rq} {b c:Bool},r.serve n=(x,b,c)→Value.tuple #[x.val, .bool b, .bool c]= .tuple #[Rq.val (r.serve n).1, .bool (r.serve n).2.1, .bool (r.serve n).2.2]:=fun h=>by rw[h]
 have hl:=hr.2.1;unfold eZ at hn hl;refine⟨(uf r).2 hr,oI (fun h1=>oI (fun h2=>t3 (by simp[Rq.serve,Rq.sM,eq_of_beq h2])) fun h2=>oI (fun h3=>t3 ?_) fun h3=> ?_) fun h1=>t3 (by simp[Rq.serve,Rq.sM,h1])⟩
 ·have:=of_decide_eq_true h3;unfold Rq.serve Rq.sM;rw[decide_eq_false (show ¬(1≤n∧n≤r.l) by omega),if_neg ag]
 have h2:n≠0:=by simpa using h2
 have h3:=of_decide_eq_false h3;have hk:r.sM n=true:=by unfold Rq.sM;rw[h1,decide_eq_true (show 1≤n∧n≤r.l by omega)];rfl
 have hw:IntKind.u64.wrap (r.l-n)=r.l-n:=by rw[IntKind.wrap_u64];omega
 have hd:=o6 (Rq.Cm hr) n;refine⟨⟨(lJ _).2 (Rq.Cm hr),(rE _).2 (R5 n)⟩,oI (fun h4=>⟨⟨(uf _).2 ⟨hr.1,hr.2.2,hr.2.2⟩,(lJ _).2 hd⟩,t3 ?_⟩) fun h4=>⟨⟨(uf _).2 ⟨hr.1,?_,hr.2.2⟩,(lJ _).2 hd⟩,t3 ?_⟩⟩<;>rw[hw] at h4
 ·have h5:r.l=n:=by have:=eq_of_beq h4;omega
  unfold Rq.serve Rq.went Rq.left;rw[if_pos hk,if_pos h5,decide_eq_true h5,Bool.true_and]
 ·show eZ (IntKind.u64.wrap (r.l-n))
  rw[hw];unfold eZ;omega
 ·have h5:r.l≠n:=fun h=>by rw[h] at h4;simp at h4
  unfold Rq.serve Rq.went Rq.left;rw[if_pos hk,if_neg h5,decide_eq_false h5,Bool.false_and,hw]
end

end Go.Proofs.YtnmbfjgcmfjdcaaGreatDoor
