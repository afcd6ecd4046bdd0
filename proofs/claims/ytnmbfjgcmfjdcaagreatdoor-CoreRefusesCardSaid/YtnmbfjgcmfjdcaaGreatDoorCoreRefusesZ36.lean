/- Texts of CoreRefuses's proof, together. -/
import Derived.Test.YtnmbfjgcmfjdcaaGreatDoorCoreRefusesZ35
import Derived.Laws.StructEq
namespace Go.Proofs.YtnmbfjgcmfjdcaaGreatDoor

section
open Go.RowKit
variable {a:It} {ps:List P3} {b:Int}
def fD (b:Int) (l:List It):Bool:=decide (iw b l≤4611686018427387904)
theorem ET (h:a.right=true):0≤aH a.u a.t∧aH a.u a.t≤1152921504606846976:=by
 unfold It.right at h;simp only[Bool.and_eq_true,decide_eq_true_eq] at h;omega
theorem La (b c k:Int):∀(ps:List P3) (m:Int),(∀p∈ps,aH p.1 c=aH p.1 b-k)→ps.foldl (fun m q=>min m (aH q.1 c)) (m-k)=ps.foldl (fun m q=>min m (aH q.1 b)) m-k
 |[],_,_=>rfl
 |p::ps,m,h=>by
  rw[List.foldl_cons,List.foldl_cons,h p ag,show min (m-k) (aH p.1 b-k)=min m (aH p.1 b)-k by omega];exact La b c k ps _ (fun q hq=>h q (by simp[hq]))
theorem Lb (b c k:Int):∀(ps:List P3) (m:Int),(∀p∈ps,aH p.1 c=aH p.1 b-k)→ps.foldl (fun m q=>max m (aH q.1 c)) (m-k)=ps.foldl (fun m q=>max m (aH q.1 b)) m-k
 |[],_,_=>rfl
 |p::ps,m,h=>by
  rw[List.foldl_cons,List.foldl_cons,h p ag,show max (m-k) (aH p.1 b-k)=max m (aH p.1 b)-k by omega];exact Lb b c k ps _ (fun q hq=>h q (by simp[hq]))
theorem UZ (b c k:Int) (h0:0<ps.length) (h:∀p∈ps,aH p.1 c=aH p.1 b-k):oW c ps=oW b ps-k:=by
 cases ps with
 |nil=>simp at h0
 |cons p ps=>unfold oW;simp only;rw[h p ag];exact La b c k ps _ (fun q hq=>h q (by simp[hq]))
theorem K4 (b c k:Int) (h0:0<ps.length) (h:∀p∈ps,aH p.1 c=aH p.1 b-k):kT c ps=kT b ps-k:=by
 cases ps with
 |nil=>simp at h0
 |cons p ps=>unfold kT;simp only;rw[h p ag];exact Lb b c k ps _ (fun q hq=>h q (by simp[hq]))
theorem J6 (b c k:Int) {l:List It} (h0:0<l.length) (h1:∀a∈l,aH a.t c=aH a.t b-k) (h2:∀a∈l,aH a.u c=aH a.u b-k):iw c l=iw b l:=by
 rw[(lC c l).1,(lC b l).1];rw[UZ b c k (ps:=l.map It.pp) (by simpa using h0) (fun p hp=>by obtain⟨a,ha,rfl⟩:=List.mem_map.1 hp;exact h1 a ha)];rw[K4 b c k (ps:=l.map It.pp) (by simpa using h0) (fun p hp=>by obtain⟨a,ha,rfl⟩:=List.mem_map.1 hp;exact h1 a ha)];rw[K4 b c k (ps:=l.map It.dp) (by simpa using h0) (fun p hp=>by obtain⟨a,ha,rfl⟩:=List.mem_map.1 hp;exact h2 a ha)];omega
theorem d4a {P:Prop} (h:P:=by
 rw[List.foldl_cons];refine⟨by omega,fun p hp=> ?_⟩;rcases List.mem_cons.1 hp with rfl|hp
 ·omega
 ·exact h2 p hp):P:=h
theorem lo_le (b:Int) (ps:List P3):∀m:Int,ps.foldl (fun m q=>min m (aH q.1 b)) m≤m∧∀p∈ps,ps.foldl (fun m q=>min m (aH q.1 b)) m≤aH p.1 b:=by
 induction ps with
 |nil=>intro m;exact⟨Int.le_refl _,by simp⟩
 |cons q ps ih=>
  intro m;obtain⟨h1,h2⟩:=ih (min m (aH q.1 b));exact d4a
theorem TB (b:Int) (ps:List P3):∀m:Int,m≤ps.foldl (fun m q=>max m (aH q.1 b)) m∧∀p∈ps,aH p.1 b≤ps.foldl (fun m q=>max m (aH q.1 b)) m:=by
 induction ps with
 |nil=>intro m;exact⟨Int.le_refl _,by simp⟩
 |cons q ps ih=>
  intro m;obtain⟨h1,h2⟩:=ih (max m (aH q.1 b));exact d4a
theorem CE:∀p∈ps,oW b ps≤aH p.1 b:=by
 cases ps with
 |nil=>simp
 |cons q ps=>intro p hp;rcases List.mem_cons.1 hp with rfl|hp;exact(lo_le b ps _).1;exact(lo_le b ps _).2 p hp
theorem tV:∀p∈ps,aH p.1 b≤kT b ps:=by
 cases ps with
 |nil=>simp
 |cons q ps=>intro p hp;rcases List.mem_cons.1 hp with rfl|hp;exact(TB b ps _).1;exact(TB b ps _).2 p hp
theorem Wi (b:Int) (ps:List P3):∀m:Int,ps.foldl (fun m q=>min m (aH q.1 b)) m=m∨∃p∈ps,ps.foldl (fun m q=>min m (aH q.1 b)) m=aH p.1 b:=by
 induction ps with
 |nil=>intro m;exact Or.inl rfl
 |cons q ps ih=>
  intro m;rw[List.foldl_cons];rcases ih (min m (aH q.1 b)) with h|⟨p,hp,h⟩
  ·rcases Int.le_total m (aH q.1 b) with g|g
   ·left;rw[h];omega
   ·right;exact⟨q,by simp,by rw[h];omega⟩
  ·exact Or.inr ⟨p,by simp[hp],h⟩
theorem WQ (b:Int) (ps:List P3):∀m:Int,ps.foldl (fun m q=>max m (aH q.1 b)) m=m∨∃p∈ps,ps.foldl (fun m q=>max m (aH q.1 b)) m=aH p.1 b:=by
 induction ps with
 |nil=>intro m;exact Or.inl rfl
 |cons q ps ih=>
  intro m;rw[List.foldl_cons];rcases ih (max m (aH q.1 b)) with h|⟨p,hp,h⟩
  ·rcases Int.le_total m (aH q.1 b) with g|g
   ·right;exact⟨q,by simp,by rw[h];omega⟩
   ·left;rw[h];omega
  ·exact Or.inr ⟨p,by simp[hp],h⟩
theorem El (h:0<ps.length):∃p∈ps,oW b ps=aH p.1 b:=by
 cases ps with
 |nil=>simp at h
 |cons q ps=>
  rcases Wi b ps (aH q.1 b) with g|⟨p,hp,g⟩
  ·exact⟨q,by simp,g⟩
  ·exact⟨p,by simp[hp],g⟩
theorem wE (h:0<ps.length):∃p∈ps,kT b ps=aH p.1 b:=by
 cases ps with
 |nil=>simp at h
 |cons q ps=>
  rcases WQ b ps (aH q.1 b) with g|⟨p,hp,g⟩
  ·exact⟨q,by simp,g⟩
  ·exact⟨p,by simp[hp],g⟩
theorem Oo (hi:a.In) (h:a.right=true):pR a.pp=true∧dJ a.pp:=by
 unfold It.right Cn at h;simp only[Bool.and_eq_true,decide_eq_true_eq] at h;refine⟨?_,hi.1,hi.2.1,hi.2.2.1⟩;unfold pR;simp only[Bool.and_eq_true,decide_eq_true_eq];exact h.1.1.1.1.1
end


section
open Go.RowKit
variable {l k:List It} {b:Int}
structure Fw (b:Int) (l:List It):Prop where
 few:l.length≤32
 Fj:Du l
 right:∀a∈l,a.right=true
 near:∀a∈l,-4611686018427387904≤aH a.t b∧aH a.t b≤4611686018427387904∧-4611686018427387904≤aH a.u b∧aH a.u b≤4611686018427387904
 within:iw b l≤4611686018427387904
theorem Fw.qz (h:Fw b l):∀p∈l.map It.pp,pR p=true∧dJ p:=fun p hp=>by
 obtain⟨a,ha,rfl⟩:=List.mem_map.1 hp
 exact Oo (h.Fj a ha) (h.right a ha)
theorem Fw.n32 (h:Fw b l):(l.map It.pp).length≤32:=by rw[List.length_map];exact h.few
theorem Fw.We (h:Fw b l) (h0:0<l.length):∃lo hi:Int,iw b l=hi-lo∧(∀a∈l,lo≤aH a.t b∧aH a.t b≤hi∧lo≤aH a.u b∧aH a.u b≤hi)∧hi-lo≤4611686018427387904∧-4611686018427387904≤lo∧hi≤4611686018427387904∧lo≤hi∧∃a∈l,lo=aH a.t b:=by
 have e:=(lC b l).1
 have hw:=h.within
 obtain⟨q,hq,hlo⟩:=El (b:=b) (ps:=l.map It.pp) (by simpa using h0)
 obtain⟨aq,haq,rfl⟩:=List.mem_map.1 hq
 simp only at hlo
 have l1:∀a∈l,oW b (l.map It.pp)≤aH a.t b:=fun a ha=>CE a.pp (List.mem_map.2 ⟨a,ha,rfl⟩)
 have l2:∀a∈l,aH a.t b≤kT b (l.map It.pp):=fun a ha=>tV a.pp (List.mem_map.2 ⟨a,ha,rfl⟩)
 have l3:∀a∈l,aH a.u b≤kT b (l.map It.dp):=fun a ha=>tV a.dp (List.mem_map.2 ⟨a,ha,rfl⟩)
 obtain⟨p,hp,hhi⟩:=wE (b:=b) (ps:=l.map It.pp) (by simpa using h0)
 obtain⟨ap,hap,rfl⟩:=List.mem_map.1 hp
 obtain⟨p2,hp2,hhi2⟩:=wE (b:=b) (ps:=l.map It.dp) (by simpa using h0)
 obtain⟨PO,RZ,rfl⟩:=List.mem_map.1 hp2
 simp only at hhi hhi2
 have n1:=h.near aq haq
 have n2:=h.near ap hap
 have n3:=h.near PO RZ
 have g1:=l2 aq haq
 refine⟨oW b (l.map It.pp),max (kT b (l.map It.pp)) (kT b (l.map It.dp)),e,fun a ha=> ?_,by omega,by omega,by omega,by omega,aq,haq,hlo⟩
 have a1:=l1 a ha
 have a2:=l2 a ha
 have a3:=l3 a ha
 have a4:=ET (h.right a ha)
 have a5:=h.near a ha
 have a6:aH a.u b=aH a.u a.t+aH a.t b:=Lh af af
 omega
def Nk (b:Int) (l:List It) (q:Int):Prop:=(∃a∈l,aH a.t b≤q)∧∃a∈l,q≤aH a.t b
theorem Fw.H9 (h:Fw b l) {q:Int} (hq:Nk b l q):Fw (il b q) l∧iw (il b q) l=iw b l∧(∀a∈l,aH a.t (il b q)=aH a.t b-q∧aH a.u (il b q)=aH a.u b-q):=by
 obtain⟨⟨x,hx,hx2⟩,y,hy,hy2⟩:=hq
 have h0:0<l.length:=List.length_pos_of_mem hx
 obtain⟨lo,hi,e,h1,h2,h3,h4,h5,_⟩:=h.We h0
 have kx:=h1 x hx
 have ky:=h1 y hy
 have key:∀a∈l,aH a.t (il b q)=aH a.t b-q∧aH a.u (il b q)=aH a.u b-q:=fun a ha=>by
  have:=h1 a ha
  exact⟨uR af af,uR af af⟩
 have hs:=J6 b (il b q) q h0 (fun a ha=>(key a ha).1) (fun a ha=>(key a ha).2)
 refine⟨⟨h.few,h.Fj,h.right,fun a ha=> ?_,by rw[hs];exact h.within⟩,hs,key⟩
 have:=h1 a ha
 rw[(key a ha).1,(key a ha).2]
 omega
theorem Fw.Jr (h:Fw b l) (h0:0<l.length):Nk b l (dD b (l.map It.pp)/dL (l.map It.pp)):=by
 have hr:=h.qz
 obtain⟨q,hq,hlo⟩:=El (b:=b) (ps:=l.map It.pp) (by simpa using h0)
 obtain⟨aq,haq,rfl⟩:=List.mem_map.1 hq
 obtain⟨p,hp,hhi⟩:=wE (b:=b) (ps:=l.map It.pp) (by simpa using h0)
 obtain⟨ap,hap,rfl⟩:=List.mem_map.1 hp
 have hf:=Va (t:=b) (lo:=oW b (l.map It.pp)) (hi:=kT b (l.map It.pp)) hr (by simpa using h0) (fun p hp=>CE p hp) (fun p hp=>tV p hp)
 exact⟨⟨aq,haq,by rw[←hlo];exact hf.1⟩,ap,hap,by rw[←hhi];exact hf.2⟩
theorem Fw.fl {b:Int} {l:List It} (h:Fw b l) (h0:0<l.length):(Mu.sums b (l.map It.pp)).fl=(true,il b (dD b (l.map It.pp)/dL (l.map It.pp))):=by
 have h6:=nA b h.qz h.n32
 obtain⟨⟨x,hx,hx2⟩,y,hy,hy2⟩:=h.Jr h0
 have kx:=h.near x hx
 have ky:=h.near y hy
 have hok:(Mu.sums b (l.map It.pp)).vG=true:=by
  unfold Mu.vG
  rw[h6]
  simp only[Bool.true_and,Bool.and_eq_true,decide_eq_true_eq,sD]
  refine⟨?_,?_⟩
  ·show(((l.map It.pp).length:Nat):Int)≠0
   rw[List.length_map];omega
  ·show-9223372036854775808≤dD _ _/dL _∧dD _ _/dL _≤9223372036854775807
   omega
 unfold Mu.fl
 rw[if_pos hok]
 rfl
theorem yN {b q:Int}:∀{l:List It},(∀a∈l,aH a.t (il b q)=aH a.t b-q)→dD (il b q) (l.map It.pp)=dD b (l.map It.pp)-q*dL (l.map It.pp)
 |[],_=>by simp[dD,dL]
 |a::l,h=>by
  have e:pD (il b q) a.pp=pD b a.pp-q*a.v:=by
   show aH a.t (il b q)*a.v+a.r=aH a.t b*a.v+a.r-q*a.v
   rw[h a ag,Int.sub_mul];omega
  rw[List.map_cons,gu,gu,gU,yN (fun x hx=>h x (by simp[hx])),e,Int.mul_add]
  show _=_-(q*a.v+_)
  omega
theorem Fw.q9 {b:Int} {l:List It} (h:Fw b l) {q:Int} (hq:Nk b l q):(Mu.sums b (l.map It.pp)).q9 (il b q)=(true,Mu.sums (il b q) (l.map It.pp)):=by
 obtain⟨h1,h2,h3⟩:=h.H9 hq
 obtain⟨⟨x,hx,hx2⟩,y,hy,hy2⟩:=hq
 have kx:=h.near x hx
 have ky:=h.near y hy
 have e:=yN (b:=b) (q:=q) (l:=l) (fun a ha=>(h3 a ha).1)
 have h6:=nA b h.qz h.n32
 have h7:=zK (il b q) h1.qz (by have:=h.n32;omega)
 have ed:aH (il b q) b=q:=Vf b af af
 unfold Mu.q9 Mu.zP
 have e3:(Mu.sums b (l.map It.pp)).b=b:=rfl
 have e4:(Mu.sums b (l.map It.pp)).a=dD b (l.map It.pp):=rfl
 have e5:(Mu.sums b (l.map It.pp)).w=dL (l.map It.pp):=rfl
 rw[h6,e3,e4,e5,ed,←e,dG.2 h7,if_pos au]
 rfl
def dE (b:Int) (l:List It):Int:=if l.length=0 then b else il b (dD b (l.map It.pp)/dL (l.map It.pp))
theorem OA (hb:eZ b) (l:List It):eZ (dE b l):=by unfold dE;split;exact hb;exact Gv _ _
theorem Fw.now (h:Fw b l):Fw (dE b l) l:=by
 unfold dE
 split
 ·exact h
 ·exact(h.H9 (h.Jr af)).1
theorem Fw.KR (h:Fw b l):dE (dE b l) l=dE b l:=by
 by_cases h0:l.length=0
 ·unfold dE;rw[if_pos h0]
 ·have hW:=AA h.qz (by rw[List.length_map];omega)
  obtain⟨_,_,h3⟩:=h.H9 (h.Jr af)
  have e:=yN (l:=l) (fun a ha=>(h3 a ha).1)
  unfold dE
  rw[if_neg h0,if_neg h0,e,Sj _ _ hW,Int.sub_self]
  exact SA (Gv _ _)
theorem Ma (b:Int):iw b []=0:=by rw[(lC b []).1];rfl
theorem Fw.nil (b:Int):Fw b []:=⟨by simp,fun x hx=>by simp at hx,by simp,by simp,by rw[Ma];omega⟩
def qM (b:Int) (l:List It):Mu:=Mu.sums b (l.map It.pp)
theorem L9 (hk:∀a∈k,a∈l) (h0:0<k.length):iw b k≤iw b l:=by
 rw[(lC b l).1,(lC b k).1]
 obtain⟨q,hq,hlo⟩:=El (b:=b) (ps:=k.map It.pp) (by simpa using h0)
 obtain⟨aq,haq,rfl⟩:=List.mem_map.1 hq
 obtain⟨p,hp,hhi⟩:=wE (b:=b) (ps:=k.map It.pp) (by simpa using h0)
 obtain⟨ap,hap,rfl⟩:=List.mem_map.1 hp
 obtain⟨p2,hp2,hhi2⟩:=wE (b:=b) (ps:=k.map It.dp) (by simpa using h0)
 obtain⟨PO,RZ,rfl⟩:=List.mem_map.1 hp2
 have g1:=CE (b:=b) (ps:=l.map It.pp) aq.pp (List.mem_map.2 ⟨aq,hk aq haq,rfl⟩)
 have g2:=tV (b:=b) (ps:=l.map It.pp) ap.pp (List.mem_map.2 ⟨ap,hk ap hap,rfl⟩)
 have g3:=tV (b:=b) (ps:=l.map It.dp) PO.dp (List.mem_map.2 ⟨PO,hk PO RZ,rfl⟩)
 simp only at *
 omega
theorem Fw.sub (h:Fw b l) (hk:∀a∈k,a∈l) (hn:k.length≤l.length):Fw b k:=by
 refine⟨by have:=h.few;omega,fun x hx=>h.Fj x (hk x hx),fun x hx=>h.right x (hk x hx),fun x hx=>h.near x (hk x hx),?_⟩
 rcases Nat.eq_zero_or_pos k.length with h0|h0
 ·have:k=[]:=List.eq_nil_of_length_eq_zero h0
  subst this
  exact(Fw.nil b).within
 ·exact Int.le_trans (L9 hk h0) h.within
theorem Fw.cons {b:Int} {l:List It} {a:It} (h:Fw b l) (ha:a.In) (hr:a.right=true) (hn:l.length<32) (hw:iw b (l++[a])≤4611686018427387904) (hz:(∃x∈l++[a],aH x.t b≤0)∧∃x∈l++[a],0≤aH x.t b):Fw b (l++[a]):=by
 have e:=(lC b (l++[a])).1
 have l1:∀x∈l++[a],oW b ((l++[a]).map It.pp)≤aH x.t b:=fun x hx=>CE x.pp (List.mem_map.2 ⟨x,hx,rfl⟩)
 have l2:∀x∈l++[a],aH x.t b≤kT b ((l++[a]).map It.pp):=fun x hx=>tV x.pp (List.mem_map.2 ⟨x,hx,rfl⟩)
 have l3:∀x∈l++[a],aH x.u b≤kT b ((l++[a]).map It.dp):=fun x hx=>tV x.dp (List.mem_map.2 ⟨x,hx,rfl⟩)
 obtain⟨⟨x,hx,hx2⟩,y,hy,hy2⟩:=hz
 have kx:=l1 x hx
 have ky:=l2 y hy
 have hR:∀z∈l++[a],z.right=true:=fun z hz=>by
  rcases List.mem_append.1 hz with h1|h1
  ·exact h.right z h1
  ·simp at h1;subst h1;exact hr
 refine⟨by simp;omega,fun z hz=> ?_,hR,fun z hz=> ?_,hw⟩
 ·rcases List.mem_append.1 hz with h1|h1
  ·exact h.Fj z h1
  ·simp at h1;subst h1;exact ha
 ·have a1:=l1 z hz
  have a2:=l2 z hz
  have a3:=l3 z hz
  have a4:=ET (hR z hz)
  have a5:=og z.u b
  have a6:aH z.u b=aH z.u z.t+aH z.t b:=Lh af af
  omega
end


section
open Go.RowKit
variable {x:It} {l:List It} {b:Int}
theorem Fw.dY {b:Int} {l:List It} (h:Fw b l):∃T k:Int,∀a∈l,dY T a=true∧aH a.t T=aH a.t b-k∧aH a.u T=aH a.u b-k:=by
 rcases Nat.eq_zero_or_pos l.length with h0|h0
 ·have:l=[]:=List.eq_nil_of_length_eq_zero h0;subst this;exact⟨0,0,by simp⟩
 ·obtain⟨lo,hi,e,h1,h2,h3,h4,h5,_⟩:=h.We h0;refine⟨il b (lo+1),lo+1,fun a ha=> ?_⟩;have:=h1 a ha;have e1:aH a.t (il b (lo+1))=aH a.t b-(lo+1):=uR af af;have e2:aH a.u (il b (lo+1))=aH a.u b-(lo+1):=uR af af;refine⟨?_,e1,e2⟩;unfold Proofs.YtnmbfjgcmfjdcaaGreatDoor.dY uJ;rw[e1,e2,h.right a ha];simp only[Bool.and_true,Bool.and_eq_true,decide_eq_true_eq];omega
theorem QF (h:Fw b l) (hx:x∈l):(qM b l).over x.pp=(true,(qM b l).ov x.pp)∧(qM b l).lag x.pp=(true,(qM b l).ov x.pp/(qM b l).w):=by
 have hm:x.pp∈l.map It.pp:=List.mem_map.2 ⟨x,hx,rfl⟩;have hv:=UE (t:=b) h.qz h.n32 (List.length_pos_of_mem hm) (h.qz _ hm);unfold Mu.over Mu.lag qM;rw[if_pos hv,if_pos hv];exact⟨rfl,rfl⟩
theorem Vj {x:Int}:0≤fK x 0↔0≤x:=by unfold fK;split<;>(try split)<;>omega
theorem Bp (h:Fw b l) (hx:x∈l):(qM b l).jM x.pp=true↔0≤(qM b l).ov x.pp:=by
 unfold Mu.jM;rw[(QF h hx).1];simp[Vj]
theorem Pj (h:Fw b l) {x y:It} (hx:x∈l) (hy:y∈l) (ha:It.ahead x y=true) (he:(qM b l).jM y.pp=true):(qM b l).jM x.pp=true:=by
 obtain⟨T,k,hT⟩:=h.dY;have Iu:=hT x hx;have hyT:=hT y hy;have hlt:=(Wd.ji Iu.1 hyT.1).1 ha;have hle:(x.p1 T).c (y.p1 T)≤0:=af;rw[Pl.le] at hle;simp only[It.p1] at hle;have hW:=AA h.qz (by rw[List.length_map];exact List.length_pos_of_mem hx);obtain⟨vx,vx1,rx,rx1⟩:=kQ (h.qz _ (List.mem_map.2 ⟨x,hx,rfl⟩)).2 (h.qz _ (List.mem_map.2 ⟨x,hx,rfl⟩)).1;obtain⟨vy,vy1,ry,ry1⟩:=kQ (h.qz _ (List.mem_map.2 ⟨y,hy,rfl⟩)).2 (h.qz _ (List.mem_map.2 ⟨y,hy,rfl⟩)).1;simp only at vx vx1 rx rx1 vy vy1 ry ry1;rw[Bp h hx];rw[Bp h hy] at he
 have key:pD b x.pp*y.v≤pD b y.pp*x.v:=by
  show(aH x.t b*x.v+x.r)*y.v≤(aH y.t b*y.v+y.r)*x.v
  rcases hle with hd|⟨hd,hr⟩
  ·have h1:aH x.t b+1≤aH y.t b:=af;have h2:(aH x.t b*x.v+x.r)*y.v≤((aH x.t b+1)*x.v)*y.v:=Int.mul_le_mul_of_nonneg_right (by rw[Int.add_mul];omega) af;have h3:((aH x.t b+1)*x.v)*y.v≤(aH y.t b*x.v)*y.v:=Int.mul_le_mul_of_nonneg_right (Int.mul_le_mul_of_nonneg_right h1 af) af;have h4:(aH y.t b*x.v)*y.v=(aH y.t b*y.v)*x.v:=by grind
   have h5:(aH y.t b*y.v)*x.v≤(aH y.t b*y.v+y.r)*x.v:=Int.mul_le_mul_of_nonneg_right af af;omega
  ·have h1:aH x.t b=aH y.t b:=af;rw[h1,Int.add_mul,Int.add_mul];have h4:aH y.t b*x.v*y.v=aH y.t b*y.v*x.v:=by grind
   omega
 have ex:(qM b l).ov x.pp=dD b (l.map It.pp)*x.v-pD b x.pp*dL (l.map It.pp):=rfl;have ey:(qM b l).ov y.pp=dD b (l.map It.pp)*y.v-pD b y.pp*dL (l.map It.pp):=rfl;rw[ey] at he;rw[ex];generalize dD b (l.map It.pp)=A at *;generalize dL (l.map It.pp)=W at *;generalize pD b x.pp=p at *;generalize pD b y.pp=q at *;have m1:p*y.v*W≤q*x.v*W:=Int.mul_le_mul_of_nonneg_right key af;have m2:0≤(A*y.v-q*W)*x.v:=Int.mul_nonneg he af
 have m3:0≤(A*x.v-p*W)*y.v:=by
  have e1:(A*y.v-q*W)*x.v=A*x.v*y.v-q*x.v*W:=by grind
  have e2:(A*x.v-p*W)*y.v=A*x.v*y.v-p*y.v*W:=by grind
  omega
 rcases Int.lt_or_le (A*x.v-p*W) 0 with g|g
 ·have:=Int.mul_neg_of_neg_of_pos g (show 0<y.v by omega);omega
 ·exact g
theorem NM (h:Fw b l) (h0:0<l.length):∃x∈l,(qM b l).jM x.pp=true:=by
 obtain⟨p,hp,h1⟩:=KG (m:=qM b l) (l:=l.map It.pp) (by rw[List.length_map];exact h0) (by rw[show rQ (qM b l) (l.map It.pp)=0 from NI b _];exact Int.le_refl 0);obtain⟨x,hx,rfl⟩:=List.mem_map.1 hp;exact⟨x,hx,(Bp h hx).2 h1⟩
theorem C8 {t:Tr It} (h:Fw b t.list) (hs:oK t.list):∃x:It,gN (fun y=>(qM b t.list).jM y.pp) t (false,It.zero)=(decide (0<t.list.length),x)∧(t.list.length=0→x=It.zero)∧(0<t.list.length→gY x (t.list.filter (fun y=>(qM b t.list).jM y.pp))):=by
 obtain⟨T,k,hT⟩:=h.dY;have hn:Wd.mq T t.list:=fun x hx=>(hT x hx).1;have hd:=Wd.M3 (t0:=T) (fun y=>(qM b t.list).jM y.pp) t (false,It.zero) [] hn hs (fun x hx y hy ha he=>Pj h hx hy ha he) (fun x hx=>by simp at hx) (Or.inl ⟨rfl,rfl,rfl⟩);rw[List.nil_append] at hd;obtain⟨f,x,hq⟩:∃f x,gN (fun y=>(qM b t.list).jM y.pp) t (false,It.zero)=(f,x):=⟨_,_,rfl⟩;rw[hq] at hd⊢
 rcases hd with⟨h1,h2,h3⟩|⟨h1,h2⟩
 ·simp only at h1 h2
  have h4:t.list.length=0:=by
   rcases Nat.eq_zero_or_pos t.list.length with g|g
   ·exact g
   ·obtain⟨y,hy,he⟩:=NM h g;have:y∈t.list.filter (fun y=>(qM b t.list).jM y.pp):=List.mem_filter.2 ⟨hy,he⟩;rw[h3] at this;simp at this
  exact⟨x,by rw[h1,h4];rfl,fun _=>h2,fun g=>by omega⟩
 ·simp only at h1 h2;have h4:0<t.list.length:=List.length_pos_of_mem (List.mem_filter.1 h2.1).1;exact⟨x,by rw[h1,decide_eq_true h4],fun g=>by omega,fun _=>h2⟩
end


section
open Go.RowKit
variable {l k:List It} {b:Int}
theorem EK (b:Int) {l k:List P3} (h:l.Perm k):dD b l=dD b k:=by
 induction h with
 |nil=>rfl
 |cons x _ ih=>rw[gu,gu,ih]
 |swap x y l=>rw[gu,gu,gu,gu];omega
 |trans _ _ h1 h2=>rw[h1,h2]
theorem EJ {l k:List P3} (h:l.Perm k):dL l=dL k:=by
 induction h with
 |nil=>rfl
 |cons x _ ih=>rw[gU,gU,ih]
 |swap x y l=>rw[gU,gU,gU,gU];omega
 |trans _ _ h1 h2=>rw[h1,h2]
theorem Fw.perm (h:Fw b l) (p:l.Perm k):Fw b k:=h.sub (fun _ ha=>p.mem_iff.2 ha) (by rw[p.length_eq];exact Nat.le_refl _)
theorem UN (b:Int) (p:l.Perm k):qM b l=qM b k:=by
 unfold qM Mu.sums;rw[EK b (p.map It.pp),EJ (p.map It.pp),(p.map It.pp).length_eq]
theorem Oz (b:Int) (p:l.Perm k):dE b l=dE b k:=by
 unfold dE;rw[p.length_eq,EK b (p.map It.pp),EJ (p.map It.pp)]
theorem yY (a:It) (l:List It):(l++[a]).Perm (jX a l):=by
 unfold jX;have e:l.takeWhile (fun y=> !It.ahead a y)++l.dropWhile (fun y=> !It.ahead a y)=l:=List.takeWhile_append_dropWhile;have h1:(l++[a]).Perm (a::l):=List.perm_append_singleton a l;have h2:(l.takeWhile (fun y=> !It.ahead a y)++a::l.dropWhile (fun y=> !It.ahead a y)).Perm (a::(l.takeWhile (fun y=> !It.ahead a y)++l.dropWhile (fun y=> !It.ahead a y))):=List.perm_middle;rw[e] at h2;exact h1.trans h2.symm
theorem Rh (h:Fw b l) (h0:0<l.length) (hn:dE b l=b):Nk b l 0:=by
 have ha:=h.Jr h0;unfold dE at hn;rw[if_neg af] at hn;obtain⟨⟨x,hx,hx2⟩,y,hy,hy2⟩:=id ha;have kx:=h.near x hx;have ky:=h.near y hy;generalize dD b (l.map It.pp)/dL (l.map It.pp)=q at *;have:q=0:=by unfold il at hn;omega
 rwa [this] at ha
def dZ (b:Int) (l:List It) (a:It):Int:=if l.length=0 then a.t else b
theorem Fw.join {a:It} (h:Fw b l) (hn:dE b l=b) (ha:a.In) (hr:a.right=true) (h32:l.length<32) (hw:fD (dZ b l a) (l++[a])=true):
  Fw (dZ b l a) (l++[a])∧(qM (dZ b l a) l).add a.pp=(true,qM (dZ b l a) (l++[a])):=by
 unfold fD at hw;rw[decide_eq_true_eq] at hw
 have hF:Fw (dZ b l a) (l++[a]):=by
  unfold dZ at *;by_cases h0:l.length=0
  ·have e:l=[]:=List.eq_nil_of_length_eq_zero h0;subst e;rw[if_pos h0] at hw⊢
   exact(Fw.nil a.t).cons ha hr ag hw ⟨⟨a,by simp,by rw[Jf];exact Int.le_refl 0⟩,a,by simp,by rw[Jf];exact Int.le_refl 0⟩
  ·rw[if_neg h0] at hw⊢
   obtain⟨⟨x,hx,hx2⟩,y,hy,hy2⟩:=Rh h af hn;exact h.cons ha hr h32 hw ⟨⟨x,by simp[hx],hx2⟩,y,by simp[hy],hy2⟩
 refine⟨hF,?_⟩;have hp:∀p∈l.map It.pp,pR p=true∧dJ p:=h.qz;have:=QG (dZ b l a) hp (Oo ha hr) (by rw[List.length_map];exact h32);unfold qM;rw[this,List.map_append];rfl
theorem Fw.settle (h:Fw b l) (h0:0<l.length):(qM b l).fl=(true,dE b l)∧(qM b l).q9 (dE b l)=(true,qM (dE b l) l):=by
 unfold dE qM;rw[if_neg af];exact⟨h.fl h0,h.q9 (h.Jr h0)⟩
theorem UR (b:Int):(qM b []).fl=(false,0):=by
 unfold Mu.fl Mu.vG;rw[if_neg (by simp[qM,Mu.sums])]
theorem Fw.take {b:Int} {l m:List It} {a:It} (h:Fw b (l++a::m)):(qM b (l++a::m)).take a.pp=(true,qM b (l++m))∧Fw b (l++m):=by
 have hk:l.length<((l++a::m).map It.pp).length:=by simp
 have h1:=NF b (l:=(l++a::m).map It.pp) (k:=l.length) h.qz hk h.n32;have e1:((l++a::m).map It.pp).getD l.length (0,0,0)=a.pp:=by simp[List.getD]
 have e2:((l++a::m).map It.pp).take l.length++((l++a::m).map It.pp).drop (l.length+1)=(l++m).map It.pp:=by
  simp[List.drop_append,List.map_append]
 rw[e1,e2] at h1;refine⟨h1,h.sub (fun x hx=> ?_) ag⟩;rcases List.mem_append.1 hx with g|g
 ·simp[g]
 ·simp[g]
end


section
open Go.RowKit
def Rq.Pg (a b:Rq):Bool:=a.a.t == b.a.t&&a.a.r == b.a.r&&a.a.v == b.a.v&&a.a.i == b.a.i&&a.a.u == b.a.u&&a.a.s == b.a.s&&a.a.y == b.a.y&&a.l == b.l&&a.s == b.s&&a.z == b.z
theorem Rq.Vd {a b:Rq}:Rq.Pg a b=true↔a=b:=by
 obtain⟨⟨t,r,v,i,u,s,y⟩,l,g,z⟩:=a;obtain⟨⟨t',r',v',i',u',s',y'⟩,l',g',z'⟩:=b;unfold Rq.Pg;simp only[Bool.and_eq_true,beq_iff_eq,Rq.mk.injEq,It.mk.injEq];constructor
 ·rintro⟨⟨⟨⟨⟨⟨⟨⟨⟨h1,h2⟩,h3⟩,h4⟩,h5⟩,h6⟩,h7⟩,h8⟩,h9⟩,h10⟩;exact⟨⟨h1,h2,h3,h4,h5,h6,h7⟩,h8,h9,h10⟩
 ·rintro⟨⟨h1,h2,h3,h4,h5,h6,h7⟩,h8,h9,h10⟩;exact⟨⟨⟨⟨⟨⟨⟨⟨⟨h1,h2⟩,h3⟩,h4⟩,h5⟩,h6⟩,h7⟩,h8⟩,h9⟩,h10⟩
set_option maxHeartbeats 8000000 in
theorem gX.Ph (t1 t2 r1 r2 v1 v2 i1 i2 u1 u2 s1 s2 y1 y2 l1 l2 g1 g2:Int) (z1 z2:Bool) (w:World):
  (binOp .eql 59 (.agg #[.int .u64 t1, .int .u32 r1, .int .u32 v1, .int .i64 i1, .int .u64 u1, .int .u32 s1, .int .u32 y1, .int .u64 l1, .int .u64 g1, .bool z1]) (.agg #[.int .u64 t2, .int .u32 r2, .int .u32 v2, .int .i64 i2, .int .u64 u2, .int .u32 s2, .int .u32 y2, .int .u64 l2, .int .u64 g2, .bool z2])).run Tryz.prog w= .ok (.bool (Rq.Pg (Rq.mk (It.mk t1 r1 v1 i1 u1 s1 y1) l1 g1 z1) (Rq.mk (It.mk t2 r2 v2 i2 u2 s2 y2) l2 g2 z2))) w:=by
 unfold Rq.Pg;by_cases pt:t1=t2
 ·subst pt;by_cases pr:r1=r2
  ·subst pr;by_cases pv:v1=v2
   ·subst pv;by_cases pi:i1=i2
    ·subst pi;by_cases pu:u1=u2
     ·subst pu;by_cases ps:s1=s2
      ·subst ps;by_cases py:y1=y2
       ·subst py;by_cases pl:l1=l2
        ·subst pl;by_cases pg:g1=g2
         ·subst pg;cases z1<;>cases z2<;>go_simp
         ·have qg:(g1 == g2)=false:=by simpa using pg
          go_simp
        ·have ql:(l1 == l2)=false:=by simpa using pl
         go_simp
       ·have qy:(y1 == y2)=false:=by simpa using py
        go_simp
      ·have qs:(s1 == s2)=false:=by simpa using ps
       go_simp
     ·have qu:(u1 == u2)=false:=by simpa using pu
      go_simp
    ·have qi:(i1 == i2)=false:=by simpa using pi
     go_simp
   ·have qv:(v1 == v2)=false:=by simpa using pv
    go_simp
  ·have qr:(r1 == r2)=false:=by simpa using pr
   go_simp
 ·have qt:(t1 == t2)=false:=by simpa using pt
  go_simp
end

end Go.Proofs.YtnmbfjgcmfjdcaaGreatDoor
